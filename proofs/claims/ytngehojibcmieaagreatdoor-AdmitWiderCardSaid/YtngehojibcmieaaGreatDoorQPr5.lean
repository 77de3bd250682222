/- What is proved here: the contract of image.Decode. Conditions: the bytes are at most a million; the listed variables hold what their initialisers lay. -/
import Derived.Test.YtngehojibcmieaaGreatDoorQP4
import Derived.Test.YtngehojibcmieaaGreatDoorQGj
set_option maxRecDepth 100000
set_option maxHeartbeats 8000000
section
namespace Go.Proofs.YtngehojibcmieaaGreatDoor
open Go.ChangeShapes Go.WideShapes Go.RowKit
def noIv : ImV := ⟨0, 0, 0, 0, ⟨none, 0, 0⟩, ⟨none, 0, 0⟩, ⟨none, 0, 0⟩⟩
theorem pre_mark (l : List UInt8) : Lib.hasPrefix l [80, 76, 67, 49] = decide (l.take 4 = mark) := by
 rw [← Lib.hasPrefix_of_take]
 show (decide (4 ≤ l.length) && (l.take 4 == mark)) = _
 by_cases h : l.take 4 = mark
 ·have : (l.take 4).length = 4 := by rw [h]; rfl
  rw [List.length_take] at this
  rw [h]
  simp; omega
 ·simp [h]
theorem noIm_is (w : World) : noIv.Is w noIm := ⟨rfl, rfl, rfl, rfl, ⟨⟨rfl, fun h => absurd h (Nat.lt_irrefl 0)⟩, Nat.zero_le _⟩, ⟨⟨rfl, fun h => absurd h (Nat.lt_irrefl 0)⟩, Nat.zero_le _⟩, ⟨⟨rfl, fun h => absurd h (Nat.lt_irrefl 0)⟩, Nat.zero_le _⟩⟩
theorem noIm_firm (lo : Nat) (w : World) : noIv.Firm lo w noIm := ⟨fun _ => True, trivial, fun _ _ _ _ _ _ => trivial, fun W _ => noIm_is W⟩
theorem decode_any (s : ByteArray) (hs : s.size ≤ 1000000) (w : World) (hN : Nms w) (hH : Kr.Hal w) (K : ImP) (E : Int) (hq : decM s.data.toList = (K, E)) :
  Calls Tryz.prog 17 #[.string s] w fun e w' => ∃ x : ImV, e = .returned (.tuple #[x.v, .int .i64 E]) ∧ x.Firm w.heap.size w' K ∧ Below w.heap.size w w' := by
 obtain ⟨⟨l1, e1⟩, q1⟩ : ∃ p, Kr.opn s.data.toList = p := ⟨_, rfl⟩
 have C1 := Lib.hid (Kr.open_any s hs)
 rw [q1] at C1
 have HQ := Lib.hid hq
 have HL1 : Hid (l1.length ≤ 1000000) := by
  have h : (Kr.opn s.data.toList).1.length ≤ s.data.toList.length := by
   unfold Kr.opn
   split
   ·simp
   ·split <;> simp
  rw [q1] at h
  have h : l1.length ≤ _ := h
  have : s.data.toList.length = s.size := by simp
  show l1.length ≤ _
  omega
 have HN := Lib.hid hN
 obtain ⟨o, ho⟩ : ∃ o, o = Obj.cells #[.int .i64 0, .int .i64 0, .int .i64 0, .int .i64 0, .slice none 0 0, .slice none 0 0, .slice none 0 0] 26 := ⟨_, rfl⟩
 have HH := Lib.hid (hH.below (below_alloc w o))
 have D0 := Lib.hid (imF_new w 0 0 0 0 (.slice none 0 0) (.slice none 0 0) (.slice none 0 0))
 rw [← ho] at D0
 subst ho
 clear hq
 go_enter Tryz.func17, Tryz.ntmps17
 go_upto_region 2 with (first
  | (go_at_call 41; refine (C1.out _ HH.out).mono ?_; rintro e w1 ⟨rfl, h1⟩; have D1 := Lib.hid (World.rowIs.of_block D0.out (h1.block _ (World.rowIs.lt D0.out)))))
 have g0 : w1.cell? ⟨w.heap.size, 0, none⟩ = some (.int .i64 0) := World.rowIs.cell D1.out (i := 0) (by omega)
 have g1 : w1.cell? ⟨w.heap.size, 1, none⟩ = some (.int .i64 0) := World.rowIs.cell D1.out (i := 1) (by omega)
 have g2 : w1.cell? ⟨w.heap.size, 2, none⟩ = some (.int .i64 0) := World.rowIs.cell D1.out (i := 2) (by omega)
 have g3 : w1.cell? ⟨w.heap.size, 3, none⟩ = some (.int .i64 0) := World.rowIs.cell D1.out (i := 3) (by omega)
 have g4 : w1.cell? ⟨w.heap.size, 4, none⟩ = some (.slice none 0 0) := World.rowIs.cell D1.out (i := 4) (by omega)
 have g5 : w1.cell? ⟨w.heap.size, 5, none⟩ = some (.slice none 0 0) := World.rowIs.cell D1.out (i := 5) (by omega)
 have g6 : w1.cell? ⟨w.heap.size, 6, none⟩ = some (.slice none 0 0) := World.rowIs.cell D1.out (i := 6) (by omega)
 have z0 := World.rowIs.frozen D1.out 0
 have z1 := World.rowIs.frozen D1.out 1
 have z2 := World.rowIs.frozen D1.out 2
 have z3 := World.rowIs.frozen D1.out 3
 have z4 := World.rowIs.frozen D1.out 4
 have z5 := World.rowIs.frozen D1.out 5
 have z6 := World.rowIs.frozen D1.out 6
 have HB := Lib.hid (((Below.refl w.heap.size w).alloc (Nat.le_refl _) _).trans (h1.mono (by simp)))
 have HN1 := Lib.hid (hN.below (keep_below (below_alloc w _) h1))
 by_cases he : e1 = 0
 ·subst he
  have HP : Hid (Calls Tryz.prog 42 #[.string (bs l1), .string ⟨#[80, 76, 67, 49]⟩] w1 fun e w' => e = .returned (.bool (decide (l1.take 4 = mark))) ∧ w' = w1) := by
   have h := Tryz.strings_HasPrefix (bs l1) ⟨#[80, 76, 67, 49]⟩ w1
   rw [bs_list] at h
   have e : Lib.hasPrefix l1 (ByteArray.data ⟨#[80, 76, 67, 49]⟩).toList = decide (l1.take 4 = mark) := pre_mark l1
   rw [e] at h
   exact h
  by_cases hp : l1.take 4 = mark
  ·obtain ⟨⟨K2, st2⟩, q2⟩ : ∃ p, rImage l1 ⟨4, 0⟩ = p := ⟨_, rfl⟩
   have hl4 : 4 ≤ l1.length := by
    have : (l1.take 4).length = 4 := by rw [hp]; rfl
    rw [List.length_take] at this; omega
   have C2 := Lib.hid (fun g W hR hN hg => image_rd g (bs l1) ⟨4, 0⟩ st2 K2 W hR (by rw [bs_size]; exact HL1.out) (by rw [bs_list]; exact fun _ => ⟨by decide, by show (4 : Int) ≤ _; omega⟩) hN hg (by rw [bs_list]; exact q2))
   have HQ2 : Hid ((if st2.err ≠ 0 then (noIm, st2.err) else if st2.pos ≠ l1.length then (noIm, 3) else if imE K2 = false then (noIm, 12) else (K2, 0)) = (K, E)) := by
    have := HQ.out
    unfold decM at this
    rw [q1, if_neg (by simp), if_neg (by simp [hp]), q2] at this
    exact this
   rw [decide_eq_true hp] at HP
   clear HQ
   obtain ⟨o2, ho2⟩ : ∃ o, o = Obj.cells #[.string (bs l1), .int .i64 4, .int .i64 0] 90 := ⟨_, rfl⟩
   have hr0 : Rdr 90 w1.heap.size (bs l1) ⟨4, 0⟩ (w1.alloc o2) := by
    subst ho2
    exact (rowIs_new w1 #[.string (bs l1), .int .i64 4, .int .i64 0] 90 3 rfl).congr fun i hi => by
     match i, hi with
     | 0, _ => rfl
     | 1, _ => rfl
     | 2, _ => rfl
   have C3 := Lib.hid (C2.out w1.heap.size (w1.alloc o2) hr0 (HN1.out.below (below_alloc w1 o2)) HN1.out.1)
   subst ho2
   clear hr0 C2 q2
   go_upto_region 7 with (go_at_call 42; refine HP.out.mono ?_; rintro e w2 ⟨rfl, hw2⟩; obtain rfl : w1 = w2 := hw2.symm; clear hw2)
   go_upto_region 8 with (go_at_call 43; refine C3.out.mono ?_; rintro e w2 ⟨⟨a, b, c, d, ⟨xa, xn, xc⟩, ⟨ya, yn, yc⟩, ⟨za, zn, zc⟩⟩, rfl, hx, hr, hk⟩; unfold ImV.v Sl.v)
   have hlt1 : w.heap.size < w1.heap.size := Nat.lt_of_lt_of_le (by simp) h1.size
   have LA := below_alloc w2 (.cells #[.int .i64 a, .int .i64 b, .int .i64 c, .int .i64 d, .slice xa xn xc, .slice ya yn yc, .slice za zn zc] 26)
   have IM := Lib.hid (imF_new w2 a b c d (.slice xa xn xc) (.slice ya yn yc) (.slice za zn zc))
   have B3 : Hid (Below w1.heap.size w1 (w2.alloc (.cells #[.int .i64 a, .int .i64 b, .int .i64 c, .int .i64 d, .slice xa xn xc, .slice ya yn yc, .slice za zn zc] 26))) :=
    keep_below ((below_alloc w1 _).trans (hk.below (Nat.le_refl _) (by simp))) LA
   generalize w2.alloc (.cells #[.int .i64 a, .int .i64 b, .int .i64 c, .int .i64 d, .slice xa xn xc, .slice ya yn yc, .slice za zn zc] 26) = W3 at LA IM B3 ⊢
   have HX := Lib.hid (hx.is.below LA)
   have HF : Hid (∀ W, Kep w.heap.size W3 W → ImV.Firm ⟨a, b, c, d, ⟨xa, xn, xc⟩, ⟨ya, yn, yc⟩, ⟨za, zn, zc⟩⟩ (w1.heap.size + 1) W K2) := fun W hW => (hx.mono (by simp)).kep ((Kep.of LA).trans hW) (by omega)
   have HR := Lib.hid (hr.below LA)
   have D3 := Lib.hid (World.rowIs.of_block D1.out (B3.out.block _ hlt1))
   have HN3 := Lib.hid (HN1.out.below B3.out)
   clear g0 g1 g2 g3 g4 g5 g6 z0 z1 z2 z3 z4 z5 z6 hx hr hk LA C3 D1
   have g0 : W3.cell? ⟨w.heap.size, 0, none⟩ = some (.int .i64 0) := World.rowIs.cell D3.out (i := 0) (by omega)
   have g1 : W3.cell? ⟨w.heap.size, 1, none⟩ = some (.int .i64 0) := World.rowIs.cell D3.out (i := 1) (by omega)
   have g2 : W3.cell? ⟨w.heap.size, 2, none⟩ = some (.int .i64 0) := World.rowIs.cell D3.out (i := 2) (by omega)
   have g3 : W3.cell? ⟨w.heap.size, 3, none⟩ = some (.int .i64 0) := World.rowIs.cell D3.out (i := 3) (by omega)
   have g4 : W3.cell? ⟨w.heap.size, 4, none⟩ = some (.slice none 0 0) := World.rowIs.cell D3.out (i := 4) (by omega)
   have g5 : W3.cell? ⟨w.heap.size, 5, none⟩ = some (.slice none 0 0) := World.rowIs.cell D3.out (i := 5) (by omega)
   have g6 : W3.cell? ⟨w.heap.size, 6, none⟩ = some (.slice none 0 0) := World.rowIs.cell D3.out (i := 6) (by omega)
   have z0 := World.rowIs.frozen D3.out 0
   have z1 := World.rowIs.frozen D3.out 1
   have z2 := World.rowIs.frozen D3.out 2
   have z3 := World.rowIs.frozen D3.out 3
   have z4 := World.rowIs.frozen D3.out 4
   have z5 := World.rowIs.frozen D3.out 5
   have z6 := World.rowIs.frozen D3.out 6
   have m0 : W3.cell? ⟨w2.heap.size, 0, none⟩ = some (.int .i64 a) := World.rowIs.cell IM.out (i := 0) (by omega)
   have m1 : W3.cell? ⟨w2.heap.size, 1, none⟩ = some (.int .i64 b) := World.rowIs.cell IM.out (i := 1) (by omega)
   have m2 : W3.cell? ⟨w2.heap.size, 2, none⟩ = some (.int .i64 c) := World.rowIs.cell IM.out (i := 2) (by omega)
   have m3 : W3.cell? ⟨w2.heap.size, 3, none⟩ = some (.int .i64 d) := World.rowIs.cell IM.out (i := 3) (by omega)
   have m4 : W3.cell? ⟨w2.heap.size, 4, none⟩ = some (.slice xa xn xc) := World.rowIs.cell IM.out (i := 4) (by omega)
   have m5 : W3.cell? ⟨w2.heap.size, 5, none⟩ = some (.slice ya yn yc) := World.rowIs.cell IM.out (i := 5) (by omega)
   have m6 : W3.cell? ⟨w2.heap.size, 6, none⟩ = some (.slice za zn zc) := World.rowIs.cell IM.out (i := 6) (by omega)
   have r0 := HR.out.c0
   have r1 := HR.out.c1
   have r2 := HR.out.c2
   obtain ⟨pr, er⟩ := st2
   by_cases he : er = 0
   ·subst he
    by_cases hps : pr = l1.length
    ·have hd : (pr == ((bs l1).size : Int)) = true := by rw [bs_size]; exact beq_iff_eq.2 hps
     obtain ⟨r, hr⟩ : ∃ r, imE K2 = r := ⟨_, rfl⟩
     have CR := Lib.hid (imRight_any ⟨a, b, c, d, ⟨xa, xn, xc⟩, ⟨ya, yn, yc⟩, ⟨za, zn, zc⟩⟩ K2 W3 HX.out HN3.out r hr)
     have hq3 := HQ2.out
     rw [if_neg (by simp), if_neg (by simp [hps]), hr] at hq3
     clear g0 g1 g2 g3 g4 g5 g6 z0 z1 z2 z3 z4 z5 z6
     cases r
     ·have HV : Hid (K = noIm ∧ E = 12) := by cases hq3; exact ⟨rfl, rfl⟩
      clear hq3 hr
      unfold ImV.v Sl.v at CR
      go_wp2_with (go_at_call 44; refine CR.out.mono ?_; rintro e w4 ⟨rfl, h4⟩; have D4 := Lib.hid (World.rowIs.of_block D3.out (h4.block _ (World.rowIs.lt D3.out))); have B4 := Lib.hid (keep_below B3.out h4); have g0 : w4.cell? ⟨w.heap.size, 0, none⟩ = some (.int .i64 0) := World.rowIs.cell D4.out (i := 0) (by omega); have g1 : w4.cell? ⟨w.heap.size, 1, none⟩ = some (.int .i64 0) := World.rowIs.cell D4.out (i := 1) (by omega); have g2 : w4.cell? ⟨w.heap.size, 2, none⟩ = some (.int .i64 0) := World.rowIs.cell D4.out (i := 2) (by omega); have g3 : w4.cell? ⟨w.heap.size, 3, none⟩ = some (.int .i64 0) := World.rowIs.cell D4.out (i := 3) (by omega); have g4 : w4.cell? ⟨w.heap.size, 4, none⟩ = some (.slice none 0 0) := World.rowIs.cell D4.out (i := 4) (by omega); have g5 : w4.cell? ⟨w.heap.size, 5, none⟩ = some (.slice none 0 0) := World.rowIs.cell D4.out (i := 5) (by omega); have g6 : w4.cell? ⟨w.heap.size, 6, none⟩ = some (.slice none 0 0) := World.rowIs.cell D4.out (i := 6) (by omega); have z0 := World.rowIs.frozen D4.out 0; have z1 := World.rowIs.frozen D4.out 1; have z2 := World.rowIs.frozen D4.out 2; have z3 := World.rowIs.frozen D4.out 3; have z4 := World.rowIs.frozen D4.out 4; have z5 := World.rowIs.frozen D4.out 5; have z6 := World.rowIs.frozen D4.out 6)
      have D8 : (((((((w4.setCell ⟨w.heap.size, 0, none⟩ (.int .i64 0)).setCell ⟨w.heap.size, 1, none⟩ (.int .i64 0)).setCell ⟨w.heap.size, 2, none⟩ (.int .i64 0)).setCell ⟨w.heap.size, 3, none⟩ (.int .i64 0)).setCell ⟨w.heap.size, 4, none⟩ (.slice none 0 0)).setCell ⟨w.heap.size, 5, none⟩ (.slice none 0 0)).setCell ⟨w.heap.size, 6, none⟩ (.slice none 0 0)).rowIs w.heap.size 26 7 (imF 0 0 0 0 (.slice none 0 0) (.slice none 0 0) (.slice none 0 0)) :=
       (((((((D4.out.set 0 _).set 1 _).set 2 _).set 3 _).set 4 _).set 5 _).set 6 _).congr (fun j hj => by
        match j, hj with
        | 0, _ => rfl
        | 1, _ => rfl
        | 2, _ => rfl
        | 3, _ => rfl
        | 4, _ => rfl
        | 5, _ => rfl
        | 6, _ => rfl)
      have K8 : Kep w.heap.size w4 (((((((w4.setCell ⟨w.heap.size, 0, none⟩ (.int .i64 0)).setCell ⟨w.heap.size, 1, none⟩ (.int .i64 0)).setCell ⟨w.heap.size, 2, none⟩ (.int .i64 0)).setCell ⟨w.heap.size, 3, none⟩ (.int .i64 0)).setCell ⟨w.heap.size, 4, none⟩ (.slice none 0 0)).setCell ⟨w.heap.size, 5, none⟩ (.slice none 0 0)).setCell ⟨w.heap.size, 6, none⟩ (.slice none 0 0)) := (((((((Kep.set _ _ _ _).trans (Kep.set _ _ _ _)).trans (Kep.set _ _ _ _)).trans (Kep.set _ _ _ _)).trans (Kep.set _ _ _ _)).trans (Kep.set _ _ _ _)).trans (Kep.set _ _ _ _))
      generalize (((((((w4.setCell ⟨w.heap.size, 0, none⟩ (.int .i64 0)).setCell ⟨w.heap.size, 1, none⟩ (.int .i64 0)).setCell ⟨w.heap.size, 2, none⟩ (.int .i64 0)).setCell ⟨w.heap.size, 3, none⟩ (.int .i64 0)).setCell ⟨w.heap.size, 4, none⟩ (.slice none 0 0)).setCell ⟨w.heap.size, 5, none⟩ (.slice none 0 0)).setCell ⟨w.heap.size, 6, none⟩ (.slice none 0 0)) = W8 at D8 K8 ⊢
      clear g0 g1 g2 g3 g4 g5 g6 z0 z1 z2 z3 z4 z5 z6
      have g0 : W8.cell? ⟨w.heap.size, 0, none⟩ = some (.int .i64 0) := World.rowIs.cell D8 (i := 0) (by omega)
      have g1 : W8.cell? ⟨w.heap.size, 1, none⟩ = some (.int .i64 0) := World.rowIs.cell D8 (i := 1) (by omega)
      have g2 : W8.cell? ⟨w.heap.size, 2, none⟩ = some (.int .i64 0) := World.rowIs.cell D8 (i := 2) (by omega)
      have g3 : W8.cell? ⟨w.heap.size, 3, none⟩ = some (.int .i64 0) := World.rowIs.cell D8 (i := 3) (by omega)
      have g4 : W8.cell? ⟨w.heap.size, 4, none⟩ = some (.slice none 0 0) := World.rowIs.cell D8 (i := 4) (by omega)
      have g5 : W8.cell? ⟨w.heap.size, 5, none⟩ = some (.slice none 0 0) := World.rowIs.cell D8 (i := 5) (by omega)
      have g6 : W8.cell? ⟨w.heap.size, 6, none⟩ = some (.slice none 0 0) := World.rowIs.cell D8 (i := 6) (by omega)
      refine bodyPost_ret (v := .tuple #[noIv.v, .int .i64 12]) (by simp [results, Tryz.results17, go_sem, g0, g1, g2, g3, g4, g5, g6, noIv, ImV.v, Sl.v]) rfl ?_
      rw [HV.out.1, HV.out.2]
      exact ⟨_, rfl, noIm_firm _ _, HB.out.trans ((B4.out.mono (Nat.le_of_lt hlt1)).trans (K8.below (Nat.le_refl _) (Nat.le_trans (Nat.le_of_lt hlt1) B4.out.size)))⟩
     ·have HV : Hid (K = K2 ∧ E = 0) := by cases hq3; exact ⟨rfl, rfl⟩
      clear hq3 hr
      unfold ImV.v Sl.v at CR
      go_wp2_with (go_at_call 44; refine CR.out.mono ?_; rintro e w4 ⟨rfl, h4⟩; have D4 := Lib.hid (World.rowIs.of_block D3.out (h4.block _ (World.rowIs.lt D3.out))); have B4 := Lib.hid (keep_below B3.out h4); have IM4 := Lib.hid (World.rowIs.of_block IM.out (h4.block _ (World.rowIs.lt IM.out))); have KX4 := Lib.hid (Kep.of (g := w.heap.size) h4); have g0 : w4.cell? ⟨w.heap.size, 0, none⟩ = some (.int .i64 0) := World.rowIs.cell D4.out (i := 0) (by omega); have g1 : w4.cell? ⟨w.heap.size, 1, none⟩ = some (.int .i64 0) := World.rowIs.cell D4.out (i := 1) (by omega); have g2 : w4.cell? ⟨w.heap.size, 2, none⟩ = some (.int .i64 0) := World.rowIs.cell D4.out (i := 2) (by omega); have g3 : w4.cell? ⟨w.heap.size, 3, none⟩ = some (.int .i64 0) := World.rowIs.cell D4.out (i := 3) (by omega); have g4 : w4.cell? ⟨w.heap.size, 4, none⟩ = some (.slice none 0 0) := World.rowIs.cell D4.out (i := 4) (by omega); have g5 : w4.cell? ⟨w.heap.size, 5, none⟩ = some (.slice none 0 0) := World.rowIs.cell D4.out (i := 5) (by omega); have g6 : w4.cell? ⟨w.heap.size, 6, none⟩ = some (.slice none 0 0) := World.rowIs.cell D4.out (i := 6) (by omega); have z0 := World.rowIs.frozen D4.out 0; have z1 := World.rowIs.frozen D4.out 1; have z2 := World.rowIs.frozen D4.out 2; have z3 := World.rowIs.frozen D4.out 3; have z4 := World.rowIs.frozen D4.out 4; have z5 := World.rowIs.frozen D4.out 5; have z6 := World.rowIs.frozen D4.out 6; have m0 : w4.cell? ⟨w2.heap.size, 0, none⟩ = some (.int .i64 a) := World.rowIs.cell IM4.out (i := 0) (by omega); have m1 : w4.cell? ⟨w2.heap.size, 1, none⟩ = some (.int .i64 b) := World.rowIs.cell IM4.out (i := 1) (by omega); have m2 : w4.cell? ⟨w2.heap.size, 2, none⟩ = some (.int .i64 c) := World.rowIs.cell IM4.out (i := 2) (by omega); have m3 : w4.cell? ⟨w2.heap.size, 3, none⟩ = some (.int .i64 d) := World.rowIs.cell IM4.out (i := 3) (by omega); have m4 : w4.cell? ⟨w2.heap.size, 4, none⟩ = some (.slice xa xn xc) := World.rowIs.cell IM4.out (i := 4) (by omega); have m5 : w4.cell? ⟨w2.heap.size, 5, none⟩ = some (.slice ya yn yc) := World.rowIs.cell IM4.out (i := 5) (by omega); have m6 : w4.cell? ⟨w2.heap.size, 6, none⟩ = some (.slice za zn zc) := World.rowIs.cell IM4.out (i := 6) (by omega))
      have D8 : (((((((w4.setCell ⟨w.heap.size, 0, none⟩ (.int .i64 a)).setCell ⟨w.heap.size, 1, none⟩ (.int .i64 b)).setCell ⟨w.heap.size, 2, none⟩ (.int .i64 c)).setCell ⟨w.heap.size, 3, none⟩ (.int .i64 d)).setCell ⟨w.heap.size, 4, none⟩ (.slice xa xn xc)).setCell ⟨w.heap.size, 5, none⟩ (.slice ya yn yc)).setCell ⟨w.heap.size, 6, none⟩ (.slice za zn zc)).rowIs w.heap.size 26 7 (imF a b c d (.slice xa xn xc) (.slice ya yn yc) (.slice za zn zc)) :=
       (((((((D4.out.set 0 _).set 1 _).set 2 _).set 3 _).set 4 _).set 5 _).set 6 _).congr (fun j hj => by
        match j, hj with
        | 0, _ => rfl
        | 1, _ => rfl
        | 2, _ => rfl
        | 3, _ => rfl
        | 4, _ => rfl
        | 5, _ => rfl
        | 6, _ => rfl)
      have K8 : Kep w.heap.size w4 (((((((w4.setCell ⟨w.heap.size, 0, none⟩ (.int .i64 a)).setCell ⟨w.heap.size, 1, none⟩ (.int .i64 b)).setCell ⟨w.heap.size, 2, none⟩ (.int .i64 c)).setCell ⟨w.heap.size, 3, none⟩ (.int .i64 d)).setCell ⟨w.heap.size, 4, none⟩ (.slice xa xn xc)).setCell ⟨w.heap.size, 5, none⟩ (.slice ya yn yc)).setCell ⟨w.heap.size, 6, none⟩ (.slice za zn zc)) := (((((((Kep.set _ _ _ _).trans (Kep.set _ _ _ _)).trans (Kep.set _ _ _ _)).trans (Kep.set _ _ _ _)).trans (Kep.set _ _ _ _)).trans (Kep.set _ _ _ _)).trans (Kep.set _ _ _ _))
      generalize (((((((w4.setCell ⟨w.heap.size, 0, none⟩ (.int .i64 a)).setCell ⟨w.heap.size, 1, none⟩ (.int .i64 b)).setCell ⟨w.heap.size, 2, none⟩ (.int .i64 c)).setCell ⟨w.heap.size, 3, none⟩ (.int .i64 d)).setCell ⟨w.heap.size, 4, none⟩ (.slice xa xn xc)).setCell ⟨w.heap.size, 5, none⟩ (.slice ya yn yc)).setCell ⟨w.heap.size, 6, none⟩ (.slice za zn zc)) = W8 at D8 K8 ⊢
      clear g0 g1 g2 g3 g4 g5 g6 z0 z1 z2 z3 z4 z5 z6 m0 m1 m2 m3 m4 m5 m6
      have g0 : W8.cell? ⟨w.heap.size, 0, none⟩ = some (.int .i64 a) := World.rowIs.cell D8 (i := 0) (by omega)
      have g1 : W8.cell? ⟨w.heap.size, 1, none⟩ = some (.int .i64 b) := World.rowIs.cell D8 (i := 1) (by omega)
      have g2 : W8.cell? ⟨w.heap.size, 2, none⟩ = some (.int .i64 c) := World.rowIs.cell D8 (i := 2) (by omega)
      have g3 : W8.cell? ⟨w.heap.size, 3, none⟩ = some (.int .i64 d) := World.rowIs.cell D8 (i := 3) (by omega)
      have g4 : W8.cell? ⟨w.heap.size, 4, none⟩ = some (.slice xa xn xc) := World.rowIs.cell D8 (i := 4) (by omega)
      have g5 : W8.cell? ⟨w.heap.size, 5, none⟩ = some (.slice ya yn yc) := World.rowIs.cell D8 (i := 5) (by omega)
      have g6 : W8.cell? ⟨w.heap.size, 6, none⟩ = some (.slice za zn zc) := World.rowIs.cell D8 (i := 6) (by omega)
      refine bodyPost_ret (v := .tuple #[(⟨a, b, c, d, ⟨xa, xn, xc⟩, ⟨ya, yn, yc⟩, ⟨za, zn, zc⟩⟩ : ImV).v, .int .i64 0]) (by simp [results, Tryz.results17, go_sem, g0, g1, g2, g3, g4, g5, g6, ImV.v, Sl.v]) rfl ?_
      rw [HV.out.1, HV.out.2]
      exact ⟨_, rfl, (HF.out _ (KX4.out.trans K8)).mono (by omega), HB.out.trans ((B4.out.mono (Nat.le_of_lt hlt1)).trans (K8.below (Nat.le_refl _) (Nat.le_trans (Nat.le_of_lt hlt1) B4.out.size)))⟩
    ·have hq3 := HQ2.out
     rw [if_neg (by simp), if_pos hps] at hq3
     have HV : Hid (K = noIm ∧ E = 3) := by cases hq3; exact ⟨rfl, rfl⟩
     have hd : (pr == ((bs l1).size : Int)) = false := by rw [bs_size]; exact beq_eq_false_iff_ne.2 hps
     clear hq3 m0 m1 m2 m3 m4 m5 m6
     have D4 := D3
     have B4 := B3
     go_wp2
     have D8 : (((((((W3.setCell ⟨w.heap.size, 0, none⟩ (.int .i64 0)).setCell ⟨w.heap.size, 1, none⟩ (.int .i64 0)).setCell ⟨w.heap.size, 2, none⟩ (.int .i64 0)).setCell ⟨w.heap.size, 3, none⟩ (.int .i64 0)).setCell ⟨w.heap.size, 4, none⟩ (.slice none 0 0)).setCell ⟨w.heap.size, 5, none⟩ (.slice none 0 0)).setCell ⟨w.heap.size, 6, none⟩ (.slice none 0 0)).rowIs w.heap.size 26 7 (imF 0 0 0 0 (.slice none 0 0) (.slice none 0 0) (.slice none 0 0)) :=
      (((((((D4.out.set 0 _).set 1 _).set 2 _).set 3 _).set 4 _).set 5 _).set 6 _).congr (fun j hj => by
       match j, hj with
       | 0, _ => rfl
       | 1, _ => rfl
       | 2, _ => rfl
       | 3, _ => rfl
       | 4, _ => rfl
       | 5, _ => rfl
       | 6, _ => rfl)
     have K8 : Kep w.heap.size W3 (((((((W3.setCell ⟨w.heap.size, 0, none⟩ (.int .i64 0)).setCell ⟨w.heap.size, 1, none⟩ (.int .i64 0)).setCell ⟨w.heap.size, 2, none⟩ (.int .i64 0)).setCell ⟨w.heap.size, 3, none⟩ (.int .i64 0)).setCell ⟨w.heap.size, 4, none⟩ (.slice none 0 0)).setCell ⟨w.heap.size, 5, none⟩ (.slice none 0 0)).setCell ⟨w.heap.size, 6, none⟩ (.slice none 0 0)) := (((((((Kep.set _ _ _ _).trans (Kep.set _ _ _ _)).trans (Kep.set _ _ _ _)).trans (Kep.set _ _ _ _)).trans (Kep.set _ _ _ _)).trans (Kep.set _ _ _ _)).trans (Kep.set _ _ _ _))
     generalize (((((((W3.setCell ⟨w.heap.size, 0, none⟩ (.int .i64 0)).setCell ⟨w.heap.size, 1, none⟩ (.int .i64 0)).setCell ⟨w.heap.size, 2, none⟩ (.int .i64 0)).setCell ⟨w.heap.size, 3, none⟩ (.int .i64 0)).setCell ⟨w.heap.size, 4, none⟩ (.slice none 0 0)).setCell ⟨w.heap.size, 5, none⟩ (.slice none 0 0)).setCell ⟨w.heap.size, 6, none⟩ (.slice none 0 0)) = W8 at D8 K8 ⊢
     clear g0 g1 g2 g3 g4 g5 g6 z0 z1 z2 z3 z4 z5 z6
     have g0 : W8.cell? ⟨w.heap.size, 0, none⟩ = some (.int .i64 0) := World.rowIs.cell D8 (i := 0) (by omega)
     have g1 : W8.cell? ⟨w.heap.size, 1, none⟩ = some (.int .i64 0) := World.rowIs.cell D8 (i := 1) (by omega)
     have g2 : W8.cell? ⟨w.heap.size, 2, none⟩ = some (.int .i64 0) := World.rowIs.cell D8 (i := 2) (by omega)
     have g3 : W8.cell? ⟨w.heap.size, 3, none⟩ = some (.int .i64 0) := World.rowIs.cell D8 (i := 3) (by omega)
     have g4 : W8.cell? ⟨w.heap.size, 4, none⟩ = some (.slice none 0 0) := World.rowIs.cell D8 (i := 4) (by omega)
     have g5 : W8.cell? ⟨w.heap.size, 5, none⟩ = some (.slice none 0 0) := World.rowIs.cell D8 (i := 5) (by omega)
     have g6 : W8.cell? ⟨w.heap.size, 6, none⟩ = some (.slice none 0 0) := World.rowIs.cell D8 (i := 6) (by omega)
     refine bodyPost_ret (v := .tuple #[noIv.v, .int .i64 3]) (by simp [results, Tryz.results17, go_sem, g0, g1, g2, g3, g4, g5, g6, noIv, ImV.v, Sl.v]) rfl ?_
     rw [HV.out.1, HV.out.2]
     exact ⟨_, rfl, noIm_firm _ _, HB.out.trans ((B4.out.mono (Nat.le_of_lt hlt1)).trans (K8.below (Nat.le_refl _) (Nat.le_trans (Nat.le_of_lt hlt1) B4.out.size)))⟩
   ·go_upto_region 9 with fail
    clear g0 g1 g2 g3 g4 g5 g6 z0 z1 z2 z3 z4 z5 z6 m0 m1 m2 m3 m4 m5 m6 r0 r1 r2
    refine region_gh (θ := Unit) 47 5 1 (fun t => ([3] : List Nat).getD t 0) (fun i => ([30, 31, 32, 47, 3] : List Nat).getD i 0) (fun i => ([[], [], [1], [0], [2, 3]] : List (List Nat)).getD i []) (fun (gs : Unit) i v => ([(fun _ v => v = .agg #[.int .i64 0, .int .i64 0, .int .i64 0, .int .i64 0, .slice none 0 0, .slice none 0 0, .slice none 0 0]), (fun _ v => v = .pointer (some ⟨w1.heap.size, 2, none⟩)), (fun _ v => v = .int .i64 er), (fun _ _ => True), (fun _ v => v = .int .i64 er)] : List (Unit → Value → Prop)).getD i (fun _ _ => False) gs v) (fun j (gs : Unit) W => ([(fun _ W => W.rowIs w.heap.size 26 7 (imF 0 0 0 0 (.slice none 0 0) (.slice none 0 0) (.slice none 0 0)) ∧ Rdr 90 w1.heap.size (bs l1) ⟨pr, er⟩ W ∧ Kep w.heap.size W3 W), (fun _ W => W.rowIs w.heap.size 26 7 (imF 0 0 0 0 (.slice none 0 0) (.slice none 0 0) (.slice none 0 0)) ∧ Rdr 90 w1.heap.size (bs l1) ⟨pr, er⟩ W ∧ Kep w.heap.size W3 W)] : List (Unit → World → Prop)).getD j (fun _ _ => False) gs W) () (by kernel_rfl) rfl (fun i j hi hj => (by decide : ∀ i, i < 5 → ∀ j, j < 5 → (fun i => ([30, 31, 32, 47, 3] : List Nat).getD i 0) i = (fun i => ([30, 31, 32, 47, 3] : List Nat).getD i 0) j → i = j) i hi j hj) rfl (fun s t hs ht => (by decide : ∀ s, s < 1 → ∀ t, t < 1 → (fun t => ([3] : List Nat).getD t 0) s = (fun t => ([3] : List Nat).getD t 0) t → s = t) s hs t ht) (by decide) (fun t ht => (by decide : ∀ t, t < 0 → (fun t => ([3] : List Nat).getD t 0) t ∈ (fun i => ([[], [], [1], [0], [2, 3]] : List (List Nat)).getD i []) ((fun t => ([3] : List Nat).getD t 0) (t + 1))) t (by omega)) ?_ ?_ ⟨World.rowIs.drew D3.out, HR.out.drew, Kep.of (blw_dr _)⟩ ?_
    ·intro i o ho
     iterate 5 (rcases i with _ | i; (obtain rfl := Option.some.inj ho; first | exact ⟨Or.inl ⟨rfl, by decide⟩, rfl, by decide, by decide⟩ | exact ⟨Or.inr ⟨rfl, by decide, fun _ _ _ h => h⟩, rfl, by decide, by decide⟩))
     simp at ho
    ·intro i o j gs ho a' W hj hS hoth hd hfr
     have oS2 : a'.eval (.tmp 2) = .pointer (some ⟨w.heap.size, 0, none⟩) := hoth 2 (by decide)
     have oS6 : a'.eval (.tmp 6) = .pointer (some ⟨w1.heap.size, 0, none⟩) := hoth 6 (by decide)
     obtain ⟨ρ, hρ⟩ : ∃ ρ, ρ = a'.eval := ⟨_, rfl⟩
     have hc : ∀ v, ρ (.const v) = v := fun v => by rw [hρ]; rfl
     have hfn : ∀ f, ρ (.func f) = .func (.func f) #[] #[] := fun f => by rw [hρ]; rfl
     have qS2 : ρ (.tmp 2) = .pointer (some ⟨w.heap.size, 0, none⟩) := by rw [hρ]; exact oS2
     have qS6 : ρ (.tmp 6) = .pointer (some ⟨w1.heap.size, 0, none⟩) := by rw [hρ]; exact oS6
     clear hoth
     match i, ho with
     | 0, ho =>
      obtain rfl := Option.some.inj ho
      refine Or.inl ⟨by decide, ?_⟩
      rw [← hρ]
      clear hd hρ
      exact ⟨.agg #[.int .i64 0, .int .i64 0, .int .i64 0, .int .i64 0, .slice none 0 0, .slice none 0 0, .slice none 0 0], by simp only [execOp]; go_simp, rfl⟩
     | 1, ho =>
      obtain rfl := Option.some.inj ho
      refine Or.inl ⟨by decide, ?_⟩
      rw [← hρ]
      clear hd hρ
      exact ⟨.pointer (some ⟨w1.heap.size, 2, none⟩), by simp only [execOp]; go_simp, rfl⟩
     | 2, ho =>
      obtain rfl := Option.some.inj ho
      have e1 : (a'.eval (.tmp 31)) = .pointer (some ⟨w1.heap.size, 2, none⟩) := hd 1 (by decide)
      refine Or.inl ⟨by decide, ?_⟩
      rw [← hρ]
      rw [← hρ] at e1
      clear hd hρ
      have c2 : W.cell? ⟨w1.heap.size, 2, none⟩ = some (.int .i64 er) := by
       have hj : j ≤ 1 := by assumption
       match j, hj, hS with
       | 0, _, hS => have hS : (fun _ W => W.rowIs w.heap.size 26 7 (imF 0 0 0 0 (.slice none 0 0) (.slice none 0 0) (.slice none 0 0)) ∧ Rdr 90 w1.heap.size (bs l1) ⟨pr, er⟩ W ∧ Kep w.heap.size W3 W : Unit → World → Prop) gs W := hS; exact hS.2.1.c2
       | 1, _, hS => have hS : (fun _ W => W.rowIs w.heap.size 26 7 (imF 0 0 0 0 (.slice none 0 0) (.slice none 0 0) (.slice none 0 0)) ∧ Rdr 90 w1.heap.size (bs l1) ⟨pr, er⟩ W ∧ Kep w.heap.size W3 W : Unit → World → Prop) gs W := hS; exact hS.2.1.c2
      exact ⟨.int .i64 er, by simp only [execOp]; go_simp, rfl⟩
     | 3, ho =>
      obtain rfl := Option.some.inj ho
      have e0 : (a'.eval (.tmp 30)) = .agg #[.int .i64 0, .int .i64 0, .int .i64 0, .int .i64 0, .slice none 0 0, .slice none 0 0, .slice none 0 0] := hd 0 (by decide)
      refine Or.inr ⟨?_, 0, by decide, rfl⟩
      intro t ht hti htj K hK
      have ht0 : t = 0 := by match t, ht, hti with
       | 0, _, h => rfl
       | k + 1, ht, _ => omega
      subst ht0
      subst htj
      clear hd
      have r0 : (ρ (.tmp 30)) = .agg #[.int .i64 0, .int .i64 0, .int .i64 0, .int .i64 0, .slice none 0 0, .slice none 0 0, .slice none 0 0] := by rw [hρ]; exact e0
      have hS : (fun _ W => W.rowIs w.heap.size 26 7 (imF 0 0 0 0 (.slice none 0 0) (.slice none 0 0) (.slice none 0 0)) ∧ Rdr 90 w1.heap.size (bs l1) ⟨pr, er⟩ W ∧ Kep w.heap.size W3 W : Unit → World → Prop) gs W := hS
      obtain ⟨h1, h2, h3⟩ := hS
      have g0 : W.cell? ⟨w.heap.size, 0, none⟩ = some (.int .i64 0) := World.rowIs.cell h1 (i := 0) (by omega)
      have g1 : W.cell? ⟨w.heap.size, 1, none⟩ = some (.int .i64 0) := World.rowIs.cell h1 (i := 1) (by omega)
      have g2 : W.cell? ⟨w.heap.size, 2, none⟩ = some (.int .i64 0) := World.rowIs.cell h1 (i := 2) (by omega)
      have g3 : W.cell? ⟨w.heap.size, 3, none⟩ = some (.int .i64 0) := World.rowIs.cell h1 (i := 3) (by omega)
      have g4 : W.cell? ⟨w.heap.size, 4, none⟩ = some (.slice none 0 0) := World.rowIs.cell h1 (i := 4) (by omega)
      have g5 : W.cell? ⟨w.heap.size, 5, none⟩ = some (.slice none 0 0) := World.rowIs.cell h1 (i := 5) (by omega)
      have g6 : W.cell? ⟨w.heap.size, 6, none⟩ = some (.slice none 0 0) := World.rowIs.cell h1 (i := 6) (by omega)
      have z0 := World.rowIs.frozen h1 0
      have z1 := World.rowIs.frozen h1 1
      have z2 := World.rowIs.frozen h1 2
      have z3 := World.rowIs.frozen h1 3
      have z4 := World.rowIs.frozen h1 4
      have z5 := World.rowIs.frozen h1 5
      have z6 := World.rowIs.frozen h1 6
      have D8 : (((((((W.setCell ⟨w.heap.size, 0, none⟩ (.int .i64 0)).setCell ⟨w.heap.size, 1, none⟩ (.int .i64 0)).setCell ⟨w.heap.size, 2, none⟩ (.int .i64 0)).setCell ⟨w.heap.size, 3, none⟩ (.int .i64 0)).setCell ⟨w.heap.size, 4, none⟩ (.slice none 0 0)).setCell ⟨w.heap.size, 5, none⟩ (.slice none 0 0)).setCell ⟨w.heap.size, 6, none⟩ (.slice none 0 0)).rowIs w.heap.size 26 7 (imF 0 0 0 0 (.slice none 0 0) (.slice none 0 0) (.slice none 0 0)) :=
       (((((((h1.set 0 _).set 1 _).set 2 _).set 3 _).set 4 _).set 5 _).set 6 _).congr (fun j hj => by
        match j, hj with
        | 0, _ => rfl
        | 1, _ => rfl
        | 2, _ => rfl
        | 3, _ => rfl
        | 4, _ => rfl
        | 5, _ => rfl
        | 6, _ => rfl)
      have K8 : Kep w.heap.size W (((((((W.setCell ⟨w.heap.size, 0, none⟩ (.int .i64 0)).setCell ⟨w.heap.size, 1, none⟩ (.int .i64 0)).setCell ⟨w.heap.size, 2, none⟩ (.int .i64 0)).setCell ⟨w.heap.size, 3, none⟩ (.int .i64 0)).setCell ⟨w.heap.size, 4, none⟩ (.slice none 0 0)).setCell ⟨w.heap.size, 5, none⟩ (.slice none 0 0)).setCell ⟨w.heap.size, 6, none⟩ (.slice none 0 0)) := (((((((Kep.set _ _ _ _).trans (Kep.set _ _ _ _)).trans (Kep.set _ _ _ _)).trans (Kep.set _ _ _ _)).trans (Kep.set _ _ _ _)).trans (Kep.set _ _ _ _)).trans (Kep.set _ _ _ _))
      exact Kd.wp_skip (w' := (((((((W.setCell ⟨w.heap.size, 0, none⟩ (.int .i64 0)).setCell ⟨w.heap.size, 1, none⟩ (.int .i64 0)).setCell ⟨w.heap.size, 2, none⟩ (.int .i64 0)).setCell ⟨w.heap.size, 3, none⟩ (.int .i64 0)).setCell ⟨w.heap.size, 4, none⟩ (.slice none 0 0)).setCell ⟨w.heap.size, 5, none⟩ (.slice none 0 0)).setCell ⟨w.heap.size, 6, none⟩ (.slice none 0 0))) (by rw [← hρ]; clear hρ D8 K8; simp only [execOp]; go_simp) (hK _ _ () trivial (fun _ _ h => h) ⟨D8, rowIs_kep h2 K8 (by omega), h3.trans K8⟩)
     | 4, ho =>
      obtain rfl := Option.some.inj ho
      have e2 : (a'.eval (.tmp 32)) = .int .i64 er := hd 2 (by decide)
      refine Or.inl ⟨by decide, ?_⟩
      rw [← hρ]
      rw [← hρ] at e2
      clear hd hρ
      exact ⟨.int .i64 er, by simp only [execOp]; go_simp, rfl⟩
     | k + 5, ho => simp at ho
    ·intro a' W gs hsz hdef hoth hok hS
     have hS : (fun _ W => W.rowIs w.heap.size 26 7 (imF 0 0 0 0 (.slice none 0 0) (.slice none 0 0) (.slice none 0 0)) ∧ Rdr 90 w1.heap.size (bs l1) ⟨pr, er⟩ W ∧ Kep w.heap.size W3 W : Unit → World → Prop) gs W := hS
     obtain ⟨D8, _, K8⟩ := hS
     have hcov : ∀ i, i < 5 → (fun i => ([30, 31, 32, 47, 3] : List Nat).getD i 0) i < 47 → (30 ≤ (fun i => ([30, 31, 32, 47, 3] : List Nat).getD i 0) i ∧ (fun i => ([30, 31, 32, 47, 3] : List Nat).getD i 0) i < 33) ∨ (fun i => ([30, 31, 32, 47, 3] : List Nat).getD i 0) i = 3 := by decide
     have hv9 : a'.eval (.tmp 3) = .int .i64 er := hok 4 (by decide)
     obtain ⟨us, hu1, rfl⟩ := Kd.act_mix1 30 3 3 (.int .i64 er) rfl hsz hdef (by simp) (by simp) hv9 (by decide) (fun k hkd hk => by
      by_cases hkT : k < 47
      ·exact hoth k (fun i hi e => by have := hcov i hi (Nat.lt_of_le_of_lt (Nat.le_of_eq e) hkT); dsimp only at this e; omega)
      ·rw [eval_far (by rw [hsz]; omega), eval_far (by simp; omega)])
     match us, hu1 with
     | [u30, u31, u32], _ =>
      have HD := Lib.hid (And.intro D8 K8)
      have HQ3 := HQ2.out
      rw [if_pos he] at HQ3
      have HV : Hid (K = noIm ∧ E = er) := by cases HQ3; exact ⟨rfl, rfl⟩
      clear hok hoth hcov hS D8 K8 hv9 HQ3
      go_wp2
      have g0 : W.cell? ⟨w.heap.size, 0, none⟩ = some (.int .i64 0) := World.rowIs.cell HD.out.1 (i := 0) (by omega)
      have g1 : W.cell? ⟨w.heap.size, 1, none⟩ = some (.int .i64 0) := World.rowIs.cell HD.out.1 (i := 1) (by omega)
      have g2 : W.cell? ⟨w.heap.size, 2, none⟩ = some (.int .i64 0) := World.rowIs.cell HD.out.1 (i := 2) (by omega)
      have g3 : W.cell? ⟨w.heap.size, 3, none⟩ = some (.int .i64 0) := World.rowIs.cell HD.out.1 (i := 3) (by omega)
      have g4 : W.cell? ⟨w.heap.size, 4, none⟩ = some (.slice none 0 0) := World.rowIs.cell HD.out.1 (i := 4) (by omega)
      have g5 : W.cell? ⟨w.heap.size, 5, none⟩ = some (.slice none 0 0) := World.rowIs.cell HD.out.1 (i := 5) (by omega)
      have g6 : W.cell? ⟨w.heap.size, 6, none⟩ = some (.slice none 0 0) := World.rowIs.cell HD.out.1 (i := 6) (by omega)
      refine bodyPost_ret (v := .tuple #[noIv.v, .int .i64 er]) (by simp [results, Tryz.results17, go_sem, g0, g1, g2, g3, g4, g5, g6, noIv, ImV.v, Sl.v]) rfl ?_
      rw [HV.out.1, HV.out.2]
      exact ⟨_, rfl, noIm_firm _ _, HB.out.trans ((B3.out.mono (Nat.le_of_lt hlt1)).trans (HD.out.2.below (Nat.le_refl _) (Nat.le_trans (Nat.le_of_lt hlt1) B3.out.size)))⟩
  ·have HV : Hid (K = noIm ∧ E = 3) := by
    have := HQ.out
    unfold decM at this
    rw [q1, if_neg (by simp), if_pos hp] at this
    cases this; exact ⟨rfl, rfl⟩
   rw [decide_eq_false hp] at HP
   clear HQ
   go_wp2_with (go_at_call 42; refine HP.out.mono ?_; rintro e w2 ⟨rfl, hw2⟩; obtain rfl : w1 = w2 := hw2.symm; clear hw2)
   have D8 : (((((((w1.setCell ⟨w.heap.size, 0, none⟩ (.int .i64 0)).setCell ⟨w.heap.size, 1, none⟩ (.int .i64 0)).setCell ⟨w.heap.size, 2, none⟩ (.int .i64 0)).setCell ⟨w.heap.size, 3, none⟩ (.int .i64 0)).setCell ⟨w.heap.size, 4, none⟩ (.slice none 0 0)).setCell ⟨w.heap.size, 5, none⟩ (.slice none 0 0)).setCell ⟨w.heap.size, 6, none⟩ (.slice none 0 0)).rowIs w.heap.size 26 7 (imF 0 0 0 0 (.slice none 0 0) (.slice none 0 0) (.slice none 0 0)) :=
    (((((((D1.out.set 0 _).set 1 _).set 2 _).set 3 _).set 4 _).set 5 _).set 6 _).congr (fun j hj => by
     match j, hj with
     | 0, _ => rfl
     | 1, _ => rfl
     | 2, _ => rfl
     | 3, _ => rfl
     | 4, _ => rfl
     | 5, _ => rfl
     | 6, _ => rfl)
   have K8 : Kep w.heap.size w1 (((((((w1.setCell ⟨w.heap.size, 0, none⟩ (.int .i64 0)).setCell ⟨w.heap.size, 1, none⟩ (.int .i64 0)).setCell ⟨w.heap.size, 2, none⟩ (.int .i64 0)).setCell ⟨w.heap.size, 3, none⟩ (.int .i64 0)).setCell ⟨w.heap.size, 4, none⟩ (.slice none 0 0)).setCell ⟨w.heap.size, 5, none⟩ (.slice none 0 0)).setCell ⟨w.heap.size, 6, none⟩ (.slice none 0 0)) := (((((((Kep.set _ _ _ _).trans (Kep.set _ _ _ _)).trans (Kep.set _ _ _ _)).trans (Kep.set _ _ _ _)).trans (Kep.set _ _ _ _)).trans (Kep.set _ _ _ _)).trans (Kep.set _ _ _ _))
   generalize (((((((w1.setCell ⟨w.heap.size, 0, none⟩ (.int .i64 0)).setCell ⟨w.heap.size, 1, none⟩ (.int .i64 0)).setCell ⟨w.heap.size, 2, none⟩ (.int .i64 0)).setCell ⟨w.heap.size, 3, none⟩ (.int .i64 0)).setCell ⟨w.heap.size, 4, none⟩ (.slice none 0 0)).setCell ⟨w.heap.size, 5, none⟩ (.slice none 0 0)).setCell ⟨w.heap.size, 6, none⟩ (.slice none 0 0)) = W8 at D8 K8 ⊢
   clear g0 g1 g2 g3 g4 g5 g6 z0 z1 z2 z3 z4 z5 z6
   have g0 : W8.cell? ⟨w.heap.size, 0, none⟩ = some (.int .i64 0) := World.rowIs.cell D8 (i := 0) (by omega)
   have g1 : W8.cell? ⟨w.heap.size, 1, none⟩ = some (.int .i64 0) := World.rowIs.cell D8 (i := 1) (by omega)
   have g2 : W8.cell? ⟨w.heap.size, 2, none⟩ = some (.int .i64 0) := World.rowIs.cell D8 (i := 2) (by omega)
   have g3 : W8.cell? ⟨w.heap.size, 3, none⟩ = some (.int .i64 0) := World.rowIs.cell D8 (i := 3) (by omega)
   have g4 : W8.cell? ⟨w.heap.size, 4, none⟩ = some (.slice none 0 0) := World.rowIs.cell D8 (i := 4) (by omega)
   have g5 : W8.cell? ⟨w.heap.size, 5, none⟩ = some (.slice none 0 0) := World.rowIs.cell D8 (i := 5) (by omega)
   have g6 : W8.cell? ⟨w.heap.size, 6, none⟩ = some (.slice none 0 0) := World.rowIs.cell D8 (i := 6) (by omega)
   refine bodyPost_ret (v := .tuple #[noIv.v, .int .i64 3]) (by simp [results, Tryz.results17, go_sem, g0, g1, g2, g3, g4, g5, g6, noIv, ImV.v, Sl.v]) rfl ?_
   rw [HV.out.1, HV.out.2]
   exact ⟨_, rfl, noIm_firm _ _, HB.out.trans (K8.below (Nat.le_refl _) (Nat.le_trans (by simp) h1.size))⟩
 ·have HV : Hid (K = noIm ∧ E = e1) := by
   have := HQ.out
   unfold decM at this
   rw [q1, if_pos he] at this
   cases this; exact ⟨rfl, rfl⟩
  clear HQ
  go_wp2
  have D8 : (((((((w1.setCell ⟨w.heap.size, 0, none⟩ (.int .i64 0)).setCell ⟨w.heap.size, 1, none⟩ (.int .i64 0)).setCell ⟨w.heap.size, 2, none⟩ (.int .i64 0)).setCell ⟨w.heap.size, 3, none⟩ (.int .i64 0)).setCell ⟨w.heap.size, 4, none⟩ (.slice none 0 0)).setCell ⟨w.heap.size, 5, none⟩ (.slice none 0 0)).setCell ⟨w.heap.size, 6, none⟩ (.slice none 0 0)).rowIs w.heap.size 26 7 (imF 0 0 0 0 (.slice none 0 0) (.slice none 0 0) (.slice none 0 0)) :=
   (((((((D1.out.set 0 _).set 1 _).set 2 _).set 3 _).set 4 _).set 5 _).set 6 _).congr (fun j hj => by
    match j, hj with
    | 0, _ => rfl
    | 1, _ => rfl
    | 2, _ => rfl
    | 3, _ => rfl
    | 4, _ => rfl
    | 5, _ => rfl
    | 6, _ => rfl)
  have K8 : Kep w.heap.size w1 (((((((w1.setCell ⟨w.heap.size, 0, none⟩ (.int .i64 0)).setCell ⟨w.heap.size, 1, none⟩ (.int .i64 0)).setCell ⟨w.heap.size, 2, none⟩ (.int .i64 0)).setCell ⟨w.heap.size, 3, none⟩ (.int .i64 0)).setCell ⟨w.heap.size, 4, none⟩ (.slice none 0 0)).setCell ⟨w.heap.size, 5, none⟩ (.slice none 0 0)).setCell ⟨w.heap.size, 6, none⟩ (.slice none 0 0)) := (((((((Kep.set _ _ _ _).trans (Kep.set _ _ _ _)).trans (Kep.set _ _ _ _)).trans (Kep.set _ _ _ _)).trans (Kep.set _ _ _ _)).trans (Kep.set _ _ _ _)).trans (Kep.set _ _ _ _))
  generalize (((((((w1.setCell ⟨w.heap.size, 0, none⟩ (.int .i64 0)).setCell ⟨w.heap.size, 1, none⟩ (.int .i64 0)).setCell ⟨w.heap.size, 2, none⟩ (.int .i64 0)).setCell ⟨w.heap.size, 3, none⟩ (.int .i64 0)).setCell ⟨w.heap.size, 4, none⟩ (.slice none 0 0)).setCell ⟨w.heap.size, 5, none⟩ (.slice none 0 0)).setCell ⟨w.heap.size, 6, none⟩ (.slice none 0 0)) = W8 at D8 K8 ⊢
  clear g0 g1 g2 g3 g4 g5 g6 z0 z1 z2 z3 z4 z5 z6
  have g0 : W8.cell? ⟨w.heap.size, 0, none⟩ = some (.int .i64 0) := World.rowIs.cell D8 (i := 0) (by omega)
  have g1 : W8.cell? ⟨w.heap.size, 1, none⟩ = some (.int .i64 0) := World.rowIs.cell D8 (i := 1) (by omega)
  have g2 : W8.cell? ⟨w.heap.size, 2, none⟩ = some (.int .i64 0) := World.rowIs.cell D8 (i := 2) (by omega)
  have g3 : W8.cell? ⟨w.heap.size, 3, none⟩ = some (.int .i64 0) := World.rowIs.cell D8 (i := 3) (by omega)
  have g4 : W8.cell? ⟨w.heap.size, 4, none⟩ = some (.slice none 0 0) := World.rowIs.cell D8 (i := 4) (by omega)
  have g5 : W8.cell? ⟨w.heap.size, 5, none⟩ = some (.slice none 0 0) := World.rowIs.cell D8 (i := 5) (by omega)
  have g6 : W8.cell? ⟨w.heap.size, 6, none⟩ = some (.slice none 0 0) := World.rowIs.cell D8 (i := 6) (by omega)
  refine bodyPost_ret (v := .tuple #[noIv.v, .int .i64 e1]) (by simp [results, Tryz.results17, go_sem, g0, g1, g2, g3, g4, g5, g6, noIv, ImV.v, Sl.v]) rfl ?_
  rw [HV.out.1, HV.out.2]
  exact ⟨_, rfl, noIm_firm _ _, HB.out.trans (K8.below (Nat.le_refl _) (Nat.le_trans (by simp) h1.size))⟩
end Go.Proofs.YtngehojibcmieaaGreatDoor
end
