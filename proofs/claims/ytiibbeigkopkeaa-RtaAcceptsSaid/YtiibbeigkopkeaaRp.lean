/- What is proved here: a contract of the document's Response. Conditions: rows are not too long. -/
import Derived.Test.YtiibbeigkopkeaaRn
namespace Go.Proofs.Ytiibbeigkopkeaa
open Go.ChangeShapes Go.WideShapes Go.RowKit

/-- The response of a row of rows, and what is wrong. -/
def rspR (L : List RtR) (i : Int) : Int × Int :=
  if (rgR L && (decide (0 ≤ i) && decide (i < (L.length : Int)))) = true then
    rsp (nxO (L.getD i.toNat ⟨0, 0, 0, 0, 0, 0⟩) (oth L (L.getD i.toNat ⟨0, 0, 0, 0, 0, 0⟩).P i.toNat)) (L.getD i.toNat ⟨0, 0, 0, 0, 0, 0⟩).D (L.getD i.toNat ⟨0, 0, 0, 0, 0, 0⟩).J 13
  else (0, 1)
theorem rspR_bad {L : List RtR} {i : Int} (h : (rgR L && (decide (0 ≤ i) && decide (i < (L.length : Int)))) = false) : rspR L i = (0, 1) := by
  unfold rspR; rw [if_neg (by rw [h]; decide)]
theorem rspR_at {L : List RtR} {k : Nat} {x : RtR} (hg : rgR L = true) (hk : L[k]? = some x) : rspR L k = rsp (nxO x (oth L x.P k)) x.D x.J 13 := by
  have hl : k < L.length := (List.getElem?_eq_some_iff.1 hk).1
  unfold rspR
  rw [if_pos (by rw [hg, decide_eq_true (by omega : (0 : Int) ≤ k), decide_eq_true (by omega : (k : Int) < (L.length : Int))]; rfl)]
  have e : L.getD (k : Int).toNat ⟨0, 0, 0, 0, 0, 0⟩ = x := by rw [Int.toNat_natCast, List.getD_eq_getElem?_getD, hk]; rfl
  rw [e, Int.toNat_natCast]
theorem itr_none {f : Int → Option Int} {D J eT : Int} {k : Nat} {w : Int} (h : f w = none) : itr f D J eT (k + 1) w = (0, 4) := by unfold itr; rw [h]
theorem itr_late {f : Int → Option Int} {D J eT : Int} {k : Nat} {w m : Int} (h : f w = some m) (hm : D < m ∨ D - m < J) : itr f D J eT (k + 1) w = (0, eT) := by unfold itr; rw [h]; exact if_pos hm
theorem itr_same {f : Int → Option Int} {D J eT : Int} {k : Nat} {w : Int} (h : f w = some w) (hm : ¬(D < w ∨ D - w < J)) : itr f D J eT (k + 1) w = (w + J, 0) := by unfold itr; rw [h]; exact (if_neg hm).trans (if_pos rfl)
theorem itr_on {f : Int → Option Int} {D J eT : Int} {k : Nat} {w m : Int} (h : f w = some m) (hm : ¬(D < m ∨ D - m < J)) (hne : m ≠ w) : itr f D J eT (k + 1) w = itr f D J eT k m := by
  conv => lhs; unfold itr
  rw [h]; exact (if_neg hm).trans (if_neg hne)
set_option maxHeartbeats 4000000 in
set_option maxRecDepth 100000 in
theorem respR_any (a : Option Addr) (n c : Nat) (L : List RtR) (i : Int) (w : World) (hr : RowS w a n L) (hn : n ≤ 140737488355328) (rv er : Int) (hq : rspR L i = (rv, er)) :
    Calls Try.prog 15 #[.slice a n c, .int .i64 i] w fun e w' => e = .returned (.tuple #[.int .i64 rv, .int .i64 er]) ∧ Below w.heap.size w w' := by
  have HL := Lib.hid hr.1
  obtain ⟨g, hg⟩ : ∃ g, rgR L = g := ⟨_, rfl⟩
  have CR := Lib.hid (rowsR_any a n c L w hr hn g hg)
  cases g
  · rw [rspR_bad (by rw [hg]; rfl)] at hq; cases hq
    clear hg
    go_enter Try.func15, Try.ntmps15
    go_wp2_with (go_at_call 19; refine CR.out.mono ?_; rintro e w2 ⟨rfl, hb2⟩)
    go_ret2
    exact ⟨rfl, hb2⟩
  by_cases z1 : i < 0
  · rw [rspR_bad (by rw [decide_eq_false (p := 0 ≤ i) (by omega)]; simp)] at hq; cases hq
    clear hg
    have q1 : decide (i < 0) = true := decide_eq_true z1
    go_enter Try.func15, Try.ntmps15
    go_wp2_with (go_at_call 19; refine CR.out.mono ?_; rintro e w2 ⟨rfl, hb2⟩)
    go_ret2
    exact ⟨rfl, hb2⟩
  have q1 : decide (i < 0) = false := decide_eq_false z1
  by_cases z2 : (n : Int) ≤ i
  · rw [rspR_bad (by rw [decide_eq_false (p := i < (L.length : Int)) (by have := HL.out; omega)]; simp)] at hq; cases hq
    clear hg
    have q2 : decide ((n : Int) ≤ i) = true := decide_eq_true z2
    go_enter Try.func15, Try.ntmps15
    go_wp2_with (go_at_call 19; refine CR.out.mono ?_; rintro e w2 ⟨rfl, hb2⟩)
    go_ret2
    exact ⟨rfl, hb2⟩
  have q2 : decide ((n : Int) ≤ i) = false := decide_eq_false z2
  obtain ⟨i0, rfl⟩ := Int.eq_ofNat_of_zero_le (by omega : 0 ≤ i)
  have hi0 : i0 < n := by omega
  obtain ⟨b1, o1, x, e1, hB1, hx, f0, f1, f2, f3, f4, f5⟩ := hr.item (Below.refl _ _) hi0
  have HQ := Lib.hid ((rspR_at hg hx).symm.trans hq)
  have CN := Lib.hid (fun (wv : Int) (hw : rtI wv = true) (p : Int × Int) (hp : (match nxO x (oth L x.P i0) wv with | some m => (m, (0 : Int)) | none => (0, 4)) = p) W (hb : Below w.heap.size w W) => nextR_any a n c L i0 wv W (hr.below hb) hn p.1 p.2 ((nxR_at hg hx hw).trans hp))
  have hgr := Lib.hid (nxO_grows (r := x) (o := oth L x.P i0) (rgR_mem hg (List.mem_of_getElem? hx)) (fun y hy => rgR_mem hg (oth_mem hy).1))
  obtain ⟨_, _, _, ⟨p7, p8⟩, ⟨p9, p10⟩, _, _⟩ := okR_parts (rgR_mem hg (List.mem_of_getElem? hx))
  obtain ⟨f, hf⟩ : ∃ f, nxO x (oth L x.P i0) = f := ⟨_, rfl⟩
  rw [hf] at HQ CN hgr
  have HF := Lib.hid (And.intro f3 f4)
  have HI : Hid (itr f x.D x.J 13 ((x.D + 1 - 0).toNat + 1) 0 = (rv, er)) := by
    have := HQ.out
    unfold rsp at this
    rw [show x.D.toNat + 2 = (x.D + 1 - 0).toNat + 1 by omega] at this
    exact this
  subst e1
  clear hq hx hg z1 z2 q1 q2 f0 f1 f2 f3 f4 f5 hf
  have q1 : decide ((i0 : Int) < 0) = false := decide_eq_false (by omega)
  have q2 : decide ((n : Int) ≤ (i0 : Int)) = false := decide_eq_false (by omega)
  have q3 : decide (n ≤ i0) = false := decide_eq_false (by omega)
  have i1 : (0 : Int) ≤ (i0 : Int) := by omega
  have i2 : (i0 : Int) < (n : Int) := by omega
  go_enter Try.func15, Try.ntmps15
  go_wp2_with (go_at_call 19; refine CR.out.mono ?_; rintro e w2 ⟨rfl, hb2⟩)
  go_loopw [6] (fun j wr => ∃ W : Int, j = .int .i64 W ∧ 0 ≤ W ∧ W ≤ x.D ∧ Hid (OnWay f W) ∧ Hid (itr f x.D x.J 13 ((x.D + 1 - W).toNat + 1) W = (rv, er)) ∧ Hid (Below w.heap.size w wr)) (fun j _ => (x.D + 1 - intOf j).toNat)
  case atStart => exact ⟨0, rfl, Int.le_refl _, by omega, OnWay.zero hgr.out, HI, hb2⟩
  case round =>
    obtain ⟨W, rfl, hW0, hWD, HOW, HIT, HBL⟩ := hrel
    have hwr : rtI W = true := rtI_iff.2 (by omega)
    cases hfW : f W with
    | none =>
      have C := Lib.hid (CN.out W hwr (0, 4) (by rw [hfW]) wr HBL.out)
      have HR : Hid ((0, 4) = (rv, er)) := (itr_none hfW).symm.trans HIT.out
      clear hfW hwr
      go_wp2_with (go_at_call 13; refine C.out.mono ?_; rintro e w3 ⟨rfl, hb3⟩)
      go_ret2
      exact ⟨by have := HR.out; cases this; rfl, keep_below HBL.out hb3⟩
    | some m =>
      have C := Lib.hid (CN.out W hwr (m, 0) (by rw [hfW]) wr HBL.out)
      have hWm := HOW.out.2 m hfW
      have HFW := Lib.hid hfW
      have HON := Lib.hid (HOW.out.next hgr.out hfW)
      clear hfW hwr
      by_cases c1 : x.D < m
      · have HR : Hid ((0, 13) = (rv, er)) := (itr_late HFW.out (Or.inl c1)).symm.trans HIT.out
        have d1 : decide (x.D < m) = true := decide_eq_true c1
        go_wp2_with (go_at_call 13; refine C.out.mono ?_; rintro e w3 ⟨rfl, hb3⟩; have x3 := keep_cell (keep_below HBL.out hb3) HF.out.1; have x4 := keep_cell (keep_below HBL.out hb3) HF.out.2)
        go_quiet (fail)
        go_wp2
        go_ret2
        exact ⟨by have := HR.out; cases this; rfl, (keep_below HBL.out hb3).trans ⟨rfl, rfl, rfl, Nat.le_refl _, fun _ _ => rfl⟩⟩
      have d1 : decide (x.D < m) = false := decide_eq_false c1
      by_cases c2 : x.D - m < x.J
      · have HR : Hid ((0, 13) = (rv, er)) := (itr_late HFW.out (Or.inr c2)).symm.trans HIT.out
        have d2 : decide (x.D - m < x.J) = true := decide_eq_true c2
        go_wp2_with (go_at_call 13; refine C.out.mono ?_; rintro e w3 ⟨rfl, hb3⟩; have x3 := keep_cell (keep_below HBL.out hb3) HF.out.1; have x4 := keep_cell (keep_below HBL.out hb3) HF.out.2)
        go_quiet (fail)
        go_wp2
        go_ret2
        exact ⟨by have := HR.out; cases this; rfl, (keep_below HBL.out hb3).trans ⟨rfl, rfl, rfl, Nat.le_refl _, fun _ _ => rfl⟩⟩
      have d2 : decide (x.D - m < x.J) = false := decide_eq_false c2
      by_cases c3 : m = W
      · have HR : Hid ((m + x.J, 0) = (rv, er)) := by
          have h := itr_same (f := f) (D := x.D) (J := x.J) (eT := 13) (k := (x.D + 1 - W).toNat) (w := W) (by rw [← c3] at HFW ⊢; exact HFW.out) (by omega)
          rw [c3]; exact h.symm.trans HIT.out
        subst c3
        go_wp2_with (go_at_call 13; refine C.out.mono ?_; rintro e w3 ⟨rfl, hb3⟩; have x3 := keep_cell (keep_below HBL.out hb3) HF.out.1; have x4 := keep_cell (keep_below HBL.out hb3) HF.out.2)
        go_quiet (fail)
        go_wp2
        go_ret2
        exact ⟨by have := HR.out; cases this; rfl, (keep_below HBL.out hb3).trans ⟨rfl, rfl, rfl, Nat.le_refl _, fun _ _ => rfl⟩⟩
      · have d3 : (m == W) = false := beq_eq_false_iff_ne.2 c3
        have HIT2 : Hid (itr f x.D x.J 13 ((x.D + 1 - m).toNat + 1) m = (rv, er)) := by
          have h1 := (itr_on (f := f) (D := x.D) (J := x.J) (eT := 13) (k := (x.D + 1 - W).toNat) HFW.out (by omega) c3).symm.trans HIT.out
          have h2 := itr_more (f := f) (D := x.D) (J := x.J) (eT := 13) hgr.out ((x.D + 1 - m).toNat + 1) ((x.D + 1 - W).toNat - ((x.D + 1 - m).toNat + 1)) m HON.out (by omega) (by omega)
          rw [show (x.D + 1 - m).toNat + 1 + ((x.D + 1 - W).toNat - ((x.D + 1 - m).toNat + 1)) = (x.D + 1 - W).toNat by omega] at h2
          exact h2.symm.trans h1
        go_wp2_with (go_at_call 13; refine C.out.mono ?_; rintro e w3 ⟨rfl, hb3⟩; have x3 := keep_cell (keep_below HBL.out hb3) HF.out.1; have x4 := keep_cell (keep_below HBL.out hb3) HF.out.2)
        go_quiet (fail)
        go_wp2
        go_roundw
        case rel => exact ⟨m, rfl, by omega, by omega, HON, HIT2, (keep_below HBL.out hb3).trans ⟨rfl, rfl, rfl, Nat.le_refl _, fun _ _ => rfl⟩⟩
        case measure => simp [intOf]; omega
end Go.Proofs.Ytiibbeigkopkeaa
