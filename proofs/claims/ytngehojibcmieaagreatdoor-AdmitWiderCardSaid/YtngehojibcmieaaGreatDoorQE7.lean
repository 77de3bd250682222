/- What is proved here: contracts of the program's Next and Response. Conditions: rows are not too long. a contract of the program's Accept. contracts of the document's Same (at the same lists), of the laws' light. -/
import Derived.Test.YtngehojibcmieaaGreatDoorQE6
import Derived.ScopeJumps
import Derived.WalkMore
set_option maxRecDepth 100000
set_option maxHeartbeats 8000000
section
namespace Go.Proofs.YtngehojibcmieaaGreatDoor.Kd
open Go.ChangeShapes Go.WideShapes Go.RowKit
theorem scope_jumps {P : Program} {a : Act} {w : World} {Q : Exit → Act → World → Prop} {c rest : Code} (l : Nat) (J : Act → World → Prop) (μ : Act → World → Nat) (hf : findLabel c l = some (Code.skip.seq rest))
  (first : (∀ a w, J a w → rest.wp P (Exit.jump l J Q) a w) → c.wp P (Exit.jump l J Q) a w)
  (pass : ∀ a w, J a w → rest.wp P (Exit.jump l (fun a' w' => J a' w' ∧ μ a' w' < μ a w) Q) a w) : (Code.scope c).wp P Q a w :=
 wp_scope_jumps l J μ hf (first fun a w h => wp_mono (pass a w h) (fun e a' w' h2 => by
  cases e
  case goto => exact ⟨h2.1, h2.2.1⟩
  all_goals exact h2)) (fun a w h => wp_seq (Go.wp_skip (pass a w h)))
theorem respP_any (a : Option Addr) (n c : Nat) (L : List RtR) (i : Int) (w : World) (hr : RowS w a n L) (hn : n ≤ 140737488355328) (rv er : Int) (hq : rspR L i = (rv, er)) :
  Calls Tryz.prog 21 #[.slice a n c, .int .i64 i] w fun e w' => e = .returned (.tuple #[.int .i64 rv, .int .i64 er]) ∧ Below w.heap.size w w' := by
 have HL := Lib.hid hr.1
 obtain ⟨g, hg⟩ : ∃ g, (rgR L && (decide (0 ≤ i) && decide (i < (L.length : Int)))) = g := ⟨_, rfl⟩
 have CH := Lib.hid (hasP_any a n c L i w hr hn g hg)
 cases g
 ·rw [rspR_bad hg] at hq; cases hq
  clear hg
  go_enter Tryz.func21, Tryz.ntmps21
  go_wp2
  go_step3
  go_wp2_with (go_at_call 47; refine CH.out.mono ?_; rintro e w2 ⟨rfl, hb2⟩)
  rw [Exit.noGoto_ret]
  go_ret2
  exact ⟨rfl, hb2⟩
 simp only [Bool.and_eq_true, decide_eq_true_eq] at hg
 obtain ⟨i0, rfl⟩ := Int.eq_ofNat_of_zero_le hg.2.1
 have hi0 : i0 < n := by have := HL.out; omega
 obtain ⟨b1, o1, x, e1, hB1, hx, f0, f1, f2, f3, f4, f5⟩ := hr.item (Below.refl _ _) hi0
 have HQ := Lib.hid ((rspR_at hg.1 hx).symm.trans hq)
 have CN := Lib.hid (fun (wv : Int) (hw : rtI wv = true) (p : Int × Int) (hp : (match nxO x (oth L x.P i0) wv with | some m => (m, (0 : Int)) | none => (0, 4)) = p) W (hb : Below w.heap.size w W) => sumP_any a n c L i0 x wv W (hr.below hb) hn hg.1 hx hw p.1 p.2 hp)
 have hgr := Lib.hid (nxO_grows (r := x) (o := oth L x.P i0) (rgR_mem hg.1 (List.mem_of_getElem? hx)) (fun y hy => rgR_mem hg.1 (oth_mem hy).1))
 have hlim := Lib.hid (fun W m (h : nxO x (oth L x.P i0) W = some m) => (nxO_some.1 h).2)
 obtain ⟨_, _, _, ⟨p7, p8⟩, ⟨p9, p10⟩, _, _⟩ := okR_parts (rgR_mem hg.1 (List.mem_of_getElem? hx))
 obtain ⟨f, hf⟩ : ∃ f, nxO x (oth L x.P i0) = f := ⟨_, rfl⟩
 rw [hf] at HQ CN hgr hlim
 have HF := Lib.hid (And.intro f3 f4)
 have HI : Hid (itr f x.D x.J 13 ((x.D + 1 - 0).toNat + 1) 0 = (rv, er)) := by
  have := HQ.out
  unfold rsp at this
  rw [show x.D.toNat + 2 = (x.D + 1 - 0).toNat + 1 by omega] at this
  exact this
 subst e1
 have HBR := Lib.hid hr
 clear hq hx hg hf f0 f1 f2 f3 f4 f5 hr
 have i1 : (0 : Int) ≤ (i0 : Int) := by omega
 have i2 : (i0 : Int) < (n : Int) := by omega
 go_enter Tryz.func21, Tryz.ntmps21
 go_wp2
 refine scope_jumps 0 (fun a' w' => ∃ (W : Int) (u7 u8 u9 u10 u11 u12 u13 u14 u15 u16 u17 u18 u19 u20 u21 u22 u23 u24 u25 u26 u27 u28 u29 u30 u31 u32 u33 u34 u35 u36 u37 u38 u39 u40 u41 u42 : Value), a' = { tmps := #[.slice (some ⟨b1, o1, none⟩) n c, .int .i64 (i0 : Int), undef, undef, .int .i64 0, .int .i64 0, .int .i64 W, u7, u8, u9, u10, u11, u12, u13, u14, u15, u16, u17, u18, u19, u20, u21, u22, u23, u24, u25, u26, u27, u28, u29, u30, u31, u32, u33, u34, u35, u36, u37, u38, u39, u40, u41, u42], defers := [] } ∧ 0 ≤ W ∧ W ≤ x.D ∧ Hid (OnWay f W) ∧ Hid (itr f x.D x.J 13 ((x.D + 1 - W).toNat + 1) W = (rv, er)) ∧ Hid (Below w.heap.size w w')) (fun a' _ => (x.D + 1 - intOf (a'.tmps.getD 6 undef)).toNat) rfl ?_ ?_
 ·intro hp
  go_wp2_with (go_at_call 47; refine CH.out.mono ?_; rintro e w2 ⟨rfl, hb2⟩)
  go_step3
  rename_i hK
  exact hK _ _ (hp _ _ ⟨0, _, _, _, _, _, _, _, _, _, _, _, _, _, _, _, _, _, _, _, _, _, _, _, _, _, _, _, _, _, _, _, _, _, _, _, _, rfl, Int.le_refl _, by omega, OnWay.zero hgr.out, HI, hb2⟩)
 ·rintro a' wr ⟨W, u7, u8, u9, u10, u11, u12, u13, u14, u15, u16, u17, u18, u19, u20, u21, u22, u23, u24, u25, u26, u27, u28, u29, u30, u31, u32, u33, u34, u35, u36, u37, u38, u39, u40, u41, u42, rfl, hW0, hWD, HOW, HIT, HBL⟩
  have hwr : rtI W = true := rtI_iff.2 (by omega)
  cases hfW : f W with
  | none =>
   have C := Lib.hid (CN.out W hwr (0, 4) (by rw [hfW]) wr HBL.out)
   have HR : Hid ((0, 4) = (rv, er)) := (itr_none hfW).symm.trans HIT.out
   clear hfW hwr
   go_wp2_with (go_at_call 48; refine C.out.mono ?_; rintro e w3 ⟨rfl, hb3⟩; have x3 := keep_cell (keep_below HBL.out hb3) HF.out.1; have x4 := keep_cell (keep_below HBL.out hb3) HF.out.2)
   simp only [Exit.jump]
   go_ret2
   exact ⟨by have := HR.out; cases this; rfl, keep_below HBL.out hb3⟩
  | some m =>
   have C := Lib.hid (CN.out W hwr (m, 0) (by rw [hfW]) wr HBL.out)
   have hWm := HOW.out.2 m hfW
   have hlm := hlim.out W m hfW
   have HFW := Lib.hid hfW
   have HON := Lib.hid (HOW.out.next hgr.out hfW)
   have hm2 : m < 4611686018427387904 := by have := hlm.2; omega
   have wJ : IntKind.i64.wrap (x.J + m) = x.J + m := by rw [IntKind.wrap_i64]; omega
   clear hfW hwr hlm
   by_cases c1 : x.D < x.J + m
   ·have HR : Hid ((0, 13) = (rv, er)) := (itr_late HFW.out (by omega)).symm.trans HIT.out
    have d1 : decide (x.D < x.J + m) = true := decide_eq_true c1
    go_wp2_with (go_at_call 48; refine C.out.mono ?_; rintro e w3 ⟨rfl, hb3⟩; have x3 := keep_cell (keep_below HBL.out hb3) HF.out.1; have x4 := keep_cell (keep_below HBL.out hb3) HF.out.2)
    simp only [Exit.jump]
    go_ret2
    exact ⟨by have := HR.out; cases this; rfl, keep_below HBL.out hb3⟩
   have d1 : decide (x.D < x.J + m) = false := decide_eq_false c1
   by_cases c3 : m = W
   ·have HR : Hid ((m + x.J, 0) = (rv, er)) := by
     have h := itr_same (f := f) (D := x.D) (J := x.J) (eT := 13) (k := (x.D + 1 - W).toNat) (w := W) (by rw [← c3] at HFW ⊢; exact HFW.out) (by omega)
     rw [c3]; exact h.symm.trans HIT.out
    subst c3
    go_wp2_with (go_at_call 48; refine C.out.mono ?_; rintro e w3 ⟨rfl, hb3⟩; have x3 := keep_cell (keep_below HBL.out hb3) HF.out.1; have x4 := keep_cell (keep_below HBL.out hb3) HF.out.2)
    simp only [Exit.jump]
    go_ret2
    exact ⟨by have := HR.out; cases this; rw [Int.add_comm]; rfl, keep_below HBL.out hb3⟩
   ·have d3 : (m == W) = false := beq_eq_false_iff_ne.2 c3
    have HIT2 : Hid (itr f x.D x.J 13 ((x.D + 1 - m).toNat + 1) m = (rv, er)) := by
     have h1 := (itr_on (f := f) (D := x.D) (J := x.J) (eT := 13) (k := (x.D + 1 - W).toNat) HFW.out (by omega) c3).symm.trans HIT.out
     have h2 := itr_more (f := f) (D := x.D) (J := x.J) (eT := 13) hgr.out ((x.D + 1 - m).toNat + 1) ((x.D + 1 - W).toNat - ((x.D + 1 - m).toNat + 1)) m HON.out (by omega) (by omega)
     rw [show (x.D + 1 - m).toNat + 1 + ((x.D + 1 - W).toNat - ((x.D + 1 - m).toNat + 1)) = (x.D + 1 - W).toNat by omega] at h2
     exact h2.symm.trans h1
    go_wp2_with (go_at_call 48; refine C.out.mono ?_; rintro e w3 ⟨rfl, hb3⟩; have x3 := keep_cell (keep_below HBL.out hb3) HF.out.1; have x4 := keep_cell (keep_below HBL.out hb3) HF.out.2)
    go_step3
    refine ⟨rfl, ⟨m, _, _, _, _, _, _, _, _, _, _, _, _, _, _, _, _, _, _, _, _, _, _, _, _, _, _, _, _, _, _, _, _, _, _, _, _, rfl, by omega, by omega, HON, HIT2, keep_below HBL.out hb3⟩, ?_⟩
    simp [intOf]
    omega
def fil (L : List RtR) (k j : Nat) : Value := .int .i64 (if j < k then (rspR L (j : Int)).1 else 0)
theorem accV_at (L : List RtR) (m j : Nat) (h : j < m) : (accV L m).getD j 0 = (rspR L (j : Int)).1 := by
 unfold accV
 rw [List.getD_eq_getElem?_getD, List.getElem?_map, List.getElem?_range h]; rfl
theorem row_fil {W : World} {g n : Nat} {L : List RtR} (h : W.rowIs g 3 n (fil L n)) : Row W (some ⟨g, 0, none⟩) n (accV L n) := by
 refine ⟨by simp [accV], fun _ => ⟨g, 0, rfl, h.lt, fun k hk => ?_⟩⟩
 rw [Nat.zero_add, h.cell hk]
 unfold fil
 rw [if_pos hk, accV_at L n k hk]
theorem below_set {w W : World} {g j : Nat} {v : Value} (hb : Below w.heap.size w W) (hg : w.heap.size ≤ g) : Below w.heap.size w (W.setCell ⟨g, j, none⟩ v) :=
 ⟨hb.os, hb.tape, hb.output, by simpa using hb.size, fun i hi => by rw [← hb.block i hi]; exact Go.Deep.blk_setCell_other _ _ _ _ (by show i ≠ g; omega)⟩
theorem accP_any (a : Option Addr) (n c : Nat) (L : List RtR) (w : World) (hr : RowS w a n L) (hn : n ≤ 140737488355328) (l : List Int) (rp er : Int) (hq : accR L = (l, rp, er)) :
  Calls Tryz.prog 69 #[.slice a n c] w fun e w' => ∃ ra rn rc, e = .returned (.tuple #[.slice ra rn rc, .int .i64 rp, .int .i64 er]) ∧ Row w' ra rn l ∧ Below w.heap.size w w' := by
 have HL := Lib.hid hr.1
 obtain ⟨g, hg⟩ : ∃ g, rgR L = g := ⟨_, rfl⟩
 have CR := Lib.hid (rowsP_any a n c L w hr hn g hg)
 unfold accR at hq
 rw [hg] at hq
 cases g
 ·rw [if_neg (by decide)] at hq; cases hq
  clear hg
  go_enter Tryz.func69, Tryz.ntmps69
  go_wp2_with (go_at_call 96; refine CR.out.mono ?_; rintro e w2 ⟨rfl, hb2⟩)
  go_ret3
  exact ⟨_, _, _, rfl, ⟨rfl, fun h => absurd h (by omega)⟩, hb2⟩
 rw [if_pos rfl] at hq
 have hn8 : n ≤ 8 := by have h1 := hr.1; unfold rgR at hg; simp only [Bool.and_eq_true, decide_eq_true_eq] at hg; omega
 have HQ := Lib.hid hq
 have CN := Lib.hid (fun (k : Nat) (p : Int × Int) (hp : rspR L k = p) W (hb : Below w.heap.size w W) => respP_any a n c L k W (hr.below hb) hn p.1 p.2 hp)
 have hmk := run_make_row' (P := Tryz.prog) 22 3 (.int .i64 0) 8 Tryz.underlying22 int_info rfl .i64 .i64 n (by omega) (by omega)
 clear hq hg hr
 go_enter Tryz.func69, Tryz.ntmps69
 go_wp2_with (go_at_call 96; refine CR.out.mono ?_; rintro e w2 ⟨rfl, hb2⟩)
 have R0 : Hid ((w2.alloc (.cells (madeCells #[.int .i64 0] n) 3)).rowIs w2.heap.size 3 n (fil L 0)) := (World.rowIs_made w2 (.int .i64 0) n 3).congr (fun j _ => by unfold fil; rw [if_neg (by omega)])
 have B0 := Lib.hid (hb2.alloc hb2.size (.cells (madeCells #[.int .i64 0] n) 3))
 have hgp := hb2.size
 generalize w2.alloc (.cells (madeCells #[.int .i64 0] n) 3) = W0 at R0 B0 ⊢
 generalize w2.heap.size = gp at R0 hgp ⊢
 clear hmk hb2
 go_loopw [17] (fun j wr => ∃ kk : Nat, kk ≤ n ∧ j = .int .i64 kk ∧ Hid (wr.rowIs gp 3 n (fil L kk)) ∧ Hid (accK L kk = none) ∧ Hid (Below w.heap.size w wr)) (fun j _ => n - (intOf j).toNat)
 case atStart => exact ⟨0, by omega, rfl, R0, rfl, B0⟩
 case round =>
  obtain ⟨kk, hk, rfl, HO, HK, HBL⟩ := hrel
  by_cases hlt : kk < n
  ·have j1 : (0 : Int) ≤ (kk : Int) := by omega
   have j2 : (kk : Int) < (n : Int) := by omega
   obtain ⟨⟨pv, pe⟩, hp⟩ : ∃ p, rspR L kk = p := ⟨_, rfl⟩
   have C := Lib.hid (CN.out kk (pv, pe) hp wr HBL.out)
   have HP := Lib.hid hp
   clear hp
   by_cases hpe : pe = 0
   ·subst hpe
    have HK2 : Hid (accK L (kk + 1) = none) := accK_none HK.out (by rw [HP.out])
    go_wp2_with (go_at_call 21; refine C.out.mono ?_; rintro e w3 ⟨rfl, hb3⟩; have HBV := Lib.hid (keep_below HBL.out hb3); have HOV := Lib.hid (HO.out.of_block (hb3.block _ HO.out.lt)); have fz := HOV.out.frozen kk; have cz := HOV.out.cell hlt)
    go_roundw
    case rel =>
     refine ⟨kk + 1, by omega, by go_num, (HOV.out.set kk (.int .i64 pv)).congr (fun j hj => ?_), HK2, below_set HBV.out hgp⟩
     unfold fil
     by_cases e : j = kk
     ·rw [if_pos e, if_pos (by omega), e, HP.out]
     ·rw [if_neg e]
      by_cases e2 : j < kk
      ·rw [if_pos e2, if_pos (by omega)]
      ·rw [if_neg e2, if_neg (by omega)]
    case measure => simp [intOf]; omega
   ·have HR : Hid (l = [] ∧ rp = kk ∧ er = pe) := by
     have h1 := accK_some HK.out (by rw [HP.out]; exact hpe)
     have h2 := accK_more h1 (n - (kk + 1))
     rw [show kk + 1 + (n - (kk + 1)) = n by omega, HP.out] at h2
     have := HQ.out
     rw [← HL.out, h2] at this
     cases this; exact ⟨rfl, rfl, rfl⟩
    have d5 : (pe == 0) = false := beq_eq_false_iff_ne.2 hpe
    go_wp2_with (go_at_call 21; refine C.out.mono ?_; rintro e w3 ⟨rfl, hb3⟩)
    go_ret3
    exact ⟨_, _, _, by rw [HR.out.2.1, HR.out.2.2]; rfl, by rw [HR.out.1]; exact ⟨rfl, fun h => absurd h (by omega)⟩, keep_below HBL.out hb3⟩
  ·obtain rfl : n = kk := by omega
   have HR : Hid (l = accV L n ∧ rp = -1 ∧ er = 0) := by
    have := HQ.out
    rw [← HL.out, HK.out] at this
    cases this; exact ⟨rfl, rfl, rfl⟩
   have HRW := Lib.hid (row_fil HO.out)
   go_wp2
   go_ret3
   exact ⟨_, _, _, by rw [HR.out.2.1, HR.out.2.2]; rfl, by rw [HR.out.1]; exact HRW.out, HBL.out⟩
theorem same_any (a b : Option Addr) (n m c d : Nat) (l : List Int) (w : World) (ha : Row w a n l) (hb : Row w b m l) (hn : n ≤ 1000000) :
  Calls Tryz.prog 30 #[.slice a n c, .slice b m d] w fun e w' => e = .returned (.bool true) ∧ Below w.heap.size w w' := by
 obtain rfl : m = n := hb.1.trans ha.1.symm
 go_enter Tryz.func30, Tryz.ntmps30
 go_wp2
 go_loopw [5] (fun i wr => ∃ k : Nat, k ≤ m ∧ i = .int .i64 k ∧ Below w.heap.size w wr) (fun i _ => m - (intOf i).toNat)
 case atStart => exact ⟨0, by omega, rfl, Below.refl _ _⟩
 case round =>
  obtain ⟨k, hk, rfl, hbl⟩ := hrel
  by_cases hlt : k < m
  ·obtain ⟨b1, o1, rfl, hB1, hc1⟩ := ha.2 (by omega)
   obtain ⟨b2, o2, rfl, hB2, hc2⟩ := hb.2 (by omega)
   obtain ⟨x, hx⟩ : ∃ x, x = l.getD k 0 := ⟨_, rfl⟩
   have hcx : wr.cell? ⟨b1, o1 + k, none⟩ = some (.int .i64 x) := by rw [hx]; exact (hbl.cell (p := ⟨b1, o1 + k, none⟩) hB1).trans (hc1 k hlt)
   have hcy : wr.cell? ⟨b2, o2 + k, none⟩ = some (.int .i64 x) := by rw [hx]; exact (hbl.cell (p := ⟨b2, o2 + k, none⟩) hB2).trans (hc2 k hlt)
   clear hx hc1 hc2
   go_wp2
   go_quiet (fail)
   go_wp2
   go_roundw
   case rel => exact ⟨k + 1, by omega, by go_num, hbl.trans ⟨rfl, rfl, rfl, Nat.le_refl _, fun _ _ => rfl⟩⟩
   case measure => simp [intOf]; omega
  ·go_wp2
   go_ret
   exact ⟨rfl, hbl⟩
end Go.Proofs.YtngehojibcmieaaGreatDoor.Kd
end
