/- What is proved here: contracts of nest.canBe, nest.closes and nest.bit. Condition: the table of names holds what its initialiser lays ('Nms'). the contract of nest.regions. contracts of nest.Match, nest.Home, slices.IndexFunc at nest's test, nest.endsLast, nest.jumpsStay and nest.Whole. contracts of nest.Whole, nest.inLoop, nest.heldAt and nest.Held. -/
import Derived.Test.YtngehojibcmieaaGreatDoorQGb
import Derived.BigRegion
import Derived.Lib.Builder
import Derived.Deep.RegionHeld3
set_option maxRecDepth 100000
set_option maxHeartbeats 8000000
section
section
namespace Go.Proofs.YtngehojibcmieaaGreatDoor
open Go.ChangeShapes Go.WideShapes Go.RowKit
theorem at_some {L : List (Int × Int × Int)} {k : Nat} {x : Int × Int × Int} (h : L[k]? = some x) : at_ L k = x := by
 unfold at_; rw [List.getD_eq_getElem?_getD, h]; rfl
theorem can_none {L : List (Int × Int × Int)} (h : ¬ (1 ≤ L.length ∧ L.length ≤ 200)) : can L = false := by
 unfold can; simp only [h, decide_false, Bool.false_and]
theorem can_wrong {L : List (Int × Int × Int)} {k : Nat} (hk : k < L.length) (h : right (at_ L k) = false) : can L = false := by
 cases hc : can L
 ·rfl
 ·rw [can_right hc hk] at h; cases h
theorem canBe_any (a : Option Addr) (n c : Nat) (L : List (Int × Int × Int)) (w : World) (hr : RowI w a n L) (hN : Nms w) :
  Calls Tryz.prog 228 #[.slice a n c] w fun e w' => e = .returned (.bool (can L)) ∧ Below w.heap.size w w' := by
 obtain ⟨R, hR⟩ : ∃ R, R = can L := ⟨_, rfl⟩
 rw [← hR]
 have HR := Lib.hid hR
 have HL := Lib.hid hr.1
 have HN := Lib.hid hN
 clear hR hN
 by_cases h0 : n = 0
 ·have HQ := Lib.hid (can_none (L := L) (by rw [← HL.out]; omega))
  subst h0
  clear hr
  go_enter Tryz.func228, Tryz.ntmps228
  go_wp2
  go_ret
  exact ⟨by rw [HR.out, HQ.out]; rfl, Below.refl _ _⟩
 by_cases h1 : 200 < n
 ·have HQ := Lib.hid (can_none (L := L) (by rw [← HL.out]; omega))
  have e0 : (n == 0) = false := by simpa using h0
  have e1 : ((n : Int) == 0) = false := by rw [beq_eq_false_iff_ne]; omega
  clear hr
  go_enter Tryz.func228, Tryz.ntmps228
  go_wp2
  go_ret
  exact ⟨by rw [HR.out, HQ.out]; rfl, Below.refl _ _⟩
 have e0 : (n == 0) = false := by simpa using h0
 have e1 : ((n : Int) == 0) = false := by rw [beq_eq_false_iff_ne]; omega
 have e2 : decide (200 < (n : Int)) = false := by rw [decide_eq_false_iff_not]; omega
 go_enter Tryz.func228, Tryz.ntmps228
 go_wp2
 go_loopw [15] (fun i wr => ∃ k : Nat, k ≤ n ∧ i = .int .i64 k ∧ Hid (∀ p, p < k → right (at_ L p) = true) ∧ Below w.heap.size w wr) (fun i _ => n - (intOf i).toNat)
 case atStart => exact ⟨0, by omega, rfl, fun p hp => absurd hp (by omega), Below.refl _ _⟩
 case round =>
  obtain ⟨k, hk, rfl, HA, hbl⟩ := hrel
  by_cases hlt : k < n
  ·obtain ⟨b1, o1, p1, p2, p3, rfl, hB1, hx, hc1, hc2, hc3⟩ := (hr.below hbl).at_ hlt
   have hbs := hbl.size
   have G1 := hbl.alloc hbs (.cells #[.int .i64 p1, .int .i64 p2, .int .i64 p3] 103)
   have ce := right_any p1 p2 p3 _ (HN.out.below G1)
   have HX := Lib.hid (at_some hx)
   clear hx
   cases hri : right (p1, p2, p3)
   ·have HQ : Hid (can L = false) := can_wrong (k := k) (by rw [← HL.out]; exact hlt) (by rw [HX.out]; exact hri)
    rw [hri] at ce
    have CE := Lib.hid ce
    clear ce hri
    go_wp2_with (go_at_call 175; refine CE.out.mono ?_; rintro e w2 ⟨rfl, hb2⟩)
    go_ret
    exact ⟨by rw [HR.out, HQ.out]; rfl, G1.trans (hb2.mono (by simp; omega))⟩
   ·have HA2 : Hid (∀ p, p < k + 1 → right (at_ L p) = true) := by
     intro p hp
     by_cases e : p = k
     ·rw [e, HX.out]; exact hri
     ·exact HA.out p (by omega)
    rw [hri] at ce
    have CE := Lib.hid ce
    clear ce hri
    go_wp2_with (go_at_call 175; refine CE.out.mono ?_; rintro e w2 ⟨rfl, hb2⟩)
    go_roundw
    case rel => exact ⟨k + 1, by omega, by go_num, HA2, G1.trans (hb2.mono (by simp; omega))⟩
    case measure => simp [intOf]; omega
  ·have HQ : Hid (can L = true) := can_iff.2 ⟨by rw [← HL.out]; omega, fun p hp => HA.out p (by rw [← HL.out] at hp; omega)⟩
   go_wp2
   go_ret
   exact ⟨by rw [HR.out, HQ.out]; rfl, hbl⟩
def closes (o x o2 x2 : Int) : Bool := if o = 22 then o2 == 21 else o2 == 23 && x2 == x
theorem closes_clo {i t : Int × Int × Int} (h : cls i = true) : closes i.1 i.2.1 t.1 t.2.1 = clo t i := by
 unfold closes clo
 unfold cls at h
 simp only [Bool.or_eq_true, beq_iff_eq] at h
 rcases h with h | h
 ·rw [if_pos h, h]; simp
 ·rw [if_neg (by omega), h]; simp
theorem closes_any (o x y o2 x2 y2 : Int) (w : World) :
  Calls Tryz.prog 229 #[.agg #[.int .i64 o, .int .i64 x, .int .i64 y], .agg #[.int .i64 o2, .int .i64 x2, .int .i64 y2]] w fun e w' => e = .returned (.bool (closes o x o2 x2)) ∧ Below w.heap.size w w' := by
 have G := ((Below.refl w.heap.size w).alloc (Nat.le_refl _) (.cells #[.int .i64 o, .int .i64 x, .int .i64 y] 103)).alloc (by simp) (.cells #[.int .i64 o2, .int .i64 x2, .int .i64 y2] 103)
 by_cases h : o = 22
 ·subst h
  have e : closes 22 x o2 x2 = (o2 == 21) := rfl
  rw [e]
  clear e
  go_enter Tryz.func229, Tryz.ntmps229
  go_wp2
  go_ret
  exact ⟨rfl, G⟩
 ·have e : closes o x o2 x2 = (o2 == 23 && x2 == x) := by unfold closes; rw [if_neg h]
  have e1 : (o == 22) = false := by simpa using h
  rw [e]
  clear e
  by_cases h2 : o2 = 23
  ·subst h2
   go_enter Tryz.func229, Tryz.ntmps229
   go_wp2
   go_ret
   exact ⟨rfl, G⟩
  ·have e2 : (o2 == 23) = false := by simpa using h2
   rw [e2]
   go_enter Tryz.func229, Tryz.ntmps229
   go_wp2
   go_ret
   exact ⟨rfl, G⟩
theorem int_info : (Tryz.prog.info? 3).map (fun i => (i.zero, i.size, i.bytes)) = some (some (.int .i64 0), 1, 8) := by kernel_rfl
def GotRg (L : List (Int × Int × Int)) (w : World) (e : Ending) (w' : World) : Prop :=
 ∃ a n c a2 n2 c2, e = .returned (.tuple #[.slice a n c, .slice a2 n2 c2, .int .i64 (mE L)]) ∧ Row w' a n (if mE L = 0 then mL L else []) ∧ Row w' a2 n2 (if mE L = 0 then hL L else []) ∧ Below w.heap.size w w'
def fmv (L : List (Int × Int × Int)) (k j : Nat) : Value := .int .i64 (if j < k then mt L k j else 0)
def fhv (L : List (Int × Int × Int)) (k j : Nat) : Value := .int .i64 (if j < k then hm L j else 0)
theorem rows_two {wr : World} {M H n k : Nat} {f g : Nat → Value} (hMH : M ≠ H) (rM : wr.rowIs M 3 n f) (rH : wr.rowIs H 3 n g) (o : Obj) (x y : Value) :
  (((wr.setCell ⟨M, k, none⟩ x).setCell ⟨H, k, none⟩ y).alloc o).rowIs M 3 n (fun j => if j = k then x else f j) ∧ (((wr.setCell ⟨M, k, none⟩ x).setCell ⟨H, k, none⟩ y).alloc o).rowIs H 3 n (fun j => if j = k then y else g j) :=
 ⟨((rM.set k x).setOther hMH y).alloc o, ((rH.setOther (a := ⟨M, k, none⟩) (Ne.symm hMH) x).set k y).alloc o⟩
theorem fhv_step {L : List (Int × Int × Int)} {k : Nat} {la : Int} (h : la = hm L k) (j : Nat) : (if j = k then Value.int .i64 la else fhv L k j) = fhv L (k + 1) j := by
 unfold fhv
 by_cases e : j = k
 ·subst e; rw [if_pos rfl, if_pos (by omega), h]
 ·rw [if_neg e]
  by_cases e2 : j < k
  ·rw [if_pos e2, if_pos (by omega)]
  ·rw [if_neg e2, if_neg (by omega)]
theorem fmv_step {L : List (Int × Int × Int)} {k : Nat} (h : cls (at_ L k) = false) (j : Nat) : (if j = k then Value.int .i64 (-1) else fmv L k j) = fmv L (k + 1) j := by
 unfold fmv
 rw [mt_oth h]
 by_cases e : j = k
 ·subst e; rw [if_pos rfl, if_pos (by omega), mt_ge (Nat.le_refl _)]
 ·rw [if_neg e]
  by_cases e2 : j < k
  ·rw [if_pos e2, if_pos (by omega)]
  ·rw [if_neg e2, if_neg (by omega)]
theorem fmv_close {L : List (Int × Int × Int)} {k t : Nat} {s : List Nat} (h : cls (at_ L k) = true) (hs : sk L k = t :: s) (j : Nat) :
  (if j = t then Value.int .i64 (k : Int) else if j = k then Value.int .i64 (t : Int) else if j = k then Value.int .i64 (-1) else fmv L k j) = fmv L (k + 1) j := by
 have hl := sk_lt (l := L) (k := k) (t := t) (by rw [hs]; simp)
 unfold fmv
 rw [mt_cons h hs]
 by_cases e : j = t
 ·subst e; rw [if_pos rfl, if_pos (by omega), if_neg (by omega), if_pos rfl]
 ·rw [if_neg e]
  by_cases e2 : j = k
  ·subst e2; rw [if_pos rfl, if_pos (by omega), if_pos rfl]
  ·rw [if_neg e2, if_neg e2]
   by_cases e3 : j < k
   ·rw [if_pos e3, if_pos (by omega), if_neg e2, if_neg e]
   ·rw [if_neg e3, if_neg (by omega)]
theorem below_two {w wr : World} {M H k : Nat} (hb : Below w.heap.size w wr) (h1 : w.heap.size ≤ M) (h2 : w.heap.size ≤ H) (o : Obj) (x y : Value) :
  Below w.heap.size w (((wr.setCell ⟨M, k, none⟩ x).setCell ⟨H, k, none⟩ y).alloc o) :=
 ((hb.setCell (p := ⟨M, k, none⟩) h1 x).setCell (p := ⟨H, k, none⟩) h2 y).alloc (by have := hb.size; simpa [World.setCell] using this) o
theorem keep_rowIs {W w9 : World} {b n : Nat} {f : Nat → Value} (hb : Below W.heap.size W w9) (h : W.rowIs b 3 n f) : w9.rowIs b 3 n f := h.of_block (hb.block b h.lt)
theorem good_succ {L : List (Int × Int × Int)} {k : Nat} (h : Good L k) (hg : gd L k = true) : Good L (k + 1) := by
 intro j hj
 by_cases e : j = k
 ·rw [e]; exact hg
 ·exact h j (by omega)
theorem gd_oth {L : List (Int × Int × Int)} {k : Nat} (h : cls (at_ L k) = false) : gd L k = true := by unfold gd; rw [h]; rfl
theorem mE_bad {L : List (Int × Int × Int)} {k : Nat} (hc : can L = true) (hk : k < L.length) (h : gd L k = false) : mE L = 7 := by
 unfold mE
 rw [if_pos hc, if_neg]
 intro hs
 have := (sound_iff.1 hs).1 k hk
 rw [this] at h; cases h
theorem mE_open {L : List (Int × Int × Int)} (hc : can L = true) (h : sk L L.length ≠ []) : mE L = 7 := by
 unfold mE
 rw [if_pos hc, if_neg]
 intro hs
 exact h (sound_iff.1 hs).2
theorem row_of_is {w : World} {b n : Nat} {f : Nat → Value} {l : List Int} (h : w.rowIs b 3 n f) (hn : n = l.length) (e : ∀ i, i < n → f i = .int .i64 (l.getD i 0)) : Row w (some ⟨b, 0, none⟩) n l :=
 ⟨hn, fun _ => ⟨b, 0, rfl, h.lt, fun i hi => by rw [Nat.zero_add, h.cell hi, e i hi]⟩⟩
theorem hm_opn {L : List (Int × Int × Int)} {k : Nat} (h : opn (at_ L k) = true) : hm L (k + 1) = k := hm_cons (sk_opn' h)
theorem hm_oth {L : List (Int × Int × Int)} {k : Nat} (h : opn (at_ L k) = false) (h2 : cls (at_ L k) = false) : hm L (k + 1) = hm L k := by unfold hm; rw [sk_oth h h2]
theorem hm_cls {L : List (Int × Int × Int)} {k t : Nat} {s : List Nat} (h : cls (at_ L k) = true) (hs : sk L k = t :: s) : hm L (k + 1) = hm L t := by
 unfold hm; rw [sk_cls h, hs, List.tail_cons, sk_head hs]
theorem regions_any (a : Option Addr) (n c : Nat) (L : List (Int × Int × Int)) (w : World) (hr : RowI w a n L) (hN : Nms w) :
  Calls Tryz.prog 191 #[.slice a n c] w (GotRg L w) := by
 have cb := canBe_any a n c L w hr hN
 cases hc : can L
 ·rw [hc] at cb
  have CB := Lib.hid cb
  have HE : Hid (mE L = 1) := by show _ = _; unfold mE; rw [hc]; rfl
  clear cb hc
  go_enter Tryz.func191, Tryz.ntmps191
  go_wp2
  go_step3
  go_wp2_with (go_at_call 228; refine CB.out.mono ?_; rintro e w1 ⟨rfl, hb1⟩)
  try rw [Exit.noGoto_ret]
  go_ret3
  refine ⟨none, 0, 0, none, 0, 0, by rw [HE.out]; rfl, ?_, ?_, hb1⟩
  ·rw [if_neg (by rw [HE.out]; decide)]; exact Row.nil _ _
  ·rw [if_neg (by rw [HE.out]; decide)]; exact Row.nil _ _
 ·rw [hc] at cb
  have CB := Lib.hid cb
  have hln := can_len hc
  rw [← hr.1] at hln
  have HC := Lib.hid hc
  have HL := Lib.hid hr.1
  have hmk := run_make_row' (P := Tryz.prog) 22 3 (.int .i64 0) 8 Tryz.underlying22 int_info rfl .i64 .i64 n (by omega) (by omega)
  clear cb hc hN
  go_enter Tryz.func191, Tryz.ntmps191
  go_wp2
  go_step3
  go_wp2_with (go_at_call 228; refine CB.out.mono ?_; rintro e w1 ⟨rfl, hb1⟩)
  clear CB
  go_region
  ·go_wp2
   go_step3
   go_wp2
   have rA : (((w1.alloc (.cells (madeCells #[.int .i64 0] n) 3)).alloc (.cells (madeCells #[.int .i64 0] n) 3)).drew).rowIs w1.heap.size 3 n (fun _ => .int .i64 0) := ((World.rowIs_made w1 _ n 3).alloc _).drew
   have rB : (((w1.alloc (.cells (madeCells #[.int .i64 0] n) 3)).alloc (.cells (madeCells #[.int .i64 0] n) 3)).drew).rowIs (w1.heap.size + 1) 3 n (fun _ => .int .i64 0) := by
    have := World.rowIs_made (w1.alloc (.cells (madeCells #[.int .i64 0] n) 3)) (.int .i64 0) n 3
    have e : (w1.alloc (.cells (madeCells #[.int .i64 0] n) 3)).heap.size = w1.heap.size + 1 := by simp
    rw [e] at this; exact this.drew
   have hbw : Below w.heap.size w (((w1.alloc (.cells (madeCells #[.int .i64 0] n) 3)).alloc (.cells (madeCells #[.int .i64 0] n) 3)).drew) := ((hb1.alloc hb1.size _).alloc (by have := hb1.size; simp; omega) _).drew
   have hA := hb1.size
   have hAB : w1.heap.size ≠ w1.heap.size + 1 := by omega
   have hB : w.heap.size ≤ w1.heap.size + 1 := by omega
   generalize (((w1.alloc (.cells (madeCells #[.int .i64 0] n) 3)).alloc (.cells (madeCells #[.int .i64 0] n) 3)).drew) = W at rA rB hbw ⊢
   generalize w1.heap.size + 1 = B at rB hAB hB ⊢
   clear hmk
   generalize w1.heap.size = A at rA hAB hA ⊢
   clear hb1
   go_loopw [5, 6, 20] (fun last st i wr => ∃ k : Nat, k ≤ n ∧ i = .int .i64 k ∧ last = .int .i64 (hm L k) ∧ st = .bool true ∧ Hid (Good L k) ∧ wr.rowIs A 3 n (fmv L k) ∧ wr.rowIs B 3 n (fhv L k) ∧ Below w.heap.size w wr) (fun _ _ i _ => n - (intOf i).toNat)
   case atStart => exact ⟨0, by omega, rfl, rfl, rfl, fun j hj => absurd hj (by omega), rA.congr (fun i hi => by simp [fmv]), rB.congr (fun i hi => by simp [fhv]), hbw⟩
   case round =>
    clear rA rB hbw
    obtain ⟨k, hk, rfl, rfl, rfl, HG, rM, rH, hbl⟩ := hrel
    obtain ⟨la, hla⟩ : ∃ la, la = hm L k := ⟨_, rfl⟩
    rw [← hla]
    have HLa := Lib.hid hla
    have hlb : -1 ≤ la ∧ la < k := by rw [hla]; exact hm_lt L k
    clear hla
    by_cases hlt : k < n
    ·obtain ⟨b1, o1, p1, p2, p3, rfl, hB1, hx, hc1, hc2, hc3⟩ := (hr.below hbl).at_ hlt
     have HX := Lib.hid (at_some hx)
     clear hx
     have hM1 := rM.cell hlt
     have hM2 := rM.frozen k
     have hMl := rM.lt
     have hH1 := rH.cell hlt
     have hH2 := rH.frozen k
     have hHl := rH.lt
     have G := below_two (k := k) hbl hA hB (.cells #[.int .i64 p1, .int .i64 p2, .int .i64 p3] 103) (.int .i64 (-1)) (.int .i64 la)
     obtain ⟨rM2, rH2⟩ := rows_two (k := k) hAB rM rH (.cells #[.int .i64 p1, .int .i64 p2, .int .i64 p3] 103) (.int .i64 (-1)) (.int .i64 la)
     replace rH2 := rH2.congr (g := fhv L (k + 1)) (fun j _ => fhv_step HLa.out j)
     have hMH : A ≠ B := hAB
     clear rM rH
     by_cases hcl : p1 = 22 ∨ p1 = 24
     ·have hct : cls (at_ L k) = true := by rw [HX.out]; unfold cls; simp; omega
      have e1 : (p1 == 21) = false := by rw [beq_eq_false_iff_ne]; omega
      have e3 : (p1 == 23) = false := by rw [beq_eq_false_iff_ne]; omega
      cases hs : sk L k with
      | nil =>
       have HE : Hid (mE L = 7) := mE_bad HC.out (by rw [← HL.out]; exact hlt) (by unfold gd; rw [hct, hs]; rfl)
       obtain rfl : la = -1 := by rw [HLa.out, hm_nil hs]
       clear hct HG HX rM2 rH2 hs HLa
       rcases hcl with rfl | rfl
       all_goals
        go_wp2
        go_quiet (fail)
        go_wp2
        try rw [Exit.noGoto_ret]
        go_ret3
        refine ⟨none, 0, 0, none, 0, 0, by rw [HE.out]; rfl, ?_, ?_, G.trans ⟨rfl, rfl, rfl, Nat.le_refl _, fun _ _ => rfl⟩⟩
        ·rw [if_neg (by rw [HE.out]; decide)]; exact Row.nil _ _
        ·rw [if_neg (by rw [HE.out]; decide)]; exact Row.nil _ _
      | cons t s =>
       obtain rfl : la = t := by rw [HLa.out, hm_cons hs]
       have htk : t < k := by omega
       have htn : t < n := by omega
       have hneg : ((t : Int) == -1) = false := by rw [beq_eq_false_iff_ne]; omega
       obtain ⟨b2, o2, q1, q2, q3, hb2, hB2, hy, hd1, hd2, hd3⟩ := (hr.below G).at_ htn
       simp only [Option.some.injEq, Addr.mk.injEq] at hb2
       obtain ⟨rfl, rfl, _⟩ := hb2
       have HY := Lib.hid (at_some hy)
       have hgd : gd L k = closes p1 p2 q1 q2 := by
        have := closes_clo (i := at_ L k) (t := at_ L t) hct
        unfold gd; rw [hct, hs]; simp only [Bool.not_true, Bool.false_or]
        rw [← this, HX.out, HY.out]
       have cc := fun W => closes_any p1 p2 p3 q1 q2 q3 W
       rw [← hgd] at cc
       have k0 : (((wr.setCell ⟨A, k, none⟩ (.int .i64 (-1))).setCell ⟨B, k, none⟩ (.int .i64 (t : Int))).alloc (.cells #[.int .i64 p1, .int .i64 p2, .int .i64 p3] 103)).heap[wr.heap.size]? = some (.cells #[.int .i64 p1, .int .i64 p2, .int .i64 p3] 103) := by
        have := new_block ((wr.setCell ⟨A, k, none⟩ (.int .i64 (-1))).setCell ⟨B, k, none⟩ (.int .i64 (t : Int))) (.cells #[.int .i64 p1, .int .i64 p2, .int .i64 p3] 103)
        simpa [World.setCell] using this
       have c0 := (Lib.cell_of_heap k0 0).trans (rfl : _ = some (Value.int .i64 p1))
       have c1 := (Lib.cell_of_heap k0 1).trans (rfl : _ = some (Value.int .i64 p2))
       have c2 := (Lib.cell_of_heap k0 2).trans (rfl : _ = some (Value.int .i64 p3))
       have hzz : wr.heap.size < (((wr.setCell ⟨A, k, none⟩ (.int .i64 (-1))).setCell ⟨B, k, none⟩ (.int .i64 (t : Int))).alloc (.cells #[.int .i64 p1, .int .i64 p2, .int .i64 p3] 103)).heap.size := by simp [World.setCell]
       clear hy k0
       cases hv : gd L k
       ·have HE : Hid (mE L = 7) := mE_bad HC.out (by rw [← HL.out]; exact hlt) hv
        rw [hv] at cc
        have CC := Lib.hid cc
        clear hct HG HX hs HLa cc hgd hv HY
        rcases hcl with hh | hh
        ·have e2 : (p1 == 22) = true := by rw [beq_iff_eq]; exact hh
         clear hh
         go_wp2
         go_region_held3 (fun W => W.cell? ⟨wr.heap.size, 0, none⟩ = some (.int .i64 p1) ∧ W.cell? ⟨wr.heap.size, 1, none⟩ = some (.int .i64 p2) ∧ W.cell? ⟨wr.heap.size, 2, none⟩ = some (.int .i64 p3) ∧ W.cell? ⟨b1, o1 + t * 3, none⟩ = some (.int .i64 q1) ∧ W.cell? ⟨b1, o1 + t * 3 + 1, none⟩ = some (.int .i64 q2) ∧ W.cell? ⟨b1, o1 + t * 3 + 2, none⟩ = some (.int .i64 q3) ∧ Below w.heap.size w W ∧ W.rowIs A 3 n (fun j => if j = k then .int .i64 (-1) else fmv L k j) ∧ W.rowIs B 3 n (fhv L (k + 1)))
          (first
           | exact ⟨c0, c1, c2, hd1, hd2, hd3, G.drew, rM2.drew, rH2.drew⟩
           | (go_split_ands; exact ⟨keep_cell hb9 (by assumption), keep_cell hb9 (by assumption), keep_cell hb9 (by assumption), keep_cell hb9 (by assumption), keep_cell hb9 (by assumption), keep_cell hb9 (by assumption), keep_below (by assumption) hb9, keep_rowIs hb9 (by assumption), keep_rowIs hb9 (by assumption)⟩)
           | (go_split_ands; exact ⟨by assumption, by assumption, by assumption, by assumption, by assumption, by assumption, by assumption, by assumption, by assumption⟩))
          (first | (go_split_ands; go_at_call 229; refine (CC.out _).mono ?_; rintro e w9 ⟨rfl, hb9⟩))
         go_split_ands
         go_wp2
         try rw [Exit.noGoto_ret]
         go_ret3
         refine ⟨none, 0, 0, none, 0, 0, by rw [HE.out]; rfl, ?_, ?_, by assumption⟩
         ·rw [if_neg (by rw [HE.out]; decide)]; exact Row.nil _ _
         ·rw [if_neg (by rw [HE.out]; decide)]; exact Row.nil _ _
        ·have e2 : (p1 == 22) = false := by rw [beq_eq_false_iff_ne]; omega
         have e4 : (p1 == 24) = true := by rw [beq_iff_eq]; exact hh
         clear hh
         go_wp2
         go_region_held3 (fun W => W.cell? ⟨wr.heap.size, 0, none⟩ = some (.int .i64 p1) ∧ W.cell? ⟨wr.heap.size, 1, none⟩ = some (.int .i64 p2) ∧ W.cell? ⟨wr.heap.size, 2, none⟩ = some (.int .i64 p3) ∧ W.cell? ⟨b1, o1 + t * 3, none⟩ = some (.int .i64 q1) ∧ W.cell? ⟨b1, o1 + t * 3 + 1, none⟩ = some (.int .i64 q2) ∧ W.cell? ⟨b1, o1 + t * 3 + 2, none⟩ = some (.int .i64 q3) ∧ Below w.heap.size w W ∧ W.rowIs A 3 n (fun j => if j = k then .int .i64 (-1) else fmv L k j) ∧ W.rowIs B 3 n (fhv L (k + 1)))
          (first
           | exact ⟨c0, c1, c2, hd1, hd2, hd3, G.drew, rM2.drew, rH2.drew⟩
           | (go_split_ands; exact ⟨keep_cell hb9 (by assumption), keep_cell hb9 (by assumption), keep_cell hb9 (by assumption), keep_cell hb9 (by assumption), keep_cell hb9 (by assumption), keep_cell hb9 (by assumption), keep_below (by assumption) hb9, keep_rowIs hb9 (by assumption), keep_rowIs hb9 (by assumption)⟩)
           | (go_split_ands; exact ⟨by assumption, by assumption, by assumption, by assumption, by assumption, by assumption, by assumption, by assumption, by assumption⟩))
          (first | (go_split_ands; go_at_call 229; refine (CC.out _).mono ?_; rintro e w9 ⟨rfl, hb9⟩))
         go_split_ands
         go_wp2
         try rw [Exit.noGoto_ret]
         go_ret3
         refine ⟨none, 0, 0, none, 0, 0, by rw [HE.out]; rfl, ?_, ?_, by assumption⟩
         ·rw [if_neg (by rw [HE.out]; decide)]; exact Row.nil _ _
         ·rw [if_neg (by rw [HE.out]; decide)]; exact Row.nil _ _
       ·have HG2 := Lib.hid (good_succ HG.out hv)
        have HH := Lib.hid (hm_cls hct hs)
        have HF := Lib.hid (fun j => fmv_close hct hs j)
        rw [hv] at cc
        have CC := Lib.hid cc
        clear hct HG HX hs HLa cc hgd hv HY
        rcases hcl with hh | hh
        ·have e2 : (p1 == 22) = true := by rw [beq_iff_eq]; exact hh
         clear hh
         go_wp2
         go_region_held3 (fun W => W.cell? ⟨wr.heap.size, 0, none⟩ = some (.int .i64 p1) ∧ W.cell? ⟨wr.heap.size, 1, none⟩ = some (.int .i64 p2) ∧ W.cell? ⟨wr.heap.size, 2, none⟩ = some (.int .i64 p3) ∧ W.cell? ⟨b1, o1 + t * 3, none⟩ = some (.int .i64 q1) ∧ W.cell? ⟨b1, o1 + t * 3 + 1, none⟩ = some (.int .i64 q2) ∧ W.cell? ⟨b1, o1 + t * 3 + 2, none⟩ = some (.int .i64 q3) ∧ Below w.heap.size w W ∧ W.rowIs A 3 n (fun j => if j = k then .int .i64 (-1) else fmv L k j) ∧ W.rowIs B 3 n (fhv L (k + 1)))
          (first
           | exact ⟨c0, c1, c2, hd1, hd2, hd3, G.drew, rM2.drew, rH2.drew⟩
           | (go_split_ands; exact ⟨keep_cell hb9 (by assumption), keep_cell hb9 (by assumption), keep_cell hb9 (by assumption), keep_cell hb9 (by assumption), keep_cell hb9 (by assumption), keep_cell hb9 (by assumption), keep_below (by assumption) hb9, keep_rowIs hb9 (by assumption), keep_rowIs hb9 (by assumption)⟩)
           | (go_split_ands; exact ⟨by assumption, by assumption, by assumption, by assumption, by assumption, by assumption, by assumption, by assumption, by assumption⟩))
          (first | (go_split_ands; go_at_call 229; refine (CC.out _).mono ?_; rintro e w9 ⟨rfl, hb9⟩))
         go_split_ands
         have G9 : Below w.heap.size w w9 := by assumption
         have rM9 : w9.rowIs A 3 n (fun j => if j = k then .int .i64 (-1) else fmv L k j) := by assumption
         have rH9 : w9.rowIs B 3 n (fhv L (k + 1)) := by assumption
         have m1 := rM9.cell hlt
         have m2 := rM9.frozen k
         have m3 := rM9.cell htn
         have m4 := rM9.frozen t
         have hh1 : w9.cell? ⟨B, t, none⟩ = some (.int .i64 (hm L t)) := by rw [rH9.cell htn]; unfold fhv; rw [if_pos (by omega)]
         obtain ⟨u, hu⟩ : ∃ u, u = hm L t := ⟨_, rfl⟩
         rw [← hu] at hh1
         have HU := Lib.hid hu
         have hMl9 := rM9.lt
         have hHl9 := rH9.lt
         clear hu
         go_wp2
         go_roundw
         case rel => exact ⟨k + 1, by omega, by go_num, by rw [HH.out, HU.out], rfl, HG2, ((rM9.set k (.int .i64 (t : Int))).set t (.int .i64 (k : Int))).congr (fun j _ => HF.out j), (rH9.setOther (a := ⟨A, k, none⟩) (Ne.symm hMH) _).setOther (a := ⟨A, t, none⟩) (Ne.symm hMH) _, (G9.setCell (p := ⟨A, k, none⟩) hA _).setCell (p := ⟨A, t, none⟩) hA _⟩
         case measure => simp [intOf]; omega
        ·have e2 : (p1 == 22) = false := by rw [beq_eq_false_iff_ne]; omega
         have e4 : (p1 == 24) = true := by rw [beq_iff_eq]; exact hh
         clear hh
         go_wp2
         go_region_held3 (fun W => W.cell? ⟨wr.heap.size, 0, none⟩ = some (.int .i64 p1) ∧ W.cell? ⟨wr.heap.size, 1, none⟩ = some (.int .i64 p2) ∧ W.cell? ⟨wr.heap.size, 2, none⟩ = some (.int .i64 p3) ∧ W.cell? ⟨b1, o1 + t * 3, none⟩ = some (.int .i64 q1) ∧ W.cell? ⟨b1, o1 + t * 3 + 1, none⟩ = some (.int .i64 q2) ∧ W.cell? ⟨b1, o1 + t * 3 + 2, none⟩ = some (.int .i64 q3) ∧ Below w.heap.size w W ∧ W.rowIs A 3 n (fun j => if j = k then .int .i64 (-1) else fmv L k j) ∧ W.rowIs B 3 n (fhv L (k + 1)))
          (first
           | exact ⟨c0, c1, c2, hd1, hd2, hd3, G.drew, rM2.drew, rH2.drew⟩
           | (go_split_ands; exact ⟨keep_cell hb9 (by assumption), keep_cell hb9 (by assumption), keep_cell hb9 (by assumption), keep_cell hb9 (by assumption), keep_cell hb9 (by assumption), keep_cell hb9 (by assumption), keep_below (by assumption) hb9, keep_rowIs hb9 (by assumption), keep_rowIs hb9 (by assumption)⟩)
           | (go_split_ands; exact ⟨by assumption, by assumption, by assumption, by assumption, by assumption, by assumption, by assumption, by assumption, by assumption⟩))
          (first | (go_split_ands; go_at_call 229; refine (CC.out _).mono ?_; rintro e w9 ⟨rfl, hb9⟩))
         go_split_ands
         have G9 : Below w.heap.size w w9 := by assumption
         have rM9 : w9.rowIs A 3 n (fun j => if j = k then .int .i64 (-1) else fmv L k j) := by assumption
         have rH9 : w9.rowIs B 3 n (fhv L (k + 1)) := by assumption
         have m1 := rM9.cell hlt
         have m2 := rM9.frozen k
         have m3 := rM9.cell htn
         have m4 := rM9.frozen t
         have hh1 : w9.cell? ⟨B, t, none⟩ = some (.int .i64 (hm L t)) := by rw [rH9.cell htn]; unfold fhv; rw [if_pos (by omega)]
         obtain ⟨u, hu⟩ : ∃ u, u = hm L t := ⟨_, rfl⟩
         rw [← hu] at hh1
         have HU := Lib.hid hu
         have hMl9 := rM9.lt
         have hHl9 := rH9.lt
         clear hu
         go_wp2
         go_roundw
         case rel => exact ⟨k + 1, by omega, by go_num, by rw [HH.out, HU.out], rfl, HG2, ((rM9.set k (.int .i64 (t : Int))).set t (.int .i64 (k : Int))).congr (fun j _ => HF.out j), (rH9.setOther (a := ⟨A, k, none⟩) (Ne.symm hMH) _).setOther (a := ⟨A, t, none⟩) (Ne.symm hMH) _, (G9.setCell (p := ⟨A, k, none⟩) hA _).setCell (p := ⟨A, t, none⟩) hA _⟩
         case measure => simp [intOf]; omega
     ·have hcf : cls (at_ L k) = false := by rw [HX.out]; unfold cls; simp; omega
      replace rM2 := rM2.congr (g := fmv L (k + 1)) (fun j _ => fmv_step hcf j)
      have HG2 := Lib.hid (good_succ HG.out (gd_oth hcf))
      by_cases ho : p1 = 21 ∨ p1 = 23
      ·have HH : Hid (hm L (k + 1) = k) := hm_opn (by rw [HX.out]; unfold opn; simp; omega)
       rcases ho with rfl | rfl
       all_goals
        clear hcf HG HX hcl
        go_wp2
        go_roundw
        case rel => exact ⟨k + 1, by omega, by go_num, by rw [HH.out], rfl, HG2, rM2, rH2, G⟩
        case measure => simp [intOf]; omega
      ·have HH : Hid (hm L (k + 1) = hm L k) := hm_oth (by rw [HX.out]; unfold opn; simp; omega) hcf
       have e1 : (p1 == 21) = false := by rw [beq_eq_false_iff_ne]; omega
       have e2 : (p1 == 22) = false := by rw [beq_eq_false_iff_ne]; omega
       have e3 : (p1 == 23) = false := by rw [beq_eq_false_iff_ne]; omega
       have e4 : (p1 == 24) = false := by rw [beq_eq_false_iff_ne]; omega
       clear hcf HG HX hcl ho
       go_wp2
       go_roundw
       case rel => exact ⟨k + 1, by omega, by go_num, by rw [HH.out, HLa.out], rfl, HG2, rM2, rH2, G⟩
       case measure => simp [intOf]; omega
    ·have hkn : k = n := by omega
     subst hkn
     by_cases h1 : la = -1
     ·have HS : Hid (mE L = 0) := by
       refine mE_of HC.out ⟨?_, ?_⟩
       ·have := HG.out; rw [HL.out] at this; exact this
       ·cases hs : sk L L.length with
        | nil => rfl
        | cons t s =>
         have := HLa.out
         rw [HL.out, hm_cons hs] at this; omega
      have R1 : Hid (Row wr (some ⟨A, 0, none⟩) k (mL L)) := row_of_is rM (by rw [mL_len]; exact HL.out) (fun i hi => by unfold fmv; rw [if_pos hi, mL_at (by rw [← HL.out]; exact hi), ← HL.out])
      have R2 : Hid (Row wr (some ⟨B, 0, none⟩) k (hL L)) := row_of_is rH (by rw [hL_len]; exact HL.out) (fun i hi => by unfold fhv; rw [if_pos hi, hL_at (by rw [← HL.out]; exact hi)])
      subst h1
      clear rM rH HG HLa
      go_wp2
      try rw [Exit.noGoto_ret]
      go_ret3
      refine ⟨_, _, _, _, _, _, by rw [HS.out]; rfl, ?_, ?_, hbl⟩
      ·rw [if_pos HS.out]; exact R1
      ·rw [if_pos HS.out]; exact R2
     ·have HE : Hid (mE L = 7) := mE_open HC.out (by
       intro hs
       have := HLa.out
       rw [HL.out, hm_nil hs] at this; exact h1 this)
      have e1 : (la != -1) = true := by simpa using h1
      have e2 : (la == -1) = false := by simpa using h1
      clear rM rH HG HLa
      go_wp2
      try rw [Exit.noGoto_ret]
      go_ret3
      refine ⟨none, 0, 0, none, 0, 0, by rw [HE.out]; rfl, ?_, ?_, hbl⟩
      ·rw [if_neg (by rw [HE.out]; decide)]; exact Row.nil _ _
      ·rw [if_neg (by rw [HE.out]; decide)]; exact Row.nil _ _
  ·go_wp2
   go_step3
   go_wp2
   have rA : (((w1.alloc (.cells (madeCells #[.int .i64 0] n) 3)).alloc (.cells (madeCells #[.int .i64 0] n) 3)).drew).rowIs w1.heap.size 3 n (fun _ => .int .i64 0) := ((World.rowIs_made w1 _ n 3).alloc _).drew
   have rB : (((w1.alloc (.cells (madeCells #[.int .i64 0] n) 3)).alloc (.cells (madeCells #[.int .i64 0] n) 3)).drew).rowIs (w1.heap.size + 1) 3 n (fun _ => .int .i64 0) := by
    have := World.rowIs_made (w1.alloc (.cells (madeCells #[.int .i64 0] n) 3)) (.int .i64 0) n 3
    have e : (w1.alloc (.cells (madeCells #[.int .i64 0] n) 3)).heap.size = w1.heap.size + 1 := by simp
    rw [e] at this; exact this.drew
   have hbw : Below w.heap.size w (((w1.alloc (.cells (madeCells #[.int .i64 0] n) 3)).alloc (.cells (madeCells #[.int .i64 0] n) 3)).drew) := ((hb1.alloc hb1.size _).alloc (by have := hb1.size; simp; omega) _).drew
   have hA := hb1.size
   have hAB : w1.heap.size ≠ w1.heap.size + 1 := by omega
   have hB : w.heap.size ≤ w1.heap.size + 1 := by omega
   generalize (((w1.alloc (.cells (madeCells #[.int .i64 0] n) 3)).alloc (.cells (madeCells #[.int .i64 0] n) 3)).drew) = W at rA rB hbw ⊢
   generalize w1.heap.size + 1 = B at rB hAB hB ⊢
   clear hmk
   generalize w1.heap.size = A at rA hAB hA ⊢
   clear hb1
   go_loopw [5, 6, 20] (fun last st i wr => ∃ k : Nat, k ≤ n ∧ i = .int .i64 k ∧ last = .int .i64 (hm L k) ∧ st = .bool true ∧ Hid (Good L k) ∧ wr.rowIs B 3 n (fmv L k) ∧ wr.rowIs A 3 n (fhv L k) ∧ Below w.heap.size w wr) (fun _ _ i _ => n - (intOf i).toNat)
   case atStart => exact ⟨0, by omega, rfl, rfl, rfl, fun j hj => absurd hj (by omega), rB.congr (fun i hi => by simp [fmv]), rA.congr (fun i hi => by simp [fhv]), hbw⟩
   case round =>
    clear rA rB hbw
    obtain ⟨k, hk, rfl, rfl, rfl, HG, rM, rH, hbl⟩ := hrel
    obtain ⟨la, hla⟩ : ∃ la, la = hm L k := ⟨_, rfl⟩
    rw [← hla]
    have HLa := Lib.hid hla
    have hlb : -1 ≤ la ∧ la < k := by rw [hla]; exact hm_lt L k
    clear hla
    by_cases hlt : k < n
    ·obtain ⟨b1, o1, p1, p2, p3, rfl, hB1, hx, hc1, hc2, hc3⟩ := (hr.below hbl).at_ hlt
     have HX := Lib.hid (at_some hx)
     clear hx
     have hM1 := rM.cell hlt
     have hM2 := rM.frozen k
     have hMl := rM.lt
     have hH1 := rH.cell hlt
     have hH2 := rH.frozen k
     have hHl := rH.lt
     have G := below_two (k := k) hbl hB hA (.cells #[.int .i64 p1, .int .i64 p2, .int .i64 p3] 103) (.int .i64 (-1)) (.int .i64 la)
     obtain ⟨rM2, rH2⟩ := rows_two (k := k) (Ne.symm hAB) rM rH (.cells #[.int .i64 p1, .int .i64 p2, .int .i64 p3] 103) (.int .i64 (-1)) (.int .i64 la)
     replace rH2 := rH2.congr (g := fhv L (k + 1)) (fun j _ => fhv_step HLa.out j)
     have hMH : B ≠ A := Ne.symm hAB
     clear rM rH
     by_cases hcl : p1 = 22 ∨ p1 = 24
     ·have hct : cls (at_ L k) = true := by rw [HX.out]; unfold cls; simp; omega
      have e1 : (p1 == 21) = false := by rw [beq_eq_false_iff_ne]; omega
      have e3 : (p1 == 23) = false := by rw [beq_eq_false_iff_ne]; omega
      cases hs : sk L k with
      | nil =>
       have HE : Hid (mE L = 7) := mE_bad HC.out (by rw [← HL.out]; exact hlt) (by unfold gd; rw [hct, hs]; rfl)
       obtain rfl : la = -1 := by rw [HLa.out, hm_nil hs]
       clear hct HG HX rM2 rH2 hs HLa
       rcases hcl with rfl | rfl
       all_goals
        go_wp2
        go_quiet (fail)
        go_wp2
        try rw [Exit.noGoto_ret]
        go_ret3
        refine ⟨none, 0, 0, none, 0, 0, by rw [HE.out]; rfl, ?_, ?_, G.trans ⟨rfl, rfl, rfl, Nat.le_refl _, fun _ _ => rfl⟩⟩
        ·rw [if_neg (by rw [HE.out]; decide)]; exact Row.nil _ _
        ·rw [if_neg (by rw [HE.out]; decide)]; exact Row.nil _ _
      | cons t s =>
       obtain rfl : la = t := by rw [HLa.out, hm_cons hs]
       have htk : t < k := by omega
       have htn : t < n := by omega
       have hneg : ((t : Int) == -1) = false := by rw [beq_eq_false_iff_ne]; omega
       obtain ⟨b2, o2, q1, q2, q3, hb2, hB2, hy, hd1, hd2, hd3⟩ := (hr.below G).at_ htn
       simp only [Option.some.injEq, Addr.mk.injEq] at hb2
       obtain ⟨rfl, rfl, _⟩ := hb2
       have HY := Lib.hid (at_some hy)
       have hgd : gd L k = closes p1 p2 q1 q2 := by
        have := closes_clo (i := at_ L k) (t := at_ L t) hct
        unfold gd; rw [hct, hs]; simp only [Bool.not_true, Bool.false_or]
        rw [← this, HX.out, HY.out]
       have cc := fun W => closes_any p1 p2 p3 q1 q2 q3 W
       rw [← hgd] at cc
       have k0 : (((wr.setCell ⟨B, k, none⟩ (.int .i64 (-1))).setCell ⟨A, k, none⟩ (.int .i64 (t : Int))).alloc (.cells #[.int .i64 p1, .int .i64 p2, .int .i64 p3] 103)).heap[wr.heap.size]? = some (.cells #[.int .i64 p1, .int .i64 p2, .int .i64 p3] 103) := by
        have := new_block ((wr.setCell ⟨B, k, none⟩ (.int .i64 (-1))).setCell ⟨A, k, none⟩ (.int .i64 (t : Int))) (.cells #[.int .i64 p1, .int .i64 p2, .int .i64 p3] 103)
        simpa [World.setCell] using this
       have c0 := (Lib.cell_of_heap k0 0).trans (rfl : _ = some (Value.int .i64 p1))
       have c1 := (Lib.cell_of_heap k0 1).trans (rfl : _ = some (Value.int .i64 p2))
       have c2 := (Lib.cell_of_heap k0 2).trans (rfl : _ = some (Value.int .i64 p3))
       have hzz : wr.heap.size < (((wr.setCell ⟨B, k, none⟩ (.int .i64 (-1))).setCell ⟨A, k, none⟩ (.int .i64 (t : Int))).alloc (.cells #[.int .i64 p1, .int .i64 p2, .int .i64 p3] 103)).heap.size := by simp [World.setCell]
       clear hy k0
       cases hv : gd L k
       ·have HE : Hid (mE L = 7) := mE_bad HC.out (by rw [← HL.out]; exact hlt) hv
        rw [hv] at cc
        have CC := Lib.hid cc
        clear hct HG HX hs HLa cc hgd hv HY
        rcases hcl with hh | hh
        ·have e2 : (p1 == 22) = true := by rw [beq_iff_eq]; exact hh
         clear hh
         go_wp2
         go_region_held3 (fun W => W.cell? ⟨wr.heap.size, 0, none⟩ = some (.int .i64 p1) ∧ W.cell? ⟨wr.heap.size, 1, none⟩ = some (.int .i64 p2) ∧ W.cell? ⟨wr.heap.size, 2, none⟩ = some (.int .i64 p3) ∧ W.cell? ⟨b1, o1 + t * 3, none⟩ = some (.int .i64 q1) ∧ W.cell? ⟨b1, o1 + t * 3 + 1, none⟩ = some (.int .i64 q2) ∧ W.cell? ⟨b1, o1 + t * 3 + 2, none⟩ = some (.int .i64 q3) ∧ Below w.heap.size w W ∧ W.rowIs B 3 n (fun j => if j = k then .int .i64 (-1) else fmv L k j) ∧ W.rowIs A 3 n (fhv L (k + 1)))
          (first
           | exact ⟨c0, c1, c2, hd1, hd2, hd3, G.drew, rM2.drew, rH2.drew⟩
           | (go_split_ands; exact ⟨keep_cell hb9 (by assumption), keep_cell hb9 (by assumption), keep_cell hb9 (by assumption), keep_cell hb9 (by assumption), keep_cell hb9 (by assumption), keep_cell hb9 (by assumption), keep_below (by assumption) hb9, keep_rowIs hb9 (by assumption), keep_rowIs hb9 (by assumption)⟩)
           | (go_split_ands; exact ⟨by assumption, by assumption, by assumption, by assumption, by assumption, by assumption, by assumption, by assumption, by assumption⟩))
          (first | (go_split_ands; go_at_call 229; refine (CC.out _).mono ?_; rintro e w9 ⟨rfl, hb9⟩))
         go_split_ands
         go_wp2
         try rw [Exit.noGoto_ret]
         go_ret3
         refine ⟨none, 0, 0, none, 0, 0, by rw [HE.out]; rfl, ?_, ?_, by assumption⟩
         ·rw [if_neg (by rw [HE.out]; decide)]; exact Row.nil _ _
         ·rw [if_neg (by rw [HE.out]; decide)]; exact Row.nil _ _
        ·have e2 : (p1 == 22) = false := by rw [beq_eq_false_iff_ne]; omega
         have e4 : (p1 == 24) = true := by rw [beq_iff_eq]; exact hh
         clear hh
         go_wp2
         go_region_held3 (fun W => W.cell? ⟨wr.heap.size, 0, none⟩ = some (.int .i64 p1) ∧ W.cell? ⟨wr.heap.size, 1, none⟩ = some (.int .i64 p2) ∧ W.cell? ⟨wr.heap.size, 2, none⟩ = some (.int .i64 p3) ∧ W.cell? ⟨b1, o1 + t * 3, none⟩ = some (.int .i64 q1) ∧ W.cell? ⟨b1, o1 + t * 3 + 1, none⟩ = some (.int .i64 q2) ∧ W.cell? ⟨b1, o1 + t * 3 + 2, none⟩ = some (.int .i64 q3) ∧ Below w.heap.size w W ∧ W.rowIs B 3 n (fun j => if j = k then .int .i64 (-1) else fmv L k j) ∧ W.rowIs A 3 n (fhv L (k + 1)))
          (first
           | exact ⟨c0, c1, c2, hd1, hd2, hd3, G.drew, rM2.drew, rH2.drew⟩
           | (go_split_ands; exact ⟨keep_cell hb9 (by assumption), keep_cell hb9 (by assumption), keep_cell hb9 (by assumption), keep_cell hb9 (by assumption), keep_cell hb9 (by assumption), keep_cell hb9 (by assumption), keep_below (by assumption) hb9, keep_rowIs hb9 (by assumption), keep_rowIs hb9 (by assumption)⟩)
           | (go_split_ands; exact ⟨by assumption, by assumption, by assumption, by assumption, by assumption, by assumption, by assumption, by assumption, by assumption⟩))
          (first | (go_split_ands; go_at_call 229; refine (CC.out _).mono ?_; rintro e w9 ⟨rfl, hb9⟩))
         go_split_ands
         go_wp2
         try rw [Exit.noGoto_ret]
         go_ret3
         refine ⟨none, 0, 0, none, 0, 0, by rw [HE.out]; rfl, ?_, ?_, by assumption⟩
         ·rw [if_neg (by rw [HE.out]; decide)]; exact Row.nil _ _
         ·rw [if_neg (by rw [HE.out]; decide)]; exact Row.nil _ _
       ·have HG2 := Lib.hid (good_succ HG.out hv)
        have HH := Lib.hid (hm_cls hct hs)
        have HF := Lib.hid (fun j => fmv_close hct hs j)
        rw [hv] at cc
        have CC := Lib.hid cc
        clear hct HG HX hs HLa cc hgd hv HY
        rcases hcl with hh | hh
        ·have e2 : (p1 == 22) = true := by rw [beq_iff_eq]; exact hh
         clear hh
         go_wp2
         go_region_held3 (fun W => W.cell? ⟨wr.heap.size, 0, none⟩ = some (.int .i64 p1) ∧ W.cell? ⟨wr.heap.size, 1, none⟩ = some (.int .i64 p2) ∧ W.cell? ⟨wr.heap.size, 2, none⟩ = some (.int .i64 p3) ∧ W.cell? ⟨b1, o1 + t * 3, none⟩ = some (.int .i64 q1) ∧ W.cell? ⟨b1, o1 + t * 3 + 1, none⟩ = some (.int .i64 q2) ∧ W.cell? ⟨b1, o1 + t * 3 + 2, none⟩ = some (.int .i64 q3) ∧ Below w.heap.size w W ∧ W.rowIs B 3 n (fun j => if j = k then .int .i64 (-1) else fmv L k j) ∧ W.rowIs A 3 n (fhv L (k + 1)))
          (first
           | exact ⟨c0, c1, c2, hd1, hd2, hd3, G.drew, rM2.drew, rH2.drew⟩
           | (go_split_ands; exact ⟨keep_cell hb9 (by assumption), keep_cell hb9 (by assumption), keep_cell hb9 (by assumption), keep_cell hb9 (by assumption), keep_cell hb9 (by assumption), keep_cell hb9 (by assumption), keep_below (by assumption) hb9, keep_rowIs hb9 (by assumption), keep_rowIs hb9 (by assumption)⟩)
           | (go_split_ands; exact ⟨by assumption, by assumption, by assumption, by assumption, by assumption, by assumption, by assumption, by assumption, by assumption⟩))
          (first | (go_split_ands; go_at_call 229; refine (CC.out _).mono ?_; rintro e w9 ⟨rfl, hb9⟩))
         go_split_ands
         have G9 : Below w.heap.size w w9 := by assumption
         have rM9 : w9.rowIs B 3 n (fun j => if j = k then .int .i64 (-1) else fmv L k j) := by assumption
         have rH9 : w9.rowIs A 3 n (fhv L (k + 1)) := by assumption
         have m1 := rM9.cell hlt
         have m2 := rM9.frozen k
         have m3 := rM9.cell htn
         have m4 := rM9.frozen t
         have hh1 : w9.cell? ⟨A, t, none⟩ = some (.int .i64 (hm L t)) := by rw [rH9.cell htn]; unfold fhv; rw [if_pos (by omega)]
         obtain ⟨u, hu⟩ : ∃ u, u = hm L t := ⟨_, rfl⟩
         rw [← hu] at hh1
         have HU := Lib.hid hu
         have hMl9 := rM9.lt
         have hHl9 := rH9.lt
         clear hu
         go_wp2
         go_roundw
         case rel => exact ⟨k + 1, by omega, by go_num, by rw [HH.out, HU.out], rfl, HG2, ((rM9.set k (.int .i64 (t : Int))).set t (.int .i64 (k : Int))).congr (fun j _ => HF.out j), (rH9.setOther (a := ⟨B, k, none⟩) (Ne.symm hMH) _).setOther (a := ⟨B, t, none⟩) (Ne.symm hMH) _, (G9.setCell (p := ⟨B, k, none⟩) hB _).setCell (p := ⟨B, t, none⟩) hB _⟩
         case measure => simp [intOf]; omega
        ·have e2 : (p1 == 22) = false := by rw [beq_eq_false_iff_ne]; omega
         have e4 : (p1 == 24) = true := by rw [beq_iff_eq]; exact hh
         clear hh
         go_wp2
         go_region_held3 (fun W => W.cell? ⟨wr.heap.size, 0, none⟩ = some (.int .i64 p1) ∧ W.cell? ⟨wr.heap.size, 1, none⟩ = some (.int .i64 p2) ∧ W.cell? ⟨wr.heap.size, 2, none⟩ = some (.int .i64 p3) ∧ W.cell? ⟨b1, o1 + t * 3, none⟩ = some (.int .i64 q1) ∧ W.cell? ⟨b1, o1 + t * 3 + 1, none⟩ = some (.int .i64 q2) ∧ W.cell? ⟨b1, o1 + t * 3 + 2, none⟩ = some (.int .i64 q3) ∧ Below w.heap.size w W ∧ W.rowIs B 3 n (fun j => if j = k then .int .i64 (-1) else fmv L k j) ∧ W.rowIs A 3 n (fhv L (k + 1)))
          (first
           | exact ⟨c0, c1, c2, hd1, hd2, hd3, G.drew, rM2.drew, rH2.drew⟩
           | (go_split_ands; exact ⟨keep_cell hb9 (by assumption), keep_cell hb9 (by assumption), keep_cell hb9 (by assumption), keep_cell hb9 (by assumption), keep_cell hb9 (by assumption), keep_cell hb9 (by assumption), keep_below (by assumption) hb9, keep_rowIs hb9 (by assumption), keep_rowIs hb9 (by assumption)⟩)
           | (go_split_ands; exact ⟨by assumption, by assumption, by assumption, by assumption, by assumption, by assumption, by assumption, by assumption, by assumption⟩))
          (first | (go_split_ands; go_at_call 229; refine (CC.out _).mono ?_; rintro e w9 ⟨rfl, hb9⟩))
         go_split_ands
         have G9 : Below w.heap.size w w9 := by assumption
         have rM9 : w9.rowIs B 3 n (fun j => if j = k then .int .i64 (-1) else fmv L k j) := by assumption
         have rH9 : w9.rowIs A 3 n (fhv L (k + 1)) := by assumption
         have m1 := rM9.cell hlt
         have m2 := rM9.frozen k
         have m3 := rM9.cell htn
         have m4 := rM9.frozen t
         have hh1 : w9.cell? ⟨A, t, none⟩ = some (.int .i64 (hm L t)) := by rw [rH9.cell htn]; unfold fhv; rw [if_pos (by omega)]
         obtain ⟨u, hu⟩ : ∃ u, u = hm L t := ⟨_, rfl⟩
         rw [← hu] at hh1
         have HU := Lib.hid hu
         have hMl9 := rM9.lt
         have hHl9 := rH9.lt
         clear hu
         go_wp2
         go_roundw
         case rel => exact ⟨k + 1, by omega, by go_num, by rw [HH.out, HU.out], rfl, HG2, ((rM9.set k (.int .i64 (t : Int))).set t (.int .i64 (k : Int))).congr (fun j _ => HF.out j), (rH9.setOther (a := ⟨B, k, none⟩) (Ne.symm hMH) _).setOther (a := ⟨B, t, none⟩) (Ne.symm hMH) _, (G9.setCell (p := ⟨B, k, none⟩) hB _).setCell (p := ⟨B, t, none⟩) hB _⟩
         case measure => simp [intOf]; omega
     ·have hcf : cls (at_ L k) = false := by rw [HX.out]; unfold cls; simp; omega
      replace rM2 := rM2.congr (g := fmv L (k + 1)) (fun j _ => fmv_step hcf j)
      have HG2 := Lib.hid (good_succ HG.out (gd_oth hcf))
      by_cases ho : p1 = 21 ∨ p1 = 23
      ·have HH : Hid (hm L (k + 1) = k) := hm_opn (by rw [HX.out]; unfold opn; simp; omega)
       rcases ho with rfl | rfl
       all_goals
        clear hcf HG HX hcl
        go_wp2
        go_roundw
        case rel => exact ⟨k + 1, by omega, by go_num, by rw [HH.out], rfl, HG2, rM2, rH2, G⟩
        case measure => simp [intOf]; omega
      ·have HH : Hid (hm L (k + 1) = hm L k) := hm_oth (by rw [HX.out]; unfold opn; simp; omega) hcf
       have e1 : (p1 == 21) = false := by rw [beq_eq_false_iff_ne]; omega
       have e2 : (p1 == 22) = false := by rw [beq_eq_false_iff_ne]; omega
       have e3 : (p1 == 23) = false := by rw [beq_eq_false_iff_ne]; omega
       have e4 : (p1 == 24) = false := by rw [beq_eq_false_iff_ne]; omega
       clear hcf HG HX hcl ho
       go_wp2
       go_roundw
       case rel => exact ⟨k + 1, by omega, by go_num, by rw [HH.out, HLa.out], rfl, HG2, rM2, rH2, G⟩
       case measure => simp [intOf]; omega
    ·have hkn : k = n := by omega
     subst hkn
     by_cases h1 : la = -1
     ·have HS : Hid (mE L = 0) := by
       refine mE_of HC.out ⟨?_, ?_⟩
       ·have := HG.out; rw [HL.out] at this; exact this
       ·cases hs : sk L L.length with
        | nil => rfl
        | cons t s =>
         have := HLa.out
         rw [HL.out, hm_cons hs] at this; omega
      have R1 : Hid (Row wr (some ⟨B, 0, none⟩) k (mL L)) := row_of_is rM (by rw [mL_len]; exact HL.out) (fun i hi => by unfold fmv; rw [if_pos hi, mL_at (by rw [← HL.out]; exact hi), ← HL.out])
      have R2 : Hid (Row wr (some ⟨A, 0, none⟩) k (hL L)) := row_of_is rH (by rw [hL_len]; exact HL.out) (fun i hi => by unfold fhv; rw [if_pos hi, hL_at (by rw [← HL.out]; exact hi)])
      subst h1
      clear rM rH HG HLa
      go_wp2
      try rw [Exit.noGoto_ret]
      go_ret3
      refine ⟨_, _, _, _, _, _, by rw [HS.out]; rfl, ?_, ?_, hbl⟩
      ·rw [if_pos HS.out]; exact R1
      ·rw [if_pos HS.out]; exact R2
     ·have HE : Hid (mE L = 7) := mE_open HC.out (by
       intro hs
       have := HLa.out
       rw [HL.out, hm_nil hs] at this; exact h1 this)
      have e1 : (la != -1) = true := by simpa using h1
      have e2 : (la == -1) = false := by simpa using h1
      clear rM rH HG HLa
      go_wp2
      try rw [Exit.noGoto_ret]
      go_ret3
      refine ⟨none, 0, 0, none, 0, 0, by rw [HE.out]; rfl, ?_, ?_, hbl⟩
      ·rw [if_neg (by rw [HE.out]; decide)]; exact Row.nil _ _
      ·rw [if_neg (by rw [HE.out]; decide)]; exact Row.nil _ _
def GotL (l : List Int) (x : Int) (w : World) (e : Ending) (w' : World) : Prop :=
 ∃ a n c, e = .returned (.tuple #[.slice a n c, .int .i64 x]) ∧ Row w' a n l ∧ Below w.heap.size w w'
def mA (L : List (Int × Int × Int)) : List Int := if mE L = 0 then mL L else []
def hA (L : List (Int × Int × Int)) : List Int := if mE L = 0 then hL L else []
theorem match_any (a : Option Addr) (n c : Nat) (L : List (Int × Int × Int)) (w : World) (hr : RowI w a n L) (hN : Nms w) :
  Calls Tryz.prog 186 #[.slice a n c] w (GotL (mA L) (mE L) w) := by
 have C := Lib.hid (regions_any a n c L w hr hN)
 clear hr hN
 go_enter Tryz.func186, Tryz.ntmps186
 go_wp2_with (go_at_call 191; refine C.out.mono ?_; rintro e w1 ⟨a1, n1, c1, a2, n2, c2, rfl, h1, h2, hb⟩)
 go_ret2
 exact ⟨_, _, _, rfl, h1, hb⟩
theorem isEnd_any (o x y : Int) (w : World) : Calls Tryz.prog 244 #[.agg #[.int .i64 o, .int .i64 x, .int .i64 y]] w fun e w' => e = .returned (.bool (o == 25)) ∧ Below w.heap.size w w' := by
 go_enter Tryz.func244, Tryz.ntmps244
 go_wp2
 go_ret
 exact ⟨rfl, below_alloc _ _⟩
def IsFst (L : List (Int × Int × Int)) (i : Int) : Prop :=
 (i = -1 ∧ ∀ p, p < L.length → (at_ L p).1 ≠ 25) ∨ ∃ k : Nat, i = k ∧ k < L.length ∧ (at_ L k).1 = 25 ∧ ∀ p, p < k → (at_ L p).1 ≠ 25
theorem ends_fst {L : List (Int × Int × Int)} {i : Int} (h : IsFst L i) (hl : 1 ≤ L.length) : (i == (L.length : Int) - 1) = ends L := by
 rw [Bool.eq_iff_iff, ends_iff, beq_iff_eq]
 rcases h with ⟨rfl, h⟩ | ⟨k, rfl, hk, he, hp⟩
 ·constructor
  ·intro h2; omega
  ·intro h2
   exact absurd ((h2 (L.length - 1) (by omega)).2 (by omega)) (h _ (by omega))
 ·constructor
  ·intro h2 j hj
   constructor
   ·intro h3
    by_cases e : j < k
    ·exact absurd h3 (hp j e)
    ·omega
   ·intro h3
    obtain rfl : j = k := by omega
    exact he
  ·intro h2
   have := (h2 k hk).1 he
   omega
theorem index_any (a : Option Addr) (n c : Nat) (L : List (Int × Int × Int)) (w : World) (hr : RowI w a n L) (hn : n ≤ 1000000) :
  Calls Tryz.prog 195 #[.slice a n c, .func (.func 244) #[] #[]] w fun e w' => ∃ i, e = .returned (.int .i64 i) ∧ IsFst L i ∧ Below w.heap.size w w' := by
 have HL := Lib.hid hr.1
 go_enter Tryz.func195, Tryz.ntmps195
 go_wp2
 go_loopw [8] (fun i wr => ∃ k : Nat, k ≤ n ∧ i = .int .i64 k ∧ Hid (∀ p, p < k → (at_ L p).1 ≠ 25) ∧ Below w.heap.size w wr) (fun i _ => n - (intOf i).toNat)
 case atStart => exact ⟨0, by omega, rfl, fun p hp => absurd hp (by omega), Below.refl _ _⟩
 case round =>
  obtain ⟨k, hk, rfl, HA, hbl⟩ := hrel
  by_cases hlt : k < n
  ·obtain ⟨b1, o1, p1, p2, p3, rfl, hB1, hx, hc1, hc2, hc3⟩ := (hr.below hbl).at_ hlt
   have HX := Lib.hid (at_some hx)
   clear hx
   have ce := fun W => isEnd_any p1 p2 p3 W
   cases hv : (p1 == 25)
   ·rw [hv] at ce
    have HA2 : Hid (∀ p, p < k + 1 → (at_ L p).1 ≠ 25) := by
     intro p hp
     by_cases e : p = k
     ·rw [e, HX.out]; simpa using hv
     ·exact HA.out p (by omega)
    have CE := Lib.hid ce
    clear ce hv HA HX
    go_wp2_with (go_at_call 244; refine (CE.out _).mono ?_; rintro e w2 ⟨rfl, hb2⟩)
    go_roundw
    case rel => exact ⟨k + 1, by omega, by go_num, HA2, keep_below hbl hb2⟩
    case measure => simp [intOf]; omega
   ·rw [hv] at ce
    have HQ : Hid (IsFst L k) := Or.inr ⟨k, rfl, by rw [← HL.out]; exact hlt, by rw [HX.out]; simpa using hv, HA.out⟩
    have CE := Lib.hid ce
    clear ce hv HA HX
    go_wp2_with (go_at_call 244; refine (CE.out _).mono ?_; rintro e w2 ⟨rfl, hb2⟩)
    go_ret
    exact ⟨_, rfl, HQ, keep_below hbl hb2⟩
  ·have HQ : Hid (IsFst L (-1)) := Or.inl ⟨rfl, fun p hp => HA.out p (by rw [← HL.out] at hp; omega)⟩
   go_wp2
   go_ret
   exact ⟨_, rfl, HQ, hbl⟩
theorem endsLast_any (a : Option Addr) (n c : Nat) (L : List (Int × Int × Int)) (w : World) (hr : RowI w a n L) (h1 : 1 ≤ n) (hn : n ≤ 1000000) :
  Calls Tryz.prog 226 #[.slice a n c] w fun e w' => e = .returned (.bool (ends L)) ∧ Below w.heap.size w w' := by
 have HL := Lib.hid hr.1
 have C := Lib.hid (index_any a n c L w hr hn)
 clear hr
 go_enter Tryz.func226, Tryz.ntmps226
 go_wp2_with (go_at_call 195; refine C.out.mono ?_; rintro e w1 ⟨i, rfl, hi, hb⟩)
 go_ret
 refine ⟨?_, hb⟩
 rw [← ends_fst hi (by rw [← HL.out]; exact h1), ← HL.out]
 rfl
theorem stay_not {L : List (Int × Int × Int)} {k : Nat} (hk : k < L.length) (h : stay L k = false) : jmps L = false := by
 cases hj : jmps L
 ·rfl
 ·unfold jmps at hj
  rw [List.all_eq_true] at hj
  rw [hj k (by simpa using hk)] at h; cases h
theorem stays_any (a a2 : Option Addr) (n c c2 : Nat) (L : List (Int × Int × Int)) (w : World) (hr : RowI w a n L) (hh : Row w a2 n (hL L)) (hc : can L = true) :
  Calls Tryz.prog 227 #[.slice a n c, .slice a2 n c2] w fun e w' => e = .returned (.bool (jmps L)) ∧ Below w.heap.size w w' := by
 obtain ⟨R, hR⟩ : ∃ R, R = jmps L := ⟨_, rfl⟩
 rw [← hR]
 have HR := Lib.hid hR
 have HL := Lib.hid hr.1
 have HC := Lib.hid hc
 have hln := can_len hc
 rw [← hr.1] at hln
 obtain ⟨hn1, hn2⟩ := hln
 clear hR hc
 go_enter Tryz.func227, Tryz.ntmps227
 go_wp2
 go_loopw [10] (fun i wr => ∃ k : Nat, k ≤ n ∧ i = .int .i64 k ∧ Hid (∀ p, p < k → stay L p = true) ∧ Below w.heap.size w wr) (fun i _ => n - (intOf i).toNat)
 case atStart => exact ⟨0, by omega, rfl, fun p hp => absurd hp (by omega), Below.refl _ _⟩
 case round =>
  obtain ⟨k, hk, rfl, HA, hbl⟩ := hrel
  by_cases hlt : k < n
  ·obtain ⟨b1, o1, p1, p2, p3, rfl, hB1, hx, hc1, hc2, hc3⟩ := (hr.below hbl).at_ hlt
   have HX := Lib.hid (at_some hx)
   clear hx
   have G1 := hbl.alloc hbl.size (.cells #[.int .i64 p1, .int .i64 p2, .int .i64 p3] 103)
   have HA2 : Hid (stay L k = true → ∀ p, p < k + 1 → stay L p = true) := by
    intro hs p hp
    by_cases e : p = k
    ·rw [e]; exact hs
    ·exact HA.out p (by omega)
   by_cases hj : p1 = 19 ∨ p1 = 20
   ·have hjj : jmp (at_ L k) = true := by rw [HX.out]; unfold jmp; simp; omega
    have h0 := right_jump (can_right HC.out (p := k) (by rw [← HL.out]; exact hlt)) hjj
    rw [HX.out] at h0
    obtain ⟨m, rfl⟩ : ∃ m : Nat, p2 = m := ⟨p2.toNat, by simp at h0; omega⟩
    have hm200 : m < 200 := by simp at h0; omega
    have hled : led L k = k + 1 + m := by unfold led; rw [HX.out]; simp
    clear h0
    by_cases ht : k + 1 + m < n
    ·have e9 : decide ((n : Int) ≤ (k : Int) + 1 + (m : Int)) = false := by rw [decide_eq_false_iff_not]; omega
     obtain ⟨b2, o2, rfl, hB2, hcs⟩ := (hh.below G1).2 (by omega)
     obtain ⟨x, hx⟩ : ∃ x, x = hm L (k + 1 + m) := ⟨_, rfl⟩
     obtain ⟨y, hy⟩ : ∃ y, y = hm L k := ⟨_, rfl⟩
     have d1 := hcs (k + 1 + m) ht
     have d2 := hcs k hlt
     rw [hL_at (by rw [← HL.out]; exact ht), ← hx] at d1
     rw [hL_at (by rw [← HL.out]; exact hlt), ← hy] at d2
     have f1 : (0 : Int) ≤ (k : Int) + 1 + (m : Int) := by omega
     have f2 : (k : Int) + 1 + (m : Int) < (n : Int) := by omega
     have f3 : ((k : Int) + 1 + (m : Int)).toNat = k + 1 + m := by omega
     have hst : stay L k = (x == y) := by
      unfold stay; rw [hjj, hled, ← hx, ← hy]
      have : decide (k + 1 + m < L.length) = true := by rw [decide_eq_true_iff, ← HL.out]; exact ht
      rw [this]; simp
     clear hx hy hcs
     cases hv : (x == y)
     ·have HQ := Lib.hid (stay_not (k := k) (by rw [← HL.out]; exact hlt) (by rw [hst]; exact hv))
      have e8 : (x != y) = true := by simp [bne, hv]
      clear HA HA2 HX hjj hled hst hr hh
      rcases hj with rfl | rfl
      all_goals
       go_wp2
       go_quiet (fail)
       go_wp2
       go_ret
       exact ⟨by rw [HR.out, HQ.out]; rfl, G1.trans ⟨rfl, rfl, rfl, Nat.le_refl _, fun _ _ => rfl⟩⟩
     ·have HA3 := Lib.hid (HA2.out (by rw [hst]; exact hv))
      have e8 : (x != y) = false := by simp [bne, hv]
      clear HA HA2 HX hjj hled hst hr hh
      rcases hj with rfl | rfl
      all_goals
       go_wp2
       go_quiet (fail)
       go_wp2
       go_roundw
       case rel => exact ⟨k + 1, by omega, by go_num, HA3, G1.trans ⟨rfl, rfl, rfl, Nat.le_refl _, fun _ _ => rfl⟩⟩
       case measure => simp [intOf]; omega
    ·have HQ := Lib.hid (stay_not (k := k) (by rw [← HL.out]; exact hlt) (by
      unfold stay; rw [hjj, hled]
      have : decide (k + 1 + m < L.length) = false := by rw [decide_eq_false_iff_not, ← HL.out]; exact ht
      rw [this]; rfl))
     have e9 : (n : Int) ≤ (k : Int) + 1 + (m : Int) := by omega
     clear HA HA2 HX hjj hled hr hh
     rcases hj with rfl | rfl
     all_goals
      go_wp2
      go_quiet (fail)
      go_wp2
      go_ret
      exact ⟨by rw [HR.out, HQ.out]; rfl, G1.trans ⟨rfl, rfl, rfl, Nat.le_refl _, fun _ _ => rfl⟩⟩
   ·have hs : stay L k = true := by
     unfold stay; rw [HX.out]; unfold jmp
     have : ((p1, p2, p3).1 == 19 || (p1, p2, p3).1 == 20) = false := by simp; omega
     rw [this]; rfl
    have HA3 := Lib.hid (HA2.out hs)
    have e1 : (p1 != 19) = true := by simp; omega
    have e2 : (p1 != 20) = true := by simp; omega
    clear HA HA2 HX hs hj
    go_wp2
    go_roundw
    case rel => exact ⟨k + 1, by omega, by go_num, HA3, G1⟩
    case measure => simp [intOf]; omega
  ·have HQ : Hid (jmps L = true) := by
    show _ = _
    unfold jmps
    rw [List.all_eq_true]
    intro p hp
    exact HA.out p (by rw [List.mem_range, ← HL.out] at hp; omega)
   go_wp2
   go_ret
   exact ⟨by rw [HR.out, HQ.out]; rfl, hbl⟩
theorem wE_err {L : List (Int × Int × Int)} (h : mE L ≠ 0) : wE L = mE L := by unfold wE; rw [if_neg h]
theorem wE_ends {L : List (Int × Int × Int)} (h : mE L = 0) (h2 : ends L = false) : wE L = 7 := by unfold wE; rw [if_pos h, h2]; rfl
theorem wE_jmps {L : List (Int × Int × Int)} (h : mE L = 0) (h2 : ends L = true) (h3 : jmps L = false) : wE L = 8 := by unfold wE; rw [if_pos h, h2, h3]; rfl
theorem whole_any (a : Option Addr) (n c : Nat) (L : List (Int × Int × Int)) (w : World) (hr : RowI w a n L) (hN : Nms w) :
  Calls Tryz.prog 190 #[.slice a n c] w fun e w' => e = .returned (.int .i64 (wE L)) ∧ Below w.heap.size w w' := by
 have cr := regions_any a n c L w hr hN
 unfold GotRg at cr
 by_cases h0 : mE L = 0
 ·have HC := Lib.hid (mE_zero h0).1
  have hln := can_len HC.out
  rw [← hr.1] at hln
  rw [h0] at cr
  have C := Lib.hid cr
  have HL := Lib.hid hr.1
  cases he : ends L
  ·have HQ := Lib.hid (wE_ends h0 he)
   have HE := Lib.hid he
   clear cr hN h0 he
   go_enter Tryz.func190, Tryz.ntmps190
   go_wp2_with (go_at_call 191; refine C.out.mono ?_; rintro e w1 ⟨a1, n1, c1, a2, n2, c2, rfl, h1, h2, hb⟩)
   have cl := endsLast_any a n c L w1 (hr.below hb) (by omega) (by omega)
   rw [HE.out] at cl
   refine cl.mono ?_
   rintro e w2 ⟨rfl, hb2⟩
   go_wp2
   go_ret
   exact ⟨by rw [HQ.out]; rfl, keep_below hb hb2⟩
  ·cases hj : jmps L
   all_goals
    first
     | have HQ := Lib.hid (wE_of h0 he hj)
     | have HQ := Lib.hid (wE_jmps h0 he hj)
    have HE := Lib.hid he
    have HJ := Lib.hid hj
    clear cr hN h0 he hj
    go_enter Tryz.func190, Tryz.ntmps190
    go_wp2_with (go_at_call 191; refine C.out.mono ?_; rintro e w1 ⟨a1, n1, c1, a2, n2, c2, rfl, h1, h2, hb⟩)
    have cl := endsLast_any a n c L w1 (hr.below hb) (by omega) (by omega)
    rw [HE.out] at cl
    refine cl.mono ?_
    rintro e w2 ⟨rfl, hb2⟩
    clear cl
    go_wp2_with fail
    have h3 : Row w2 a2 n2 (hL L) := h2.below hb2
    obtain rfl : n2 = n := by have := h3.1; rw [hL_len, ← HL.out] at this; exact this
    have cs := stays_any a a2 n2 c c2 L w2 (hr.below (keep_below hb hb2)) h3 HC.out
    rw [HJ.out] at cs
    refine cs.mono ?_
    rintro e w3 ⟨rfl, hb3⟩
    clear cs h3 h1 h2
    go_wp2
    go_ret
    exact ⟨by rw [HQ.out]; rfl, keep_below (keep_below hb hb2) hb3⟩
 ·have HQ := Lib.hid (wE_err h0)
  have HM : Hid (mE L ≠ 0) := h0
  obtain ⟨x, hx⟩ : ∃ x, x = mE L := ⟨_, rfl⟩
  rw [← hx] at cr
  have e1 : (x != 0) = true := by rw [hx]; simpa using h0
  have e2 : (x == 0) = false := by rw [hx]; simpa using h0
  have HX := Lib.hid hx
  have C := Lib.hid cr
  clear cr hN h0 hx hr HM
  go_enter Tryz.func190, Tryz.ntmps190
  go_wp2_with (go_at_call 191; refine C.out.mono ?_; rintro e w1 ⟨a1, n1, c1, a2, n2, c2, rfl, h1, h2, hb⟩)
  go_ret
  exact ⟨by rw [HQ.out, ← HX.out]; rfl, hb⟩
theorem inl_cons (l : List (Int × Int × Int)) (t : Nat) (s : List Nat) : inl l (t :: s) = ((at_ l t).1 == 21 || inl l s) := rfl
end Go.Proofs.YtngehojibcmieaaGreatDoor
end
end
