/- What is proved here: contracts of nest.bit and nest.inLoop. contracts of nest.heldAt and nest.Held. Condition: the table of names holds what its initialiser lays ('Nms'). the contract of nest.Locks. -/
import Derived.Test.YtngehojibcmieaaGreatDoorQGc
set_option maxRecDepth 100000
set_option maxHeartbeats 8000000
section
section
namespace Go.Proofs.YtngehojibcmieaaGreatDoor
open Go.ChangeShapes Go.WideShapes Go.RowKit
theorem bit_any (a : Nat) (h : a < 8) (w : World) : Calls Tryz.prog 194 #[.int .i64 a] w fun e w' => e = .returned (.int .i64 ((2 ^ a : Nat) : Int)) ∧ w = w' := by
 rcases (show a = 0 ∨ a = 1 ∨ a = 2 ∨ a = 3 ∨ a = 4 ∨ a = 5 ∨ a = 6 ∨ a = 7 by omega) with rfl | rfl | rfl | rfl | rfl | rfl | rfl | rfl
 all_goals
  go_enter Tryz.func194, Tryz.ntmps194
  go_wp2
  go_ret
  exact ⟨rfl, rfl⟩
theorem inLoop_any (a a2 : Option Addr) (n c c2 : Nat) (L : List (Int × Int × Int)) (p : Nat) (hp : p < n) (hn : n ≤ 200) (w : World) (hr : RowI w a n L) (hh : Row w a2 n (hL L)) :
  Calls Tryz.prog 193 #[.slice a n c, .slice a2 n c2, .int .i64 p] w fun e w' => e = .returned (.bool (inl L (sk L p))) ∧ w = w' := by
 obtain ⟨R, hR⟩ : ∃ R, R = inl L (sk L p) := ⟨_, rfl⟩
 rw [← hR]
 have HR := Lib.hid hR
 have HL := Lib.hid hr.1
 clear hR
 obtain ⟨b2, o2, rfl, hB2, hcs⟩ := hh.2 (by omega)
 have d0 := hcs p hp
 rw [hL_at (by rw [← HL.out]; exact hp)] at d0
 have hl0 := hm_lt L p
 obtain ⟨x0, hx0⟩ : ∃ x, x = hm L p := ⟨_, rfl⟩
 rw [← hx0] at d0 hl0
 have HX0 := Lib.hid hx0
 have HCS := Lib.hid hcs
 clear hx0 hcs hh
 go_enter Tryz.func193, Tryz.ntmps193
 go_wp2
 clear d0
 go_loop [7] (fun v => ∃ q : Nat, q ≤ p ∧ v = .int .i64 (hm L q) ∧ Hid (inl L (sk L p) = inl L (sk L q))) (fun v => (intOf v + 1).toNat)
 case atStart => exact ⟨p, Nat.le_refl _, by rw [HX0.out], rfl⟩
 case round =>
  obtain ⟨q, hq, rfl, HI⟩ := hrel
  cases hs : sk L q with
  | nil =>
   have HQ : Hid (inl L (sk L p) = false) := by show _ = _; rw [HI.out, hs]; rfl
   rw [hm_nil hs]
   clear HI hs
   go_wp2
   go_ret
   exact ⟨by rw [HR.out, HQ.out]; rfl, rfl⟩
  | cons t s =>
   rw [hm_cons hs]
   have htq := sk_lt (l := L) (k := q) (t := t) (by rw [hs]; simp)
   have htn : t < n := by omega
   have hneg : ((t : Int) == -1) = false := by rw [beq_eq_false_iff_ne]; omega
   have hneg2 : ((t : Int) != -1) = true := by simp [bne, hneg]
   obtain ⟨b1, o1, q1, q2, q3, rfl, hB1, hy, hd1, hd2, hd3⟩ := hr.at_ htn
   have HY := at_some hy
   have HI2 : inl L (sk L p) = (q1 == 21 || inl L (sk L t)) := by rw [HI.out, hs, inl_cons, HY, ← sk_head hs]
   have HI3 := Lib.hid HI2
   have d1 := HCS.out t htn
   rw [hL_at (by rw [← HL.out]; exact htn)] at d1
   obtain ⟨x, hx⟩ : ∃ x, x = hm L t := ⟨_, rfl⟩
   have hxl : x < t := by rw [hx]; exact (hm_lt L t).2
   rw [← hx] at d1
   have HX := Lib.hid hx
   clear hx hy HY HI HI2 hs hd2 hd3
   cases hv : (q1 == 21)
   ·have HI4 : Hid (inl L (sk L p) = inl L (sk L t)) := by show _ = _; rw [HI3.out, hv]; rfl
    go_wp2
    go_round
    case rel => exact ⟨t, by omega, by rw [HX.out], HI4⟩
    case measure => simp [intOf]; omega
   ·have HQ : Hid (inl L (sk L p) = true) := by show _ = _; rw [HI3.out, hv]; rfl
    go_wp2
    go_ret
    exact ⟨by rw [HR.out, HQ.out]; rfl, rfl⟩
theorem i64_or_small (a b : Nat) (ha : a < 256) (hb : b < 256) : bits .or .i64 (a : Int) (b : Int) = ((a ||| b : Nat) : Int) := by
 have hx : a ||| b < 2 ^ 8 := Nat.or_lt_two_pow (n := 8) (by omega) (by omega)
 show IntKind.i64.wrap ((BitVec.ofInt 64 (a : Int) ||| BitVec.ofInt 64 (b : Int)).toNat : Int) = _
 rw [BitVec.toNat_or, ofInt_u64 a (by omega), ofInt_u64 b (by omega), IntKind.wrap_i64]
 omega
theorem i64_and_small (a b : Nat) (ha : a < 65536) (hb : b < 65536) : bits .and .i64 (a : Int) (b : Int) = ((a &&& b : Nat) : Int) := by
 have hx : a &&& b < 2 ^ 16 := Nat.and_lt_two_pow (n := 16) _ (by omega)
 show IntKind.i64.wrap ((BitVec.ofInt 64 (a : Int) &&& BitVec.ofInt 64 (b : Int)).toNat : Int) = _
 rw [BitVec.toNat_and, ofInt_u64 a (by omega), ofInt_u64 b (by omega), IntKind.wrap_i64]
 omega
theorem pow8 {a : Nat} (h : a < 8) : 2 ^ a < 256 := Nat.pow_lt_pow_right (n := 8) (by decide) h
def fdv (L : List (Int × Int × Int)) (k j : Nat) : Value := .int .i64 (if j < k then ((hb L (sk L j) : Nat) : Int) else 0)
theorem fdv_nil {L : List (Int × Int × Int)} {k : Nat} (h : hb L (sk L k) = 0) (j : Nat) : fdv L k j = fdv L (k + 1) j := by
 unfold fdv
 by_cases e : j < k
 ·rw [if_pos e, if_pos (by omega)]
 ·rw [if_neg e]
  by_cases e2 : j = k
  ·rw [e2, if_pos (by omega), h]; rfl
  ·rw [if_neg (by omega)]
theorem fdv_step {L : List (Int × Int × Int)} {k : Nat} {v : Int} (h : v = (hb L (sk L k) : Nat)) (j : Nat) : (if j = k then Value.int .i64 v else fdv L k j) = fdv L (k + 1) j := by
 unfold fdv
 by_cases e2 : j = k
 ·rw [if_pos e2, e2, if_pos (by omega), h]
 ·rw [if_neg e2]
  by_cases e : j < k
  ·rw [if_pos e, if_pos (by omega)]
  ·rw [if_neg e, if_neg (by omega)]
theorem fdv_two {L : List (Int × Int × Int)} {k : Nat} {v u : Int} (h : v = (hb L (sk L k) : Nat)) (j : Nat) : (if j = k then Value.int .i64 v else if j = k then Value.int .i64 u else fdv L k j) = fdv L (k + 1) j := by
 rw [← fdv_step h j]
 by_cases e2 : j = k
 ·rw [if_pos e2, if_pos e2]
 ·rw [if_neg e2, if_neg e2, if_neg e2]
theorem heldAt_any (a a2 : Option Addr) (n c c2 : Nat) (L : List (Int × Int × Int)) (w : World) (hr : RowI w a n L) (hh : Row w a2 n (hL L)) (hc : can L = true) :
  Calls Tryz.prog 192 #[.slice a n c, .slice a2 n c2] w fun e w' => ∃ b, e = .returned (.slice (some ⟨b, 0, none⟩) n n) ∧ Row w' (some ⟨b, 0, none⟩) n (hdL L) ∧ Below w.heap.size w w' := by
 have HL := Lib.hid hr.1
 have hln := can_len hc
 rw [← hr.1] at hln
 obtain ⟨hn1, hn2⟩ := hln
 have HB8 := Lib.hid (can_blk hc)
 have hmk := run_make_row' (P := Tryz.prog) 22 3 (.int .i64 0) 8 Tryz.underlying22 int_info rfl .i64 .i64 n (by omega) (by omega)
 clear hc
 go_enter Tryz.func192, Tryz.ntmps192
 go_wp2
 have rA : (w.alloc (.cells (madeCells #[.int .i64 0] n) 3)).rowIs w.heap.size 3 n (fun _ => .int .i64 0) := World.rowIs_made w _ n 3
 have hbw := below_alloc w (.cells (madeCells #[.int .i64 0] n) 3)
 have hA : w.heap.size ≤ w.heap.size := Nat.le_refl _
 generalize (w.alloc (.cells (madeCells #[.int .i64 0] n) 3)) = W at rA hbw ⊢
 generalize hAA : w.heap.size = A at rA ⊢
 replace hA : w.heap.size ≤ A := by omega
 clear hmk hAA
 go_loopw [13] (fun i wr => ∃ k : Nat, k ≤ n ∧ i = .int .i64 k ∧ wr.rowIs A 3 n (fdv L k) ∧ Below w.heap.size w wr) (fun i _ => n - (intOf i).toNat)
 case atStart => exact ⟨0, by omega, rfl, rA.congr (fun i hi => by simp [fdv]), hbw⟩
 case round =>
  clear rA hbw
  obtain ⟨k, hk, rfl, rM, hbl⟩ := hrel
  by_cases hlt : k < n
  ·obtain ⟨b2, o2, rfl, hB2, hcs⟩ := (hh.below hbl).2 (by omega)
   have d1 := hcs k hlt
   rw [hL_at (by rw [← HL.out]; exact hlt)] at d1
   clear hcs
   cases hs : sk L k with
   | nil =>
    rw [hm_nil hs] at d1
    have rM2 := rM.congr (g := fdv L (k + 1)) (fun j _ => fdv_nil (by rw [hs]; rfl) j)
    clear rM hs
    go_wp2
    go_roundw
    case rel => exact ⟨k + 1, by omega, by go_num, rM2, hbl⟩
    case measure => simp [intOf]; omega
   | cons t s =>
    rw [hm_cons hs] at d1
    have htk := sk_lt (l := L) (k := k) (t := t) (by rw [hs]; simp)
    have htn : t < n := by omega
    have hneg : ((t : Int) == -1) = false := by rw [beq_eq_false_iff_ne]; omega
    obtain ⟨b1, o1, q1, q2, q3, rfl, hB1, hy, hd1, hd2, hd3⟩ := (hr.below hbl).at_ htn
    have hbA : b1 ≠ A := by
     obtain ⟨x, y, e, h, _⟩ := hr.2 (by omega)
     cases e; omega
    have hAb : A ≠ b1 := Ne.symm hbA
    have HY := at_some hy
    have hhb : hb L (sk L k) = if q1 = 23 then hb L (sk L t) ||| 2 ^ q2.toNat else hb L (sk L t) := by
     rw [hs, hb, HY, sk_head hs]
    have hv8 := hb_lt HB8.out (sk L t)
    have hq8 : q1 = 23 → 0 ≤ q2 ∧ q2 < 8 := by
     intro e
     have := HB8.out t (by rw [HY]; exact e)
     rw [HY] at this; exact this
    have m0 := rM.cell htn
    have e0 : fdv L k t = .int .i64 ((hb L (sk L t) : Nat) : Int) := by unfold fdv; rw [if_pos htk]
    rw [e0] at m0
    obtain ⟨v, hv⟩ : ∃ v, v = hb L (sk L t) := ⟨_, rfl⟩
    rw [← hv] at hhb hv8 m0
    have m1 := rM.cell hlt
    have m2 := rM.frozen k
    have hMl := rM.lt
    clear hy HY e0 hv hs
    by_cases h23 : q1 = 23
    ·obtain ⟨q, rfl⟩ : ∃ q : Nat, q2 = q := ⟨q2.toNat, by have := hq8 h23; omega⟩
     have hq : q < 8 := by have := hq8 h23; omega
     rw [if_pos h23, Int.toNat_natCast] at hhb
     have ho := i64_or_small v (2 ^ q) hv8 (pow8 hq)
     rw [← hhb] at ho
     have cb := fun W => bit_any q hq W
     obtain ⟨z, hz⟩ : ∃ z : Int, z = ((2 ^ q : Nat) : Int) := ⟨_, rfl⟩
     rw [← hz] at ho cb
     obtain ⟨u, hu⟩ : ∃ u : Int, u = ((hb L (sk L k) : Nat) : Int) := ⟨_, rfl⟩
     rw [← hu] at ho
     have HU := Lib.hid hu
     have CB := Lib.hid cb
     have rM2 := ((rM.set k (.int .i64 (v : Int))).set k (.int .i64 u)).congr (g := fdv L (k + 1)) (fun j _ => fdv_two HU.out j)
     have m3 := (rM.set k (.int .i64 (v : Int))).cell hlt
     rw [if_pos rfl] at m3
     have m4 := (rM.set k (.int .i64 (v : Int))).frozen k
     have e5 : (q1 == 23) = true := by simpa using h23
     clear hhb hq8 cb hz hu rM h23
     go_wp2
     go_region_with (go_at_call 194; refine (CB.out _).mono ?_; rintro e w9 ⟨rfl, rfl⟩)
     all_goals
      go_wp2
      go_roundw
      case rel => exact ⟨k + 1, by omega, by go_num, rM2.drew, ((hbl.setCell (p := ⟨A, k, none⟩) hA _).setCell (p := ⟨A, k, none⟩) hA _).drew⟩
      case measure => simp [intOf]; omega
    ·rw [if_neg h23] at hhb
     have rM2 := (rM.set k (.int .i64 (v : Int))).congr (g := fdv L (k + 1)) (fun j _ => fdv_step (by rw [hhb]) j)
     have e5 : (q1 == 23) = false := by simpa using h23
     clear hhb hq8 rM h23
     go_wp2
     go_roundw
     case rel => exact ⟨k + 1, by omega, by go_num, rM2, hbl.setCell (p := ⟨A, k, none⟩) hA _⟩
     case measure => simp [intOf]; omega
  ·have hkn : k = n := by omega
   subst hkn
   have R1 : Hid (Row wr (some ⟨A, 0, none⟩) k (hdL L)) := row_of_is rM (by rw [hdL_len]; exact HL.out) (fun i hi => by unfold fdv; rw [if_pos hi, hdL_at (by rw [← HL.out]; exact hi)])
   clear rM
   go_wp2
   go_ret
   exact ⟨_, rfl, R1, hbl⟩
def lA (L : List (Int × Int × Int)) : List Int := if lE L = 0 then lks L L.length else []
theorem lE_err {L : List (Int × Int × Int)} (h : wE L ≠ 0) : lE L = wE L := by unfold lE; rw [if_neg h]
theorem info_parts {i : Option TypeInfo} {z : Value} {s b : Nat} (h : i.map (fun i => (i.zero, i.size, i.bytes)) = some (some z, s, b)) : ∃ j, i = some j ∧ j.zero = some z ∧ j.size = s ∧ j.bytes = b := by
 obtain ⟨j, hj, e⟩ := Option.map_eq_some_iff.1 h
 simp only [Prod.mk.injEq] at e
 exact ⟨j, hj, e.1, e.2.1, e.2.2⟩
theorem bds_bad {L : List (Int × Int × Int)} {k : Nat} (hk : k < L.length) (h : bd L k = true) : bds L L.length = true := bds_iff.2 ⟨k, hk, h⟩
theorem bds_next {L : List (Int × Int × Int)} {k : Nat} (h1 : bds L k = false) (h2 : bd L k = false) : bds L (k + 1) = false := by rw [bds_succ, h1, h2]; rfl
theorem shr_nat (v q : Nat) : (v : Int) / 2 ^ q = ((v / 2 ^ q : Nat) : Int) := by
 rw [Int.natCast_ediv, Int.natCast_pow]; rfl
theorem bd_lock {L : List (Int × Int × Int)} {k : Nat} (h : (at_ L k).1 = 23) : bd L k = (unl L k || (ovr L (sk L k) (at_ L k).2.1 || inl L (sk L k))) := by unfold bd; rw [if_pos h]
theorem bd_get {L : List (Int × Int × Int)} {k : Nat} (h : (at_ L k).1 = 17 ∨ (at_ L k).1 = 18) : bd L k = !lkd L (sk L k) (at_ L k).2.1 := by unfold bd; rw [if_neg (by omega), if_pos h]
theorem bd_else {L : List (Int × Int × Int)} {k : Nat} (h1 : (at_ L k).1 ≠ 23) (h : ¬ ((at_ L k).1 = 17 ∨ (at_ L k).1 = 18)) : bd L k = false := by unfold bd; rw [if_neg h1, if_neg h]
theorem own1_below {w w' : World} {base : Nat} {v : Value} {m : Nat} {xs : List Value} (h : w.ownsRow base 3 1 v m xs) (hb : Below w.heap.size w w') : w'.ownsRow base 3 1 v m xs :=
 h.kept (row := none) ⟨hb.os, hb.tape, hb.output, hb.size, fun i hi _ => hb.block i hi⟩ (by
  cases h : v.ownBlock with
  | none => exact Or.inl rfl
  | some _ => exact Or.inr (by simp))
theorem locks_err (a : Option Addr) (n c : Nat) (L : List (Int × Int × Int)) (w : World) (hr : RowI w a n L) (hN : Nms w) (h0 : wE L ≠ 0) :
  Calls Tryz.prog 151 #[.slice a n c] w (GotL (lA L) (lE L) w) := by
 have cw := whole_any a n c L w hr hN
 have HQ : Hid (lA L = []) := by show _ = _; unfold lA; rw [lE_err h0, if_neg h0]
 rw [lE_err h0]
 obtain ⟨x, hx⟩ : ∃ x, x = wE L := ⟨_, rfl⟩
 rw [← hx] at cw ⊢
 have e1 : (x != 0) = true := by rw [hx]; simpa using h0
 have e2 : (x == 0) = false := by rw [hx]; simpa using h0
 have C := Lib.hid cw
 clear cw hN h0 hx hr
 go_enter Tryz.func151, Tryz.ntmps151
 go_wp2_with (go_at_call 190; refine C.out.mono ?_; rintro e w1 ⟨rfl, hb⟩)
 go_ret2
 refine ⟨_, _, _, rfl, ?_, hb⟩
 rw [HQ.out]; exact Row.nil _ _
theorem locks_ok (a : Option Addr) (n c : Nat) (L : List (Int × Int × Int)) (w : World) (hr : RowI w a n L) (hN : Nms w) (h0 : wE L = 0) :
  Calls Tryz.prog 151 #[.slice a n c] w (GotL (lA L) (lE L) w) := by
 obtain ⟨i0, hi, hz0, hz1, hz2⟩ := info_parts int_info
 have cw := whole_any a n c L w hr hN
 rw [h0] at cw
 have HC := Lib.hid (mE_zero (wE_zero h0).1).1
 have HM := Lib.hid (wE_zero h0).1
 have HW := Lib.hid h0
 have HL := Lib.hid hr.1
 have hln := can_len HC.out
 rw [← hr.1] at hln
 obtain ⟨hn1, hn2⟩ := hln
 have HN := Lib.hid hN
 have C := Lib.hid cw
 have HB8 := Lib.hid (can_blk HC.out)
 clear cw hN h0
 go_enter Tryz.func151, Tryz.ntmps151
 go_wp2_with (go_at_call 190; refine C.out.mono ?_; rintro e w1 ⟨rfl, hb⟩)
 have cr := regions_any a n c L w1 (hr.below hb) (HN.out.below hb)
 unfold GotRg at cr
 rw [HM.out] at cr
 refine cr.mono ?_
 rintro e w2 ⟨a1, n1, c1, a2, n2, c2, rfl, h1, h2, hb2⟩
 have h3 : Row w2 a2 n2 (hL L) := h2
 clear cr C h1 h2
 obtain rfl : n2 = n := by have := h3.1; rw [hL_len, ← HL.out] at this; exact this
 go_wp2_with fail
 have G2 := keep_below hb hb2
 refine (heldAt_any a a2 n2 c c2 L w2 (hr.below G2) h3 HC.out).mono ?_
 rintro e w3 ⟨hk, rfl, h4, hb3⟩
 have G3 := keep_below G2 hb3
 have hr3 := hr.below G3
 have h5 := h3.below hb3
 have HG3 := Lib.hid G3
 clear hb hb2 h3 G2 hb3 hr G3
 go_wp2
 go_loopw [9, 10, 29] (fun v fr i wr => ∃ k : Nat, k ≤ n2 ∧ i = .int .i64 k ∧ fr = .bool (unl L k) ∧ wr.ownsRow w3.heap.size 3 1 v (lks L k).length ((lks L k).map (Value.int .i64)) ∧ Hid (bds L k = false) ∧ Below w3.heap.size w3 wr) (fun _ _ i _ => n2 - (intOf i).toNat)
 case atStart => exact ⟨0, by omega, rfl, rfl, World.ownsRow_nil _ _ _ _, rfl, Below.refl _ _⟩
 case round =>
  obtain ⟨k, hk1, rfl, rfl, hown, HD, hbl⟩ := hrel
  have hbs := hbl.size
  by_cases hlt : k < n2
  ·obtain ⟨b1, o1, p1, p2, p3, rfl, hB1, hx, hc1, hc2, hc3⟩ := (hr3.below hbl).at_ hlt
   have HX := Lib.hid (at_some hx)
   have hkL : k < L.length := by rw [← HL.out]; exact hlt
   clear hx
   have G1 := hbl.alloc hbs (.cells #[.int .i64 p1, .int .i64 p2, .int .i64 p3] 103)
   have hO := hown.alloc (.cells #[.int .i64 p1, .int .i64 p2, .int .i64 p3] 103)
   obtain ⟨b2, o2, hb2e, hB2, hcs⟩ := (h4.below G1).2 (by omega)
   simp only [Option.some.injEq, Addr.mk.injEq] at hb2e
   obtain ⟨rfl, rfl, _⟩ := hb2e
   have dk := hcs k hlt
   rw [hdL_at hkL, Nat.zero_add] at dk
   have hv8 := hb_lt HB8.out (sk L k)
   obtain ⟨v, hv⟩ : ∃ v, v = hb L (sk L k) := ⟨_, rfl⟩
   rw [← hv] at dk hv8
   have HV := Lib.hid hv
   clear hcs hv
   have hls := lks_succ hkL
   have hus := unl_succ L k
   have hll := lks_len L k
   rw [HX.out] at hls hus
   by_cases h23 : p1 = 23
   ·subst h23
    rw [if_pos rfl] at hls
    have HU2 : Hid (unl L (k + 1) = unl L k) := by show _ = _; rw [hus]; simp
    have hq8 := right_lock (can_right HC.out hkL) (by rw [HX.out]; exact Or.inl rfl)
    rw [HX.out] at hq8
    obtain ⟨q, rfl⟩ : ∃ q : Nat, p2 = q := ⟨p2.toNat, by simp at hq8; omega⟩
    have hq : q < 8 := by simp at hq8; omega
    have hbd := bd_lock (L := L) (k := k) (by rw [HX.out])
    rw [HX.out] at hbd
    have hov := hb_shr HB8.out (sk L k) (a := (q : Int)) (by omega)
    rw [Int.toNat_natCast, ← HV.out] at hov
    have hsh := shr_nat v q
    obtain ⟨u, hu⟩ : ∃ u, u = v / 2 ^ q := ⟨_, rfl⟩
    rw [← hu] at hov hsh
    obtain ⟨z, hz⟩ : ∃ z, z = unl L k := ⟨_, rfl⟩
    have HZ := Lib.hid hz
    have HLS := Lib.hid hls
    rw [← hz] at hbd ⊢
    clear hq8 hu hz HX hls hus
    cases z
    ·cases ho : ovr L (sk L k) (q : Int)
     ·rw [ho] at hov hbd
      have f1 : ((u : Int) != 0) = false := by simpa using hov
      have f2 : ((u : Int) == 0) = true := by simpa using hov
      have f3 : (u != 0) = false := hov
      have ci := fun m => inLoop_any (some ⟨b1, o1, none⟩) a2 n2 c c2 L k hlt hn2 ((wr.alloc (.cells #[.int .i64 23, .int .i64 (q : Int), .int .i64 p3] 103)).drewN m) (hr3.below (G1.trans ⟨rfl, rfl, rfl, Nat.le_refl _, fun _ _ => rfl⟩)) (h5.below (G1.trans ⟨rfl, rfl, rfl, Nat.le_refl _, fun _ _ => rfl⟩)) |>.mono (fun _ _ h => And.intro h.1 h.2.symm)
      obtain ⟨y, hy⟩ : ∃ y, y = inl L (sk L k) := ⟨_, rfl⟩
      rw [← hy] at ci hbd
      have CI := Lib.hid ci
      cases y
      ·have HD2 := Lib.hid (bds_next HD.out (by rw [hbd]; rfl))
       clear ci hy hbd ho hov hr3 h5 HD
       go_wp2
       go_quiet (exact Calls.quiet_of_same (CI.out _))
       have gD : Below (wr.alloc (.cells #[.int .i64 23, .int .i64 (q : Int), .int .i64 p3] 103)).heap.size (wr.alloc (.cells #[.int .i64 23, .int .i64 (q : Int), .int .i64 p3] 103)) ((wr.alloc (.cells #[.int .i64 23, .int .i64 (q : Int), .int .i64 p3] 103)).drewN nq) := ⟨rfl, rfl, rfl, Nat.le_refl _, fun _ _ => rfl⟩
       have gW := keep_below G1 gD
       have gO := own1_below hO gD
       have gc : ((wr.alloc (.cells #[.int .i64 23, .int .i64 (q : Int), .int .i64 p3] 103)).drewN nq).cell? ⟨wr.heap.size, 1, none⟩ = some (.int .i64 (q : Int)) := keep_cell gD ((Lib.cell_of_heap (new_block wr _) 1).trans rfl)
       generalize ((wr.alloc (.cells #[.int .i64 23, .int .i64 (q : Int), .int .i64 p3] 103)).drewN nq) = W4 at gW gO gc ⊢
       have gs := gW.size
       clear gD hO hown G1 hbl CI hc1 hc2 hc3 dk hB1 hB2 hsh hbs
       go_wp2_with (at_builtin; refine wpList_append_own _ rfl _ _ 22 rfl w3.heap.size 3 i0 (.int .i64 0) 1 8 Tryz.underlying22 hi hz0 hz1 hz2 rfl (by decide) _ _ _ rfl (gO.alloc _) ⟨W4.heap.size, 0, none⟩ 1 1 [.int .i64 (q : Int)] rfl rfl ?c1 ?c2 ?c3 ?c4 ?c5 ?_)
       case c1 =>
        intro j t hj
        match j, hj with
        | 0, hj => simp at hj; subst hj; simp [Addr.add]
       case c2 => intro t ht; simp at ht; subst ht; rfl
       case c3 => unfold maxLen; omega
       case c4 => omega
       case c5 => simp; omega
       ·intro v' w5 hown' hgrow _
        have hb5 : Below w3.heap.size w3 w5 := (gW.alloc (by omega) _).grown hgrow (by simp; omega) (fun g hg => (gO.lt g hg).1)
        have hown2 : w5.ownsRow w3.heap.size 3 1 v' (lks L (k + 1)).length ((lks L (k + 1)).map (Value.int .i64)) := by
         rw [HLS.out, List.map_append, List.length_append]; exact hown'
        clear hown' hgrow gW gO gc
        go_wp2
        go_roundw
        case rel => exact ⟨k + 1, by omega, by go_num, by rw [HU2.out, ← HZ.out], hown2, HD2, hb5⟩
        case measure => simp [intOf]; omega
      ·have HE := Lib.hid (lE_bad HW.out (bds_bad hkL (by rw [hbd]; rfl)))
       clear ci hy hbd ho hov hr3 h5 HD hown hO
       go_wp2
       go_quiet (exact Calls.quiet_of_same (CI.out _))
       go_wp2
       go_ret2
       refine ⟨none, 0, 0, by rw [HE.out]; rfl, ?_, keep_below HG3.out (G1.trans ⟨rfl, rfl, rfl, Nat.le_refl _, fun _ _ => rfl⟩)⟩
       unfold lA; rw [if_neg (by rw [HE.out]; decide)]; exact Row.nil _ _
     ·rw [ho] at hov hbd
      have f1 : ((u : Int) != 0) = true := by simpa using hov
      have f2 : ((u : Int) == 0) = false := by simpa using hov
      have f3 : (u != 0) = true := hov
      have HE := Lib.hid (lE_bad HW.out (bds_bad hkL (by rw [hbd]; rfl)))
      clear hbd ho hov hr3 h5 HD hown hO
      go_wp2
      go_quiet (fail)
      go_wp2
      go_ret2
      refine ⟨none, 0, 0, by rw [HE.out]; rfl, ?_, keep_below HG3.out (G1.trans ⟨rfl, rfl, rfl, Nat.le_refl _, fun _ _ => rfl⟩)⟩
      unfold lA; rw [if_neg (by rw [HE.out]; decide)]; exact Row.nil _ _
    ·have HE := Lib.hid (lE_bad HW.out (bds_bad hkL (by rw [hbd]; rfl)))
     clear hbd hov hr3 h5 HD hown hO
     go_wp2
     go_quiet (fail)
     go_wp2
     go_ret2
     refine ⟨none, 0, 0, by rw [HE.out]; rfl, ?_, keep_below HG3.out (G1.trans ⟨rfl, rfl, rfl, Nat.le_refl _, fun _ _ => rfl⟩)⟩
     unfold lA; rw [if_neg (by rw [HE.out]; decide)]; exact Row.nil _ _
   ·rw [if_neg h23] at hls
    have e23 : (p1 == 23) = false := by simpa using h23
    have HLS := Lib.hid hls
    by_cases h24 : p1 = 24
    ·have HU2 : Hid (unl L (k + 1) = true) := by show _ = _; rw [hus, h24]; simp
     have HD2 := Lib.hid (bds_next HD.out (bd_else (by rw [HX.out]; exact h23) (by rw [HX.out]; simp; omega)))
     have e24 : (p1 == 24) = true := by simpa using h24
     rw [← HLS.out] at hO
     clear hls hus HX HD hown h23 h24
     go_wp2
     go_roundw
     case rel => exact ⟨k + 1, by omega, by go_num, by rw [HU2.out], hO, HD2, G1⟩
     case measure => simp [intOf]; omega
    ·have HU2 : Hid (unl L (k + 1) = unl L k) := by show _ = _; rw [hus]; simp [h24]
     have e24 : (p1 == 24) = false := by simpa using h24
     by_cases hg : p1 = 17 ∨ p1 = 18
     ·have hq8 := right_lock (can_right HC.out hkL) (by rw [HX.out]; simp; omega)
      rw [HX.out] at hq8
      obtain ⟨q, rfl⟩ : ∃ q : Nat, p2 = q := ⟨p2.toNat, by simp at hq8; omega⟩
      have hq : q < 8 := by simp at hq8; omega
      have hbd := bd_get (L := L) (k := k) (by rw [HX.out]; exact hg)
      rw [HX.out] at hbd
      have han := hb_and HB8.out (sk L k) (a := (q : Int)) (by omega)
      rw [Int.toNat_natCast, ← HV.out] at han
      have ho := i64_and_small v (2 ^ q) (by omega) (by have := pow8 hq; omega)
      have cb := fun W => (bit_any q hq W).mono (fun _ _ h => And.intro h.1 h.2.symm)
      obtain ⟨z, hz⟩ : ∃ z : Int, z = ((2 ^ q : Nat) : Int) := ⟨_, rfl⟩
      rw [← hz] at ho cb
      obtain ⟨u, hu⟩ : ∃ u : Nat, u = v &&& 2 ^ q := ⟨_, rfl⟩
      rw [← hu] at ho han
      have CB := Lib.hid cb
      rw [← HLS.out] at hO
      cases hl : lkd L (sk L k) (q : Int)
      ·rw [hl] at hbd han
       have f1 : ((u : Int) == 0) = true := by simpa using han
       have HE := Lib.hid (lE_bad HW.out (bds_bad hkL (by rw [hbd]; rfl)))
       clear hls hus HX HD hown h23 h24 hq8 hbd han cb hz hu hl hO hr3 h5
       rcases hg with rfl | rfl
       all_goals
        go_wp2
        go_quiet (exact Calls.quiet_of_same (CB.out _))
        go_wp2
        go_ret2
        refine ⟨none, 0, 0, by rw [HE.out]; rfl, ?_, keep_below HG3.out (G1.trans ⟨rfl, rfl, rfl, Nat.le_refl _, fun _ _ => rfl⟩)⟩
        unfold lA; rw [if_neg (by rw [HE.out]; decide)]; exact Row.nil _ _
      ·rw [hl] at hbd han
       have f1 : ((u : Int) == 0) = false := by simpa using han
       have HD2 := Lib.hid (bds_next HD.out (by rw [hbd]; rfl))
       clear hls hus HX HD hown h23 h24 hq8 hbd han cb hz hu hl hr3 h5
       rcases hg with rfl | rfl
       all_goals
        go_wp2
        go_quiet (exact Calls.quiet_of_same (CB.out _))
        go_wp2
        go_roundw
        case rel => exact ⟨k + 1, by omega, by go_num, by rw [HU2.out], own1_below hO ⟨rfl, rfl, rfl, Nat.le_refl _, fun _ _ => rfl⟩, HD2, G1.trans ⟨rfl, rfl, rfl, Nat.le_refl _, fun _ _ => rfl⟩⟩
        case measure => simp [intOf]; omega
     ·have HD2 := Lib.hid (bds_next HD.out (bd_else (by rw [HX.out]; exact h23) (by rw [HX.out]; exact hg)))
      have e17 : (p1 == 17) = false := by rw [beq_eq_false_iff_ne]; omega
      have e18 : (p1 == 18) = false := by rw [beq_eq_false_iff_ne]; omega
      rw [← HLS.out] at hO
      clear hls hus HX HD hown h23 h24 hg
      go_wp2
      go_roundw
      case rel => exact ⟨k + 1, by omega, by go_num, by rw [HU2.out], hO, HD2, G1⟩
      case measure => simp [intOf]; omega
  ·have hkn : k = n2 := by omega
   have HE := Lib.hid (lE_of HW.out (by rw [← HL.out, ← hkn]; exact HD.out))
   have HK : Hid (lks L k = lA L) := by show _ = _; unfold lA; rw [if_pos HE.out, ← HL.out, hkn]
   obtain ⟨a5, n5, c5, rfl, hR⟩ := Row.own hown
   rw [HK.out] at hR
   clear hown hkn
   go_wp2
   go_ret2
   exact ⟨_, _, _, by rw [HE.out]; rfl, hR, keep_below HG3.out hbl⟩
theorem locks_any (a : Option Addr) (n c : Nat) (L : List (Int × Int × Int)) (w : World) (hr : RowI w a n L) (hN : Nms w) :
  Calls Tryz.prog 151 #[.slice a n c] w (GotL (lA L) (lE L) w) := by
 by_cases h : wE L = 0
 ·exact locks_ok a n c L w hr hN h
 ·exact locks_err a n c L w hr hN h
end Go.Proofs.YtngehojibcmieaaGreatDoor
end
end
