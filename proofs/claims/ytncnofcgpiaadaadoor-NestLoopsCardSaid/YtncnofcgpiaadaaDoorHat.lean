/- What is proved here: contracts of nest.heldAt and nest.Held. Condition: the table of names holds what its initialiser lays ('Nms'). -/
import Derived.Test.YtncnofcgpiaadaaDoorHld
namespace Go.Proofs.YtncnofcgpiaadaaDoor
open Go.ChangeShapes Go.WideShapes Go.RowKit

theorem i64_or_small (a b : Nat) (ha : a < 256) (hb : b < 256) : bits .or .i64 (a : Int) (b : Int) = ((a ||| b : Nat) : Int) := by
  have hx : a ||| b < 2 ^ 8 := Nat.or_lt_two_pow (n := 8) (by omega) (by omega)
  show IntKind.i64.wrap ((BitVec.ofInt 64 (a : Int) ||| BitVec.ofInt 64 (b : Int)).toNat : Int) = _
  rw [BitVec.toNat_or, ofInt_u64 a (by omega), ofInt_u64 b (by omega), IntKind.wrap_i64]
  omega
theorem i64_and_small (a b : Nat) (ha : a < 65536) (hb : b < 65536) : bits .and .i64 (a : Int) (b : Int) = ((a &&& b : Nat) : Int) := by
  have hx : a &&& b < 2 ^ 16 := Nat.and_lt_two_pow (n := 16) _ (by omega)
  show IntKind.i64.wrap ((BitVec.ofInt 64 (a : Int) &&& BitVec.ofInt 64 (b : Int)).toNat : Int) = _
  rw [BitVec.toNat_and, ofInt_u64 a (by omega), ofInt_u64 b (by omega), IntKind.wrap_i64]
  omega
theorem pow8 {a : Nat} (h : a < 8) : 2 ^ a < 256 := Nat.pow_lt_pow_right (n := 8) (by decide) h
/-- The cells of the held blocks behind k rounds. -/
def fdv (L : List (Int × Int × Int)) (k j : Nat) : Value := .int .i64 (if j < k then ((hb L (sk L j) : Nat) : Int) else 0)
theorem fdv_nil {L : List (Int × Int × Int)} {k : Nat} (h : hb L (sk L k) = 0) (j : Nat) : fdv L k j = fdv L (k + 1) j := by
  unfold fdv
  by_cases e : j < k
  · rw [if_pos e, if_pos (by omega)]
  · rw [if_neg e]
    by_cases e2 : j = k
    · rw [e2, if_pos (by omega), h]; rfl
    · rw [if_neg (by omega)]
theorem fdv_step {L : List (Int × Int × Int)} {k : Nat} {v : Int} (h : v = (hb L (sk L k) : Nat)) (j : Nat) : (if j = k then Value.int .i64 v else fdv L k j) = fdv L (k + 1) j := by
  unfold fdv
  by_cases e2 : j = k
  · rw [if_pos e2, e2, if_pos (by omega), h]
  · rw [if_neg e2]
    by_cases e : j < k
    · rw [if_pos e, if_pos (by omega)]
    · rw [if_neg e, if_neg (by omega)]
theorem fdv_two {L : List (Int × Int × Int)} {k : Nat} {v u : Int} (h : v = (hb L (sk L k) : Nat)) (j : Nat) : (if j = k then Value.int .i64 v else if j = k then Value.int .i64 u else fdv L k j) = fdv L (k + 1) j := by
  rw [← fdv_step h j]
  by_cases e2 : j = k
  · rw [if_pos e2, if_pos e2]
  · rw [if_neg e2, if_neg e2, if_neg e2]

set_option maxHeartbeats 2000000 in
set_option maxRecDepth 100000 in
theorem heldAt_any (a a2 : Option Addr) (n c c2 : Nat) (L : List (Int × Int × Int)) (w : World) (hr : RowI w a n L) (hh : Row w a2 n (hL L)) (hc : can L = true) :
    Calls Tryd.prog 28 #[.slice a n c, .slice a2 n c2] w fun e w' => ∃ b, e = .returned (.slice (some ⟨b, 0, none⟩) n n) ∧ Row w' (some ⟨b, 0, none⟩) n (hdL L) ∧ Below w.heap.size w w' := by
  have HL := Lib.hid hr.1
  have hln := can_len hc
  rw [← hr.1] at hln
  obtain ⟨hn1, hn2⟩ := hln
  have HB8 := Lib.hid (can_blk hc)
  have hmk := run_make_row' (P := Tryd.prog) 24 3 (.int .i64 0) 8 Tryd.underlying24 int_info rfl .i64 .i64 n (by omega) (by omega)
  clear hc
  go_enter Tryd.func28, Tryd.ntmps28
  go_wp2
  have rA : (w.alloc (.cells (madeCells #[.int .i64 0] n) 3)).rowIs w.heap.size 3 n (fun _ => .int .i64 0) := World.rowIs_made w _ n 3
  have hbw := below_alloc w (.cells (madeCells #[.int .i64 0] n) 3)
  have hA : w.heap.size ≤ w.heap.size := Nat.le_refl _
  generalize (w.alloc (.cells (madeCells #[.int .i64 0] n) 3)) = W at rA hbw ⊢
  generalize hAA : w.heap.size = A at rA ⊢
  replace hA : w.heap.size ≤ A := by omega
  clear hmk hAA
  go_loopw [13] (fun i wr => ∃ k : Nat, k ≤ n ∧ i = .int .i64 k ∧ wr.rowIs A 3 n (fdv L k) ∧ Below w.heap.size w wr) (fun i _ => n - (intOf i).toNat)
  case atStart => exact ⟨0, by omega, rfl, rA.congr (fun i hi => by simp [fdv]), hbw⟩
  case round =>
    clear rA hbw
    obtain ⟨k, hk, rfl, rM, hbl⟩ := hrel
    by_cases hlt : k < n
    · obtain ⟨b2, o2, rfl, hB2, hcs⟩ := (hh.below hbl).2 (by omega)
      have d1 := hcs k hlt
      rw [hL_at (by rw [← HL.out]; exact hlt)] at d1
      clear hcs
      cases hs : sk L k with
      | nil =>
        rw [hm_nil hs] at d1
        have rM2 := rM.congr (g := fdv L (k + 1)) (fun j _ => fdv_nil (by rw [hs]; rfl) j)
        clear rM hs
        go_wp2
        go_roundw
        case rel => exact ⟨k + 1, by omega, by go_num, rM2, hbl⟩
        case measure => simp [intOf]; omega
      | cons t s =>
        rw [hm_cons hs] at d1
        have htk := sk_lt (l := L) (k := k) (t := t) (by rw [hs]; simp)
        have htn : t < n := by omega
        have hneg : ((t : Int) == -1) = false := by rw [beq_eq_false_iff_ne]; omega
        obtain ⟨b1, o1, q1, q2, q3, rfl, hB1, hy, hd1, hd2, hd3⟩ := (hr.below hbl).at_ htn
        have hbA : b1 ≠ A := by
          obtain ⟨x, y, e, h, _⟩ := hr.2 (by omega)
          cases e; omega
        have hAb : A ≠ b1 := Ne.symm hbA
        have HY := at_some hy
        have hhb : hb L (sk L k) = if q1 = 23 then hb L (sk L t) ||| 2 ^ q2.toNat else hb L (sk L t) := by
          rw [hs, hb, HY, sk_head hs]
        have hv8 := hb_lt HB8.out (sk L t)
        have hq8 : q1 = 23 → 0 ≤ q2 ∧ q2 < 8 := by
          intro e
          have := HB8.out t (by rw [HY]; exact e)
          rw [HY] at this; exact this
        have m0 := rM.cell htn
        have e0 : fdv L k t = .int .i64 ((hb L (sk L t) : Nat) : Int) := by unfold fdv; rw [if_pos htk]
        rw [e0] at m0
        obtain ⟨v, hv⟩ : ∃ v, v = hb L (sk L t) := ⟨_, rfl⟩
        rw [← hv] at hhb hv8 m0
        have m1 := rM.cell hlt
        have m2 := rM.frozen k
        have hMl := rM.lt
        clear hy HY e0 hv hs
        by_cases h23 : q1 = 23
        · obtain ⟨q, rfl⟩ : ∃ q : Nat, q2 = q := ⟨q2.toNat, by have := hq8 h23; omega⟩
          have hq : q < 8 := by have := hq8 h23; omega
          rw [if_pos h23, Int.toNat_natCast] at hhb
          have ho := i64_or_small v (2 ^ q) hv8 (pow8 hq)
          rw [← hhb] at ho
          have cb := fun W => bit_any q hq W
          obtain ⟨z, hz⟩ : ∃ z : Int, z = ((2 ^ q : Nat) : Int) := ⟨_, rfl⟩
          rw [← hz] at ho cb
          obtain ⟨u, hu⟩ : ∃ u : Int, u = ((hb L (sk L k) : Nat) : Int) := ⟨_, rfl⟩
          rw [← hu] at ho
          have HU := Lib.hid hu
          have CB := Lib.hid cb
          have rM2 := ((rM.set k (.int .i64 (v : Int))).set k (.int .i64 u)).congr (g := fdv L (k + 1)) (fun j _ => fdv_two HU.out j)
          have m3 := (rM.set k (.int .i64 (v : Int))).cell hlt
          rw [if_pos rfl] at m3
          have m4 := (rM.set k (.int .i64 (v : Int))).frozen k
          have e5 : (q1 == 23) = true := by simpa using h23
          clear hhb hq8 cb hz hu rM h23
          go_wp2
          go_region_with (go_at_call 30; refine (CB.out _).mono ?_; rintro e w9 ⟨rfl, rfl⟩)
          all_goals
            go_wp2
            go_roundw
            case rel => exact ⟨k + 1, by omega, by go_num, rM2.drew, ((hbl.setCell (p := ⟨A, k, none⟩) hA _).setCell (p := ⟨A, k, none⟩) hA _).drew⟩
            case measure => simp [intOf]; omega
        · rw [if_neg h23] at hhb
          have rM2 := (rM.set k (.int .i64 (v : Int))).congr (g := fdv L (k + 1)) (fun j _ => fdv_step (by rw [hhb]) j)
          have e5 : (q1 == 23) = false := by simpa using h23
          clear hhb hq8 rM h23
          go_wp2
          go_roundw
          case rel => exact ⟨k + 1, by omega, by go_num, rM2, hbl.setCell (p := ⟨A, k, none⟩) hA _⟩
          case measure => simp [intOf]; omega
    · have hkn : k = n := by omega
      subst hkn
      have R1 : Hid (Row wr (some ⟨A, 0, none⟩) k (hdL L)) := row_of_is rM (by rw [hdL_len]; exact HL.out) (fun i hi => by unfold fdv; rw [if_pos hi, hdL_at (by rw [← HL.out]; exact hi)])
      clear rM
      go_wp2
      go_ret
      exact ⟨_, rfl, R1, hbl⟩
/-- Held blocks, or nothing. -/
def hdA (L : List (Int × Int × Int)) : List Int := if mE L = 0 then hdL L else []
set_option maxHeartbeats 1000000 in
set_option maxRecDepth 100000 in
theorem held_any (a : Option Addr) (n c : Nat) (L : List (Int × Int × Int)) (w : World) (hr : RowI w a n L) (hN : Nms w) :
    Calls Tryd.prog 17 #[.slice a n c] w (GotL (hdA L) (mE L) w) := by
  have cr := regions_any a n c L w hr hN
  unfold GotRg at cr
  by_cases h0 : mE L = 0
  · have HC := Lib.hid (mE_zero h0).1
    rw [h0] at cr
    have C := Lib.hid cr
    have HL := Lib.hid hr.1
    have H0 := Lib.hid h0
    clear cr hN h0
    go_enter Tryd.func17, Tryd.ntmps17
    go_wp2_with (go_at_call 22; refine C.out.mono ?_; rintro e w1 ⟨a1, n1, c1, a2, n2, c2, rfl, h1, h2, hb⟩)
    have h3 : Row w1 a2 n2 (hL L) := h2
    obtain rfl : n2 = n := by have := h3.1; rw [hL_len, ← HL.out] at this; exact this
    refine (heldAt_any a a2 n2 c c2 L w1 (hr.below hb) h3 HC.out).mono ?_
    rintro e w2 ⟨b, rfl, h4, hb2⟩
    go_wp2
    go_ret2
    refine ⟨_, _, _, by rw [H0.out]; rfl, ?_, keep_below hb hb2⟩
    unfold hdA; rw [if_pos H0.out]; exact h4
  · have HQ : Hid (hdA L = []) := by show _ = _; unfold hdA; rw [if_neg h0]
    obtain ⟨x, hx⟩ : ∃ x, x = mE L := ⟨_, rfl⟩
    rw [← hx] at cr
    have e1 : (x != 0) = true := by rw [hx]; simpa using h0
    have e2 : (x == 0) = false := by rw [hx]; simpa using h0
    have HX := Lib.hid hx
    have C := Lib.hid cr
    clear cr hN h0 hx hr
    go_enter Tryd.func17, Tryd.ntmps17
    go_wp2_with (go_at_call 22; refine C.out.mono ?_; rintro e w1 ⟨a1, n1, c1, a2, n2, c2, rfl, h1, h2, hb⟩)
    go_ret2
    refine ⟨_, _, _, by rw [← HX.out]; rfl, ?_, hb⟩
    rw [HQ.out]; exact Row.nil _ _
end Go.Proofs.YtncnofcgpiaadaaDoor
