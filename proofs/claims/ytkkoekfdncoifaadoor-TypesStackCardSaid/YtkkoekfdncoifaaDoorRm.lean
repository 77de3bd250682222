/- What is proved here: contracts of the document's right, opens, closer, closes and Match for layer 6. Conditions: none beyond those each theorem states. -/
import Derived.Test.YtkkoekfdncoifaaDoorHld
import Derived.Test.YtkkoekfdncoifaaDoorR6
namespace Go.Proofs.YtkkoekfdncoifaaDoor
open Go.ChangeShapes Go.WideShapes Go.RowKit

theorem opens_any (o x y : Int) (w : World) : Calls Tryd.prog 39 #[.agg #[.int .i64 o, .int .i64 x, .int .i64 y]] w fun e w' => e = .returned (.bool (opn (o, x, y))) ∧ Below w.heap.size w w' := by
  have e : opn (o, x, y) = (o == 21 || o == 23) := rfl
  rw [e]
  clear e
  cases h : (o == 21)
  all_goals
    go_enter Tryd.func39, Tryd.ntmps39
    go_wp2
    go_ret
    exact ⟨rfl, below_alloc _ _⟩
theorem closer_any (o x y : Int) (w : World) : Calls Tryd.prog 40 #[.agg #[.int .i64 o, .int .i64 x, .int .i64 y]] w fun e w' => e = .returned (.bool (cls (o, x, y))) ∧ Below w.heap.size w w' := by
  have e : cls (o, x, y) = (o == 22 || o == 24) := rfl
  rw [e]
  clear e
  cases h : (o == 22)
  all_goals
    go_enter Tryd.func40, Tryd.ntmps40
    go_wp2
    go_ret
    exact ⟨rfl, below_alloc _ _⟩
set_option maxHeartbeats 1000000 in
set_option maxRecDepth 100000 in
theorem closesR_any (o x y o2 x2 y2 : Int) (w : World) : Calls Tryd.prog 41 #[.agg #[.int .i64 o, .int .i64 x, .int .i64 y], .agg #[.int .i64 o2, .int .i64 x2, .int .i64 y2]] w fun e w' => e = .returned (.bool (clo (o, x, y) (o2, x2, y2))) ∧ Below w.heap.size w w' := by
  have G := ((Below.refl w.heap.size w).alloc (Nat.le_refl _) (.cells #[.int .i64 o, .int .i64 x, .int .i64 y] 37)).alloc (by simp) (.cells #[.int .i64 o2, .int .i64 x2, .int .i64 y2] 37)
  have e : clo (o, x, y) (o2, x2, y2) = ((o == 21 && o2 == 22) || (o == 23 && (o2 == 24 && x == x2))) := rfl
  rw [e]
  clear e
  cases h1 : (o == 21)
  all_goals
    cases h2 : (o2 == 22)
    all_goals
      cases h3 : (o == 23)
      all_goals
        cases h4 : (o2 == 24)
        all_goals
          go_enter Tryd.func41, Tryd.ntmps41
          go_wp2
          go_ret
          exact ⟨rfl, G⟩
set_option maxHeartbeats 1000000 in
set_option maxRecDepth 100000 in
theorem canR_any (a : Option Addr) (n c : Nat) (L : List (Int × Int × Int)) (w : World) (hr : RowI w a n L) (hn : n ≤ 1000000) :
    Calls Tryd.prog 38 #[.slice a n c] w fun e w' => e = .returned (.bool (can L)) ∧ Below w.heap.size w w' := by
  obtain ⟨R, hR⟩ : ∃ R, R = can L := ⟨_, rfl⟩
  rw [← hR]
  have HR := Lib.hid hR
  have HL := Lib.hid hr.1
  clear hR
  go_enter Tryd.func38, Tryd.ntmps38
  go_wp2
  go_loopw [3] (fun i wr => ∃ k : Nat, k ≤ n ∧ i = .int .i64 k ∧ Hid (∀ p, p < k → right (at_ L p) = true) ∧ Below w.heap.size w wr) (fun i _ => n - (intOf i).toNat)
  case atStart => exact ⟨0, by omega, rfl, fun p hp => absurd hp (by omega), Below.refl _ _⟩
  case round =>
    obtain ⟨k, hk, rfl, HA, hbl⟩ := hrel
    by_cases hlt : k < n
    · obtain ⟨b1, o1, p1, p2, p3, rfl, hB1, hx, hc1, hc2, hc3⟩ := (hr.below hbl).at_ hlt
      have ce := rightR_any p1 p2 p3 wr
      have HX := Lib.hid (at_some hx)
      clear hx
      cases hri : right (p1, p2, p3)
      · have HQ : Hid (can L = false) := can_wrong (k := k) (by rw [← HL.out]; exact hlt) (by rw [HX.out]; exact hri)
        rw [hri] at ce
        have CE := Lib.hid ce
        clear ce hri
        go_wp2_with (go_at_call 42; refine CE.out.mono ?_; rintro e w2 ⟨rfl, hb2⟩)
        go_ret
        exact ⟨by rw [HR.out, HQ.out]; rfl, keep_below hbl hb2⟩
      · have HA2 : Hid (∀ p, p < k + 1 → right (at_ L p) = true) := by
          intro p hp
          by_cases e : p = k
          · rw [e, HX.out]; exact hri
          · exact HA.out p (by omega)
        rw [hri] at ce
        have CE := Lib.hid ce
        clear ce hri
        go_wp2_with (go_at_call 42; refine CE.out.mono ?_; rintro e w2 ⟨rfl, hb2⟩)
        go_roundw
        case rel => exact ⟨k + 1, by omega, by go_num, HA2, keep_below hbl hb2⟩
        case measure => simp [intOf]; omega
    · have HQ : Hid (can L = decide (1 ≤ n ∧ n ≤ 200)) := by
        show _ = _
        rw [Bool.eq_iff_iff, can_iff, decide_eq_true_iff, ← HL.out]
        constructor
        · intro h; exact h.1
        · intro h; exact ⟨h, fun p hp => HA.out p (by omega)⟩
      by_cases h1 : 1 ≤ n
      · by_cases h2 : n ≤ 200
        · have HQ2 : Hid (decide (1 ≤ n ∧ n ≤ 200) = true) := by show _ = _; simp; omega
          have e1 : decide ((n : Int) ≤ 200) = true := by rw [decide_eq_true_iff]; omega
          go_wp2
          go_ret
          exact ⟨by rw [HR.out, HQ.out, HQ2.out]; rfl, hbl⟩
        · have HQ2 : Hid (decide (1 ≤ n ∧ n ≤ 200) = false) := by show _ = _; simp; omega
          have e1 : decide ((n : Int) ≤ 200) = false := by rw [decide_eq_false_iff_not]; omega
          go_wp2
          go_ret
          exact ⟨by rw [HR.out, HQ.out, HQ2.out]; rfl, hbl⟩
      · have HQ2 : Hid (decide (1 ≤ n ∧ n ≤ 200) = false) := by show _ = _; simp; omega
        obtain rfl : n = 0 := by omega
        go_wp2
        go_ret
        exact ⟨by rw [HR.out, HQ.out, HQ2.out]; rfl, hbl⟩
theorem own_pop {w : World} {base g cap m : Nat} {xs : List Value} {x : Value} (h : w.ownsRow base 3 1 (.slice (some ⟨g, 0, none⟩) (m + 1) cap) (m + 1) (xs ++ [x])) :
    w.ownsRow base 3 1 (.slice (some ⟨g, 0, none⟩) m cap) m xs := by
  have hl := h.1
  simp at hl
  refine ⟨by simpa using hl, ?_⟩
  rcases h.2 with ⟨h1, h2⟩ | ⟨g', cap', cur, h1, h2, h3, h4, h5, h6, h7⟩
  · omega
  · simp only [Value.slice.injEq, Option.some.injEq, Addr.mk.injEq] at h1
    obtain ⟨⟨rfl, _, _⟩, _, rfl⟩ := h1
    refine Or.inr ⟨g, cap, cur, rfl, h2, h3, by omega, h5, h6, ?_⟩
    have := congrArg (List.take m) h7
    rw [List.take_take, Nat.mul_one] at this
    rw [Nat.mul_one]
    have e : min m (m + 1) = m := by omega
    rw [e] at this
    rw [this, List.take_append_of_le_length (by omega), List.take_of_length_le (by omega)]
theorem own1_below {w w' : World} {base : Nat} {v : Value} {m : Nat} {xs : List Value} (h : w.ownsRow base 3 1 v m xs) (hb : Below w.heap.size w w') : w'.ownsRow base 3 1 v m xs :=
  h.kept (row := none) ⟨hb.os, hb.tape, hb.output, hb.size, fun i hi _ => hb.block i hi⟩ (by
    cases h : v.ownBlock with
    | none => exact Or.inl rfl
    | some _ => exact Or.inr (by simp))
end Go.Proofs.YtkkoekfdncoifaaDoor
