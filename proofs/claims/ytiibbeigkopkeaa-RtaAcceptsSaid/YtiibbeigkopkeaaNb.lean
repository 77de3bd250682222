/- What is proved here: contracts of nat.Right, its closures, slices.IndexFunc and ContainsFunc at these, and allRight. Conditions: those each theorem states. -/
import Derived.Test.YtiibbeigkopkeaaNa
import Derived.Test.YtiibbeigkopkeaaProg
import Derived.Lib.Hide
import Derived.Lib.Small
import Derived.Lib.Walk
import Derived.Lib.Slices
namespace Go.Proofs.Ytiibbeigkopkeaa
open Go.ChangeShapes Go.WideShapes Go.RowKit

theorem right_any (n : Int) (w : World) : Calls Try.prog 22 #[.int .i64 n] w fun e w' => e = .returned (.bool (rt n)) ∧ w' = w := by
  have h : Hid (∀ x y, decide (0 ≤ n) = x → decide (n < 4611686018427387904) = y → rt n = (x && y)) := fun x y hx hy => by unfold rt; rw [hx, hy]
  cases h1 : decide (0 ≤ n) <;> cases h2 : decide (n < 4611686018427387904) <;>
  · have h3 := Lib.hid (h.out _ _ h1 h2)
    clear h
    go_enter Try.func22, Try.ntmps22
    go_wp2
    go_ret
    exact ⟨by rw [h3.out]; rfl, rfl⟩
theorem notRight_any (n : Int) (w : World) : Calls Try.prog 41 #[.int .i64 n] w fun e w' => e = .returned (.bool (!rt n)) ∧ w' = w := by
  have C := Lib.hid (fun W => right_any n W)
  go_enter Try.func41, Try.ntmps41
  go_wp2_with (go_at_call 22; refine (C.out _).mono ?_; rintro e w1 ⟨rfl, rfl⟩)
  go_ret
  exact ⟨rfl, rfl⟩
set_option maxHeartbeats 1000000 in
set_option maxRecDepth 100000 in
theorem index_any (a : Option Addr) (n c : Nat) (l : List Int) (w : World) (hr : Row w a n l) (hn : n ≤ 1000000000000) :
    Calls Try.prog 43 #[.slice a n c, .func (.func 41) #[] #[]] w fun e w' => ∃ i, e = .returned (.int .i64 i) ∧ (decide (0 ≤ i)) = (!al l) ∧ Below w.heap.size w w' := by
  have HL := Lib.hid hr.1
  go_enter Try.func43, Try.ntmps43
  go_wp2
  go_loopw [8] (fun i wr => ∃ k : Nat, k ≤ n ∧ i = .int .i64 k ∧ Hid (∀ p, p < k → rt (l.getD p 0) = true) ∧ Below w.heap.size w wr) (fun i _ => n - (intOf i).toNat)
  case atStart => exact ⟨0, by omega, rfl, fun p hp => absurd hp (by omega), Below.refl _ _⟩
  case round =>
    obtain ⟨k, hk, rfl, HA, hbl⟩ := hrel
    by_cases hlt : k < n
    · obtain ⟨b1, o1, x, rfl, hB1, hx, hc1⟩ := (hr.below hbl).at_ hlt
      have ce := fun W => notRight_any x W
      cases hv : rt x
      · rw [hv] at ce
        have HQ : Hid (decide (0 ≤ (k : Int)) = !al l) := by
          show _ = _
          have : al l = false := by
            rw [Bool.eq_false_iff]
            intro h
            have := al_at.1 h k (by rw [← HL.out]; exact hlt)
            rw [hx, hv] at this; cases this
          rw [this]; simp
        have CE := Lib.hid ce
        clear ce hx hv HA
        go_wp2_with (go_at_call 41; refine (CE.out _).mono ?_; rintro e w2 ⟨rfl, rfl⟩)
        go_ret
        exact ⟨_, rfl, HQ.out, hbl⟩
      · rw [hv] at ce
        have HA2 : Hid (∀ p, p < k + 1 → rt (l.getD p 0) = true) := by
          intro p hp
          by_cases e : p = k
          · rw [e, hx]; exact hv
          · exact HA.out p (by omega)
        have CE := Lib.hid ce
        clear ce hv hx HA
        go_wp2_with (go_at_call 41; refine (CE.out _).mono ?_; rintro e w2 ⟨rfl, rfl⟩)
        go_roundw
        case rel => exact ⟨k + 1, by omega, by go_num, HA2, hbl⟩
        case measure => simp [intOf]; omega
    · have hkn : k = n := by omega
      subst hkn
      have HQ : Hid (al l = true) := al_at.2 (fun i hi => HA.out i (by rw [HL.out]; exact hi))
      go_wp2
      go_ret
      exact ⟨_, rfl, by rw [HQ.out]; rfl, hbl⟩
theorem contains_any (a : Option Addr) (n c : Nat) (l : List Int) (w : World) (hr : Row w a n l) (hn : n ≤ 1000000000000) :
    Calls Try.prog 40 #[.slice a n c, .func (.func 41) #[] #[]] w fun e w' => e = .returned (.bool (!al l)) ∧ Below w.heap.size w w' := by
  have C := Lib.hid (index_any a n c l w hr hn)
  clear hr hn
  go_enter Try.func40, Try.ntmps40
  go_wp2_with (go_at_call 43; refine C.out.mono ?_; rintro e w1 ⟨i, rfl, hi, hb⟩)
  go_ret
  exact ⟨by rw [← hi]; rfl, hb⟩
theorem allRight_any (a : Option Addr) (n c : Nat) (l : List Int) (w : World) (hr : Row w a n l) (hn : n ≤ 1000000000000) :
    Calls Try.prog 37 #[.slice a n c] w fun e w' => e = .returned (.bool (al l)) ∧ Below w.heap.size w w' := by
  have C := Lib.hid (contains_any a n c l w hr hn)
  clear hr hn
  go_enter Try.func37, Try.ntmps37
  go_wp2_with (go_at_call 40; refine C.out.mono ?_; rintro e w1 ⟨rfl, hb⟩)
  go_ret
  exact ⟨by simp, hb⟩
end Go.Proofs.Ytiibbeigkopkeaa
