/- What is proved here: contracts of cost.better, of the function that it gives, of cost.rounds and cost.leavesOut. Conditions: those each theorem states. -/
import Derived.Test.YtacgnofmccennaaGreatDoorCs
import Derived.Test.YtacgnofmccennaaGreatDoorGi
namespace Go.Proofs.YtacgnofmccennaaGreatDoor
open Go.ChangeShapes Go.WideShapes Go.RowKit

theorem better_any (m : Bool) (w : World) : Calls Tryz.prog 21 #[.bool m] w fun e w' => ∃ b, e = .returned (.func (.func 63) #[] #[.pointer (some ⟨b, 0, none⟩)]) ∧ w.heap.size ≤ b ∧ w'.cell? ⟨b, 0, none⟩ = some (.bool m) ∧ Below w.heap.size w w' := by
  go_enter Tryz.func21, Tryz.ntmps21
  go_wp2
  go_ret
  exact ⟨w.heap.size, rfl, Nat.le_refl _, by simp, below_alloc _ _⟩
theorem bet_any (m : Bool) (x y : Nat) (w : World) (b : Nat) (h : w.cell? ⟨b, 0, none⟩ = some (.bool m)) : Calls Tryz.prog 63 #[.int .i64 x, .int .i64 y, .pointer (some ⟨b, 0, none⟩)] w fun e w' => e = .returned (.int .i64 ((of_ m x y : Nat) : Int)) ∧ w = w' := by
  obtain ⟨r, hr⟩ : ∃ r, r = of_ m x y := ⟨_, rfl⟩
  rw [← hr]
  unfold of_ at hr
  by_cases e : y < x
  · have e1 : decide ((y : Int) < x) = true := by simp; omega
    have e2 : decide (y < x) = true := by simp; omega
    cases m
    · have HR : Hid (r = y) := by show _ = _; rw [hr]; simp; omega
      clear hr
      go_enter Tryz.func63, Tryz.ntmps63
      go_wp2
      go_ret
      exact ⟨by rw [HR.out]; rfl, rfl⟩
    · have HR : Hid (r = x) := by show _ = _; rw [hr]; simp; omega
      clear hr
      go_enter Tryz.func63, Tryz.ntmps63
      go_wp2
      go_ret
      exact ⟨by rw [HR.out]; rfl, rfl⟩
  · have e1 : decide ((y : Int) < x) = false := by simp; omega
    have e2 : decide (y < x) = false := by simp; omega
    cases m
    · have HR : Hid (r = x) := by show _ = _; rw [hr]; simp; omega
      clear hr
      go_enter Tryz.func63, Tryz.ntmps63
      go_wp2
      go_ret
      exact ⟨by rw [HR.out]; rfl, rfl⟩
    · have HR : Hid (r = y) := by show _ = _; rw [hr]; simp; omega
      clear hr
      go_enter Tryz.func63, Tryz.ntmps63
      go_wp2
      go_ret
      exact ⟨by rw [HR.out]; rfl, rfl⟩
theorem rounds_any (o x y r : Int) (w : World) (h : r = if o = 21 then x else 1) : Calls Tryz.prog 84 #[.agg #[.int .i64 o, .int .i64 x, .int .i64 y]] w fun e w' => e = .returned (.int .i64 r) ∧ Below w.heap.size w w' := by
  by_cases e : o = 21
  · rw [if_pos e] at h
    subst h; subst e
    go_enter Tryz.func84, Tryz.ntmps84
    go_wp2
    go_ret
    exact ⟨rfl, below_alloc _ _⟩
  · rw [if_neg e] at h
    subst h
    have e1 : (o == 21) = false := by simpa using e
    clear e
    go_enter Tryz.func84, Tryz.ntmps84
    go_wp2
    go_ret
    exact ⟨rfl, below_alloc _ _⟩
theorem leavesOut_any (o x y : Int) (w : World) : Calls Tryz.prog 25 #[.agg #[.int .i64 o, .int .i64 x, .int .i64 y]] w fun e w' => e = .returned (.bool (lv (o, x, y))) ∧ Below w.heap.size w w' := by
  obtain ⟨r, hr⟩ : ∃ r, r = lv (o, x, y) := ⟨_, rfl⟩
  rw [← hr]
  unfold lv at hr
  simp only at hr
  cases h1 : (o == 19)
  · cases h2 : (o == 20)
    · have HR : Hid (r = false) := by show _ = _; rw [hr, h1, h2]; rfl
      clear hr
      go_enter Tryz.func25, Tryz.ntmps25
      go_wp2
      go_ret
      exact ⟨by rw [HR.out]; rfl, below_alloc _ _⟩
    · have HR : Hid (r = decide (0 < x)) := by show _ = _; rw [hr, h1, h2]; simp
      clear hr
      go_enter Tryz.func25, Tryz.ntmps25
      go_wp2
      go_ret
      exact ⟨by rw [HR.out]; rfl, below_alloc _ _⟩
  · have HR : Hid (r = decide (0 < x)) := by show _ = _; rw [hr, h1]; simp
    clear hr
    go_enter Tryz.func25, Tryz.ntmps25
    go_wp2
    go_ret
    exact ⟨by rw [HR.out]; rfl, below_alloc _ _⟩
end Go.Proofs.YtacgnofmccennaaGreatDoor
