/- What is proved here: contracts of op.rightA and op.Right. Condition: the tables of names hold what their initialisers lay ('Nms'). -/
import Derived.Test.YtkkoekfdncoifaaDoorSmall
namespace Go.Proofs.YtkkoekfdncoifaaDoor
open Go.ChangeShapes Go.WideShapes Go.RowKit

theorem nm_some {a : Int} (h : 1 ≤ a ∧ a ≤ 12) : (nm a).toList.isEmpty = false := by
  rcases (show a = 1 ∨ a = 2 ∨ a = 3 ∨ a = 4 ∨ a = 5 ∨ a = 6 ∨ a = 7 ∨ a = 8 ∨ a = 9 ∨ a = 10 ∨ a = 11 ∨ a = 12 by omega) with rfl | rfl | rfl | rfl | rfl | rfl | rfl | rfl | rfl | rfl | rfl | rfl <;> decide +kernel
theorem nm_none {a : Int} (h : ¬ (1 ≤ a ∧ a ≤ 12)) : nm a = ⟨#[]⟩ := by unfold nm; rw [if_neg h]
theorem rightA_two (a : Int) (w : World) (hn : Nms w) : Calls Tryd.prog 46 #[.int .i64 5, .int .i64 a] w fun e w' => e = .returned (.bool (rA 5 a)) ∧ w = w' := by
  have c := fun W h => numName_any a W h
  by_cases h : 1 ≤ a ∧ a ≤ 12
  · have e : rA 5 a = true := by unfold rA; simp [h]
    obtain ⟨S, hS⟩ : ∃ S, S = nm a := ⟨_, rfl⟩
    have h1 := nm_some h
    rw [← hS] at c h1
    have C := Lib.hid c
    have h2 : ¬ S.toList = [] := by intro h; rw [h] at h1; cases h1
    have h3 : (S.toList == []) = false := by simpa using h2
    rw [e]
    clear e hS h c
    go_enter Tryd.func46, Tryd.ntmps46
    go_wp2_with (go_at_call 56; refine (C.out _ hn).mono ?_; rintro e w' ⟨rfl, rfl⟩)
    go_ret
    exact ⟨rfl, rfl⟩
  · have e : rA 5 a = false := by unfold rA; simp; omega
    rw [nm_none h] at c
    have C := Lib.hid c
    rw [e]
    clear e c
    go_enter Tryd.func46, Tryd.ntmps46
    go_wp2_with (go_at_call 56; refine (C.out _ hn).mono ?_; rintro e w' ⟨rfl, rfl⟩)
    go_ret
    exact ⟨rfl, rfl⟩
theorem rightA_loop (a : Int) (w : World) : Calls Tryd.prog 46 #[.int .i64 21, .int .i64 a] w fun e w' => e = .returned (.bool (rA 21 a)) ∧ w = w' := by
  by_cases h1 : a < 1
  · have e : rA 21 a = false := by unfold rA; simp; omega
    rw [e]
    go_enter Tryd.func46, Tryd.ntmps46
    go_wp2
    go_ret
    exact ⟨rfl, rfl⟩
  · by_cases h2 : a ≤ 1000
    · have e : rA 21 a = true := by unfold rA; simp; omega
      rw [e]
      go_enter Tryd.func46, Tryd.ntmps46
      go_wp2
      go_ret
      exact ⟨rfl, rfl⟩
    · have e : rA 21 a = false := by unfold rA; simp; omega
      have d : decide (a ≤ 1000) = false := by simp; omega
      rw [e]
      go_enter Tryd.func46, Tryd.ntmps46
      go_wp2
      go_ret
      exact ⟨rfl, rfl⟩
set_option maxHeartbeats 2000000 in
set_option maxRecDepth 100000 in
theorem rightA_any (o a : Int) (h : 1 ≤ o ∧ o ≤ 25) (w : World) (hn : Nms w) : Calls Tryd.prog 46 #[.int .i64 o, .int .i64 a] w fun e w' => e = .returned (.bool (rA o a)) ∧ w = w' := by
  by_cases h5 : o = 5
  · subst h5; exact rightA_two a w hn
  by_cases h21 : o = 21
  · subst h21; exact rightA_loop a w
  clear hn
  rcases (show o = 1 ∨ o = 2 ∨ o = 3 ∨ o = 4 ∨ o = 6 ∨ o = 7 ∨ o = 8 ∨ o = 9 ∨ o = 10 ∨ o = 11 ∨ o = 12 ∨ o = 13 ∨ o = 14 ∨ o = 15 ∨ o = 16 ∨ o = 17 ∨ o = 18 ∨ o = 19 ∨ o = 20 ∨ o = 22 ∨ o = 23 ∨ o = 24 ∨ o = 25 by omega) with
    rfl | rfl | rfl | rfl | rfl | rfl | rfl | rfl | rfl | rfl | rfl | rfl | rfl | rfl | rfl | rfl | rfl | rfl | rfl | rfl | rfl | rfl | rfl
  all_goals
    clear h h5 h21
    go_enter Tryd.func46, Tryd.ntmps46
    go_wp2_with (go_at_call 57; refine (place_any _ _ _).mono ?_; rintro e w' ⟨rfl, rfl⟩)
    go_ret
    exact ⟨rfl, rfl⟩

set_option maxHeartbeats 2000000 in
set_option maxRecDepth 100000 in
theorem right_any (o a b : Int) (w : World) (hn : Nms w) :
    Calls Tryd.prog 29 #[.agg #[.int .i64 o, .int .i64 a, .int .i64 b]] w fun e w' => e = .returned (.bool (right (o, a, b))) ∧ Below w.heap.size w w' := by
  have e : right (o, a, b) = (kn o && (rA o a && rB o b)) := rfl
  have ck := known_op o
  cases hk : kn o
  · rw [hk] at e ck
    have C := Lib.hid ck
    rw [e]
    clear e ck hk
    go_enter Tryd.func29, Tryd.ntmps29
    go_wp2_with (go_at_call 45; refine (C.out _).mono ?_; rintro e w' ⟨rfl, rfl⟩)
    go_ret
    exact ⟨rfl, (Below.refl _ _).alloc (Nat.le_refl _) _⟩
  · have hko := kn_iff.1 hk
    have ca := fun W h => rightA_any o a hko W h
    have cb := fun W => rightB_any o b W
    have hn' : ∀ x, Nms (w.alloc x) := fun x => hn.below ((Below.refl _ _).alloc (Nat.le_refl _) _)
    have HN := Lib.hid hn'
    obtain ⟨x, hx⟩ : ∃ x, x = rA o a := ⟨_, rfl⟩
    obtain ⟨y, hy⟩ : ∃ y, y = rB o b := ⟨_, rfl⟩
    rw [hk, ← hx, ← hy] at e
    rw [hk] at ck
    rw [← hx] at ca
    rw [← hy] at cb
    have C := Lib.hid ck
    have CA := Lib.hid ca
    have CB := Lib.hid cb
    rw [e]
    clear e ck ca cb hk hx hy hn' hko hn
    cases x
    all_goals
      go_enter Tryd.func29, Tryd.ntmps29
      go_wp2_with (first
        | (go_at_call 45; refine (C.out _).mono ?_; rintro e w' ⟨rfl, rfl⟩)
        | (go_at_call 46; refine (CA.out _ (HN.out _)).mono ?_; rintro e w' ⟨rfl, rfl⟩)
        | (go_at_call 47; refine (CB.out _).mono ?_; rintro e w' ⟨rfl, rfl⟩))
      go_ret
      exact ⟨rfl, (Below.refl _ _).alloc (Nat.le_refl _) _⟩
end Go.Proofs.YtkkoekfdncoifaaDoor
