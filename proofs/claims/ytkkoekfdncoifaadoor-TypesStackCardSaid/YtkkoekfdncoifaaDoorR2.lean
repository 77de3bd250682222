/- What is proved here: contracts of the document's Args for layer 4, and of its Name for layer 1. Conditions: none beyond those each theorem states. -/
import Derived.Test.YtkkoekfdncoifaaDoorR1
import Derived.Test.YtkkoekfdncoifaaDoorNm
namespace Go.Proofs.YtkkoekfdncoifaaDoor
open Go.ChangeShapes Go.WideShapes Go.RowKit

set_option maxHeartbeats 4000000 in
set_option maxRecDepth 100000 in
theorem argsR_in (o : Int) (h : 1 ≤ o ∧ o ≤ 25) (w : World) : Calls Tryd.prog 54 #[.int .i64 o] w fun e w' => e = .returned (.int .i64 (argsOf o)) ∧ Below w.heap.size w w' := by
  have c := fun W => nameR_any o W
  have g1 := onm_some (kn_iff.2 h)
  obtain ⟨S, hS⟩ : ∃ S, S = onm o := ⟨_, rfl⟩
  rw [← hS] at c g1
  have C := Lib.hid c
  have g2 : ¬ S.toList = [] := by intro h; rw [h] at g1; cases g1
  have g3 : (S.toList == []) = false := by simpa using g2
  clear c hS
  rcases (show o = 1 ∨ o = 2 ∨ o = 3 ∨ o = 4 ∨ o = 5 ∨ o = 6 ∨ o = 7 ∨ o = 8 ∨ o = 9 ∨ o = 10 ∨ o = 11 ∨ o = 12 ∨ o = 13 ∨ o = 14 ∨ o = 15 ∨ o = 16 ∨ o = 17 ∨ o = 18 ∨ o = 19 ∨ o = 20 ∨ o = 21 ∨ o = 22 ∨ o = 23 ∨ o = 24 ∨ o = 25 by omega) with
    rfl | rfl | rfl | rfl | rfl | rfl | rfl | rfl | rfl | rfl | rfl | rfl | rfl | rfl | rfl | rfl | rfl | rfl | rfl | rfl | rfl | rfl | rfl | rfl | rfl
  all_goals
    clear h
    go_enter Tryd.func54, Tryd.ntmps54
    go_wp2_with (go_at_call 53; refine (C.out _).mono ?_; rintro e w1 ⟨rfl, hb⟩)
    go_ret
    exact ⟨rfl, hb.alloc hb.size _⟩
theorem argsR_out (o : Int) (h : kn o = false) (w : World) : Calls Tryd.prog 54 #[.int .i64 o] w fun e w' => e = .returned (.int .i64 (argsOf o)) ∧ Below w.heap.size w w' := by
  have c := fun W => nameR_any o W
  rw [onm_out h] at c
  have C := Lib.hid c
  rw [args_neg h]
  clear c h
  go_enter Tryd.func54, Tryd.ntmps54
  go_wp2_with (go_at_call 53; refine (C.out _).mono ?_; rintro e w1 ⟨rfl, hb⟩)
  go_ret
  exact ⟨rfl, hb⟩
theorem argsR_any (o : Int) (w : World) : Calls Tryd.prog 54 #[.int .i64 o] w fun e w' => e = .returned (.int .i64 (argsOf o)) ∧ Below w.heap.size w w' := by
  cases h : kn o
  · exact argsR_out o h w
  · exact argsR_in o (kn_iff.1 h) w
theorem numNameR_out (a : Int) (h : a < 1 ∨ 12 < a) (w : World) : Calls Tryd.prog 55 #[.int .i64 a] w fun e w' => e = .returned (.string ⟨#[]⟩) ∧ Below w.heap.size w w' := by
  rcases h with h | h
  all_goals
    go_enter Tryd.func55, Tryd.ntmps55
    go_wp2
    go_ret
    exact ⟨rfl, Below.refl _ _⟩
set_option maxHeartbeats 4000000 in
set_option maxRecDepth 100000 in
theorem numNameR_in (a : Int) (h : 1 ≤ a ∧ a ≤ 12) (w : World) : Calls Tryd.prog 55 #[.int .i64 a] w fun e w' => e = .returned (.string (nameOf a.toNat)) ∧ Below w.heap.size w w' := by
  rcases (show a = 1 ∨ a = 2 ∨ a = 3 ∨ a = 4 ∨ a = 5 ∨ a = 6 ∨ a = 7 ∨ a = 8 ∨ a = 9 ∨ a = 10 ∨ a = 11 ∨ a = 12 by omega) with
    rfl | rfl | rfl | rfl | rfl | rfl | rfl | rfl | rfl | rfl | rfl | rfl
  all_goals
    clear h
    go_enter Tryd.func55, Tryd.ntmps55
    go_wp2
    go_ret
    exact ⟨rfl, (Below.refl _ _).alloc (Nat.le_refl _) _⟩
theorem numNameR_any (a : Int) (w : World) : Calls Tryd.prog 55 #[.int .i64 a] w fun e w' => e = .returned (.string (nm a)) ∧ Below w.heap.size w w' := by
  by_cases h : 1 ≤ a ∧ a ≤ 12
  · have e : nm a = nameOf a.toNat := by unfold nm; rw [if_pos h]
    rw [e]; exact numNameR_in a h w
  · rw [nm_none h]; exact numNameR_out a (by omega) w
end Go.Proofs.YtkkoekfdncoifaaDoor
