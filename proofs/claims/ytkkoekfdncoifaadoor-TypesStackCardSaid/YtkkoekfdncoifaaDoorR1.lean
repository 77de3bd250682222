/- What is proved here: contracts of the document's Name and Args for layer 4, and of its Name for layer 1. Conditions: none beyond those each theorem states. -/
import Derived.Test.YtkkoekfdncoifaaDoorRight
namespace Go.Proofs.YtkkoekfdncoifaaDoor
open Go.ChangeShapes Go.WideShapes Go.RowKit

theorem nameR_out (o : Int) (h : o < 1 ∨ 25 < o) (w : World) : Calls Tryd.prog 53 #[.int .i64 o] w fun e w' => e = .returned (.string ⟨#[]⟩) ∧ Below w.heap.size w w' := by
  rcases h with h | h
  all_goals
    go_enter Tryd.func53, Tryd.ntmps53
    go_wp2
    go_ret
    exact ⟨rfl, Below.refl _ _⟩
set_option maxHeartbeats 4000000 in
set_option maxRecDepth 100000 in
theorem nameR_in (o : Int) (h : 1 ≤ o ∧ o ≤ 25) (w : World) : Calls Tryd.prog 53 #[.int .i64 o] w fun e w' => e = .returned (.string (opNameOf o.toNat)) ∧ Below w.heap.size w w' := by
  rcases (show o = 1 ∨ o = 2 ∨ o = 3 ∨ o = 4 ∨ o = 5 ∨ o = 6 ∨ o = 7 ∨ o = 8 ∨ o = 9 ∨ o = 10 ∨ o = 11 ∨ o = 12 ∨ o = 13 ∨ o = 14 ∨ o = 15 ∨ o = 16 ∨ o = 17 ∨ o = 18 ∨ o = 19 ∨ o = 20 ∨ o = 21 ∨ o = 22 ∨ o = 23 ∨ o = 24 ∨ o = 25 by omega) with
    rfl | rfl | rfl | rfl | rfl | rfl | rfl | rfl | rfl | rfl | rfl | rfl | rfl | rfl | rfl | rfl | rfl | rfl | rfl | rfl | rfl | rfl | rfl | rfl | rfl
  all_goals
    clear h
    go_enter Tryd.func53, Tryd.ntmps53
    go_wp2
    go_ret
    exact ⟨rfl, (Below.refl _ _).alloc (Nat.le_refl _) _⟩
theorem nameR_any (o : Int) (w : World) : Calls Tryd.prog 53 #[.int .i64 o] w fun e w' => e = .returned (.string (onm o)) ∧ Below w.heap.size w w' := by
  cases h : kn o
  · have e : onm o = ⟨#[]⟩ := by unfold onm; rw [h]; rfl
    rw [e]
    refine nameR_out o ?_ w
    rcases Int.lt_or_le o 1 with h1 | h1
    · exact Or.inl h1
    · rcases Int.lt_or_le 25 o with h2 | h2
      · exact Or.inr h2
      · rw [kn_iff.2 ⟨h1, h2⟩] at h; cases h
  · have e : onm o = opNameOf o.toNat := by unfold onm; rw [h]; rfl
    rw [e]
    exact nameR_in o (kn_iff.1 h) w
end Go.Proofs.YtkkoekfdncoifaaDoor
