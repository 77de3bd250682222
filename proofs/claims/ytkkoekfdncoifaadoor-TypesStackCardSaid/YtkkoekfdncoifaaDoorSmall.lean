/- What is proved here: contracts of the small functions of package op (known, isPlace, Args, Name, rightB) and of num.Name. Condition: the tables of names hold what their initialisers lay ('Nms'). -/
import Derived.Test.YtkkoekfdncoifaaDoorOp
namespace Go.Proofs.YtkkoekfdncoifaaDoor
open Go.ChangeShapes Go.WideShapes Go.RowKit

/-- The names of numbers' operations, by their places in the table. -/
def nameOf (i : Nat) : ByteArray := ⟨([#[], #[65, 68, 68], #[83, 85, 66], #[77, 85, 76], #[68, 73, 86], #[77, 79, 68], #[65, 78, 68], #[79, 82], #[88, 79, 82], #[83, 72, 76], #[83, 72, 82], #[76, 84], #[69, 81]] : List (Array UInt8)).getD i #[]⟩
/-- The names of the operations, by their places in the table. -/
def opNameOf (i : Nat) : ByteArray := ⟨([#[], #[80, 85, 83, 72], #[68, 82, 79, 80], #[68, 85, 80], #[83, 87, 65, 80], #[84, 87, 79], #[78, 69, 71], #[78, 79, 84], #[66, 79, 84, 72], #[69, 73, 84, 72, 69, 82], #[67, 65, 83, 84], #[76, 79, 65, 68, 76], #[83, 84, 79, 82, 69, 76], #[76, 79, 65, 68, 82], #[83, 84, 79, 82, 69, 82], #[73, 78], #[79, 85, 84], #[71, 69, 84], #[80, 85, 84], #[74, 85, 77, 80], #[66, 82, 65, 78, 67, 72], #[76, 79, 79, 80], #[78, 69, 88, 84], #[76, 79, 67, 75], #[85, 78, 76, 79, 67, 75], #[69, 78, 68]] : List (Array UInt8)).getD i #[]⟩
/-- The table of names lies in memory as its initialiser lays it. -/
def Nms (w : World) : Prop := 0 < w.heap.size ∧ ∀ i : Nat, i < 13 → w.cell? ⟨0, i, none⟩ = some (.string (nameOf i))
theorem Nms.below {w w' : World} (h : Nms w) (g : Below w.heap.size w w') : Nms w' :=
  ⟨Nat.lt_of_lt_of_le h.1 g.size, fun i hi => (g.cell (p := ⟨0, i, none⟩) h.1).trans (h.2 i hi)⟩

/-- A number's operation's name, or none. -/
def nm (a : Int) : ByteArray := if 1 ≤ a ∧ a ≤ 12 then nameOf a.toNat else ⟨#[]⟩
theorem numName_in (n : Nat) (s : ByteArray) (h1 : 1 ≤ n) (h2 : n ≤ 12) (w : World) (hc : w.cell? ⟨0, n, none⟩ = some (.string s)) :
    Calls Tryd.prog 56 #[.int .i64 n] w fun e w' => e = .returned (.string s) ∧ w = w' := by
  go_enter Tryd.func56, Tryd.ntmps56
  go_wp2
  go_ret
  exact ⟨rfl, rfl⟩
theorem numName_out (a : Int) (h : a < 1 ∨ 12 < a) (w : World) :
    Calls Tryd.prog 56 #[.int .i64 a] w fun e w' => e = .returned (.string ⟨#[]⟩) ∧ w = w' := by
  rcases h with h | h
  all_goals
    go_enter Tryd.func56, Tryd.ntmps56
    go_wp2
    go_ret
    exact ⟨rfl, rfl⟩
theorem numName_any (a : Int) (w : World) (hn : Nms w) :
    Calls Tryd.prog 56 #[.int .i64 a] w fun e w' => e = .returned (.string (nm a)) ∧ w = w' := by
  by_cases h : 1 ≤ a ∧ a ≤ 12
  · obtain ⟨n, rfl⟩ : ∃ n : Nat, a = n := ⟨a.toNat, by omega⟩
    have e : nm n = nameOf n := by unfold nm; rw [if_pos h]; rfl
    rw [e]
    exact numName_in n _ (by omega) (by omega) w (hn.2 n (by omega))
  · have e : nm a = ⟨#[]⟩ := by unfold nm; rw [if_neg h]
    rw [e]
    exact numName_out a (by omega) w
theorem nm_empty (a : Int) : ((nm a).toList == []) = !decide (1 ≤ a ∧ a ≤ 12) := by
  by_cases h : 1 ≤ a ∧ a ≤ 12
  · rcases (show a = 1 ∨ a = 2 ∨ a = 3 ∨ a = 4 ∨ a = 5 ∨ a = 6 ∨ a = 7 ∨ a = 8 ∨ a = 9 ∨ a = 10 ∨ a = 11 ∨ a = 12 by omega) with rfl | rfl | rfl | rfl | rfl | rfl | rfl | rfl | rfl | rfl | rfl | rfl <;> decide +kernel
  · have e : nm a = ⟨#[]⟩ := by unfold nm; rw [if_neg h]
    rw [e]; simp [h]

theorem known_op (o : Int) (w : World) : Calls Tryd.prog 45 #[.int .i64 o] w fun e w' => e = .returned (.bool (kn o)) ∧ w = w' := by
  by_cases h1 : o < 1
  · have e : kn o = false := by unfold kn; simp; omega
    rw [e]
    go_enter Tryd.func45, Tryd.ntmps45
    go_wp2
    go_ret
    exact ⟨rfl, rfl⟩
  · by_cases h2 : 25 < o
    · have e : kn o = false := by unfold kn; simp; omega
      have d : decide (o ≤ 25) = false := by simp; omega
      rw [e]
      go_enter Tryd.func45, Tryd.ntmps45
      go_wp2
      go_ret
      exact ⟨rfl, rfl⟩
    · have e : kn o = true := by unfold kn; simp; omega
      rw [e]
      go_enter Tryd.func45, Tryd.ntmps45
      go_wp2
      go_ret
      exact ⟨rfl, rfl⟩
theorem known_yes (o : Int) (h : 1 ≤ o ∧ o ≤ 25) (w : World) : Calls Tryd.prog 45 #[.int .i64 o] w fun e w' => e = .returned (.bool true) ∧ w = w' := by
  have := known_op o w
  rw [kn_iff.2 h] at this; exact this
theorem place_any (a m : Int) (w : World) : Calls Tryd.prog 57 #[.int .i64 a, .int .i64 m] w fun e w' => e = .returned (.bool (pl a m)) ∧ w = w' := by
  by_cases h1 : a < 0
  · have e : pl a m = false := by unfold pl; simp; omega
    rw [e]
    go_enter Tryd.func57, Tryd.ntmps57
    go_wp2
    go_ret
    exact ⟨rfl, rfl⟩
  · by_cases h2 : a < m
    · have e : pl a m = true := by unfold pl; simp; omega
      rw [e]
      go_enter Tryd.func57, Tryd.ntmps57
      go_wp2
      go_ret
      exact ⟨rfl, rfl⟩
    · have e : pl a m = false := by unfold pl; simp; omega
      rw [e]
      go_enter Tryd.func57, Tryd.ntmps57
      go_wp2
      go_ret
      exact ⟨rfl, rfl⟩
/-- An operation's name, or none. -/
def onm (o : Int) : ByteArray := if kn o then opNameOf o.toNat else ⟨#[]⟩
theorem rightB_any (o b : Int) (w : World) : Calls Tryd.prog 47 #[.int .i64 o, .int .i64 b] w fun e w' => e = .returned (.bool (rB o b)) ∧ w = w' := by
  by_cases h : o = 17 ∨ o = 18
  · have e : rB o b = pl b 8 := by unfold rB; rw [if_pos h]
    rw [e]
    clear e
    rcases h with rfl | rfl
    all_goals
      go_enter Tryd.func47, Tryd.ntmps47
      go_wp2_with (go_at_call 57; refine (place_any _ _ _).mono ?_; rintro e w' ⟨rfl, rfl⟩)
      go_ret
      exact ⟨rfl, rfl⟩
  · have e : rB o b = (b == 0) := by unfold rB; rw [if_neg h]
    have e1 : (o == 17) = false := by rw [beq_eq_false_iff_ne]; omega
    have e2 : (o == 18) = false := by rw [beq_eq_false_iff_ne]; omega
    rw [e]
    clear e h
    go_enter Tryd.func47, Tryd.ntmps47
    go_wp2
    go_ret
    exact ⟨rfl, rfl⟩
end Go.Proofs.YtkkoekfdncoifaaDoor
