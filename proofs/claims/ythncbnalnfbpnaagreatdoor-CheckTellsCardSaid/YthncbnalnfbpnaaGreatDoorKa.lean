/- What is proved here: contracts of the document's Name and Args for layer 4, and of its Name for layer 1. Conditions: none beyond those each theorem states. contracts of the document's Args for layer 4, and of its Name for layer 1. Conditions: none beyond those each theorem states. -/
import Derived.Test.YthncbnalnfbpnaaGreatDoorGb
import Derived.Lib.Builder
import Derived.Deep.OwnRows
section
namespace Go.Proofs.YthncbnalnfbpnaaGreatDoor
open Go.ChangeShapes Go.WideShapes Go.RowKit

theorem nameR_out (o : Int) (h : o < 1 ∨ 25 < o) (w : World) : Calls Tryz.prog 139 #[.int .i64 o] w fun e w' => e = .returned (.string ⟨#[]⟩) ∧ Below w.heap.size w w' := by
  rcases h with h | h
  all_goals
    go_enter Tryz.func139, Tryz.ntmps139
    go_wp2
    go_ret
    exact ⟨rfl, Below.refl _ _⟩
/-- The table of the operations' names. -/
def tabN : Array Value := #[.string ⟨#[80, 85, 83, 72]⟩, .string ⟨#[68, 82, 79, 80]⟩, .string ⟨#[68, 85, 80]⟩, .string ⟨#[83, 87, 65, 80]⟩, .string ⟨#[84, 87, 79]⟩, .string ⟨#[78, 69, 71]⟩, .string ⟨#[78, 79, 84]⟩, .string ⟨#[66, 79, 84, 72]⟩, .string ⟨#[69, 73, 84, 72, 69, 82]⟩, .string ⟨#[67, 65, 83, 84]⟩, .string ⟨#[76, 79, 65, 68, 76]⟩, .string ⟨#[83, 84, 79, 82, 69, 76]⟩, .string ⟨#[76, 79, 65, 68, 82]⟩, .string ⟨#[83, 84, 79, 82, 69, 82]⟩, .string ⟨#[73, 78]⟩, .string ⟨#[79, 85, 84]⟩, .string ⟨#[71, 69, 84]⟩, .string ⟨#[80, 85, 84]⟩, .string ⟨#[74, 85, 77, 80]⟩, .string ⟨#[66, 82, 65, 78, 67, 72]⟩, .string ⟨#[76, 79, 79, 80]⟩, .string ⟨#[78, 69, 88, 84]⟩, .string ⟨#[76, 79, 67, 75]⟩, .string ⟨#[85, 78, 76, 79, 67, 75]⟩, .string ⟨#[69, 78, 68]⟩]
theorem tabN_at (j : Nat) (h : j < 25) : tabN[j]? = some (.string (opNameOf (j + 1))) := by
  match j, h with
  | 0, _ => rfl
  | 1, _ => rfl
  | 2, _ => rfl
  | 3, _ => rfl
  | 4, _ => rfl
  | 5, _ => rfl
  | 6, _ => rfl
  | 7, _ => rfl
  | 8, _ => rfl
  | 9, _ => rfl
  | 10, _ => rfl
  | 11, _ => rfl
  | 12, _ => rfl
  | 13, _ => rfl
  | 14, _ => rfl
  | 15, _ => rfl
  | 16, _ => rfl
  | 17, _ => rfl
  | 18, _ => rfl
  | 19, _ => rfl
  | 20, _ => rfl
  | 21, _ => rfl
  | 22, _ => rfl
  | 23, _ => rfl
  | 24, _ => rfl
  | j + 25, h => exact absurd h (by omega)
set_option maxHeartbeats 1000000 in
set_option maxRecDepth 100000 in
theorem nameR_in (o : Int) (h : 1 ≤ o ∧ o ≤ 25) (w : World) : Calls Tryz.prog 139 #[.int .i64 o] w fun e w' => e = .returned (.string (opNameOf o.toNat)) ∧ Below w.heap.size w w' := by
  obtain ⟨j, rfl⟩ : ∃ j : Nat, o = (j : Int) + 1 := ⟨(o - 1).toNat, by omega⟩
  have hj : j < 25 := by omega
  have ht : ((j : Int) + 1).toNat = j + 1 := by omega
  rw [ht]
  have hw1 : IntKind.i64.wrap ((j : Int) + 1 - 1) = (j : Int) := by rw [IntWalk.i64_in _ (by omega)]; omega
  have f1 : (0 : Int) ≤ (j : Int) := by omega
  have f2 : (j : Int) < 25 := by omega
  have d1 : decide ((j : Int) + 1 < 1) = false := by rw [decide_eq_false_iff_not]; omega
  have d2 : decide ((25 : Int) < (j : Int) + 1) = false := by rw [decide_eq_false_iff_not]; omega
  have hc := (Lib.cell_of_heap (Go.Deep.blk_alloc_new w (.cells #[.string ⟨#[80, 85, 83, 72]⟩, .string ⟨#[68, 82, 79, 80]⟩, .string ⟨#[68, 85, 80]⟩, .string ⟨#[83, 87, 65, 80]⟩, .string ⟨#[84, 87, 79]⟩, .string ⟨#[78, 69, 71]⟩, .string ⟨#[78, 79, 84]⟩, .string ⟨#[66, 79, 84, 72]⟩, .string ⟨#[69, 73, 84, 72, 69, 82]⟩, .string ⟨#[67, 65, 83, 84]⟩, .string ⟨#[76, 79, 65, 68, 76]⟩, .string ⟨#[83, 84, 79, 82, 69, 76]⟩, .string ⟨#[76, 79, 65, 68, 82]⟩, .string ⟨#[83, 84, 79, 82, 69, 82]⟩, .string ⟨#[73, 78]⟩, .string ⟨#[79, 85, 84]⟩, .string ⟨#[71, 69, 84]⟩, .string ⟨#[80, 85, 84]⟩, .string ⟨#[74, 85, 77, 80]⟩, .string ⟨#[66, 82, 65, 78, 67, 72]⟩, .string ⟨#[76, 79, 79, 80]⟩, .string ⟨#[78, 69, 88, 84]⟩, .string ⟨#[76, 79, 67, 75]⟩, .string ⟨#[85, 78, 76, 79, 67, 75]⟩, .string ⟨#[69, 78, 68]⟩] 9)) j).trans (tabN_at j hj)
  obtain ⟨R, hR⟩ : ∃ R, R = opNameOf (j + 1) := ⟨_, rfl⟩
  rw [← hR] at hc ⊢
  clear hR h ht
  go_enter Tryz.func139, Tryz.ntmps139
  go_wp2
  go_ret
  exact ⟨rfl, (Below.refl _ _).alloc (Nat.le_refl _) _⟩
theorem nameR_any (o : Int) (w : World) : Calls Tryz.prog 139 #[.int .i64 o] w fun e w' => e = .returned (.string (onm o)) ∧ Below w.heap.size w w' := by
  cases h : kn o
  · have e : onm o = ⟨#[]⟩ := by unfold onm; rw [h]; rfl
    rw [e]
    refine nameR_out o ?_ w
    rcases Int.lt_or_le o 1 with h1 | h1
    · exact Or.inl h1
    · rcases Int.lt_or_le 25 o with h2 | h2
      · exact Or.inr h2
      · rw [kn_iff.2 ⟨h1, h2⟩] at h; cases h
  · have e : onm o = opNameOf o.toNat := by unfold onm; rw [h]; rfl
    rw [e]
    exact nameR_in o (kn_iff.1 h) w
end Go.Proofs.YthncbnalnfbpnaaGreatDoor
end

section
namespace Go.Proofs.YthncbnalnfbpnaaGreatDoor
open Go.ChangeShapes Go.WideShapes Go.RowKit

/-- The table of how many numbers they have. -/
def tabA : Array Value := #[.int .i64 1, .int .i64 0, .int .i64 0, .int .i64 0, .int .i64 1, .int .i64 0, .int .i64 0, .int .i64 0, .int .i64 0, .int .i64 0, .int .i64 1, .int .i64 1, .int .i64 1, .int .i64 1, .int .i64 1, .int .i64 1, .int .i64 2, .int .i64 2, .int .i64 1, .int .i64 1, .int .i64 1, .int .i64 0, .int .i64 1, .int .i64 1, .int .i64 0]
theorem tabA_at (j : Nat) (h : j < 25) : tabA[j]? = some (.int .i64 (argsOf ((j : Int) + 1))) := by
  match j, h with
  | 0, _ => rfl
  | 1, _ => rfl
  | 2, _ => rfl
  | 3, _ => rfl
  | 4, _ => rfl
  | 5, _ => rfl
  | 6, _ => rfl
  | 7, _ => rfl
  | 8, _ => rfl
  | 9, _ => rfl
  | 10, _ => rfl
  | 11, _ => rfl
  | 12, _ => rfl
  | 13, _ => rfl
  | 14, _ => rfl
  | 15, _ => rfl
  | 16, _ => rfl
  | 17, _ => rfl
  | 18, _ => rfl
  | 19, _ => rfl
  | 20, _ => rfl
  | 21, _ => rfl
  | 22, _ => rfl
  | 23, _ => rfl
  | 24, _ => rfl
  | j + 25, h => exact absurd h (by omega)
set_option maxHeartbeats 1000000 in
set_option maxRecDepth 100000 in
theorem argsR_in (o : Int) (h : 1 ≤ o ∧ o ≤ 25) (w : World) : Calls Tryz.prog 140 #[.int .i64 o] w fun e w' => e = .returned (.int .i64 (argsOf o)) ∧ Below w.heap.size w w' := by
  have c := fun W => nameR_any o W
  have g1 := onm_some (kn_iff.2 h)
  obtain ⟨S, hS⟩ : ∃ S, S = onm o := ⟨_, rfl⟩
  rw [← hS] at c g1
  have C := Lib.hid c
  have g2 : ¬ S.toList = [] := by intro h; rw [h] at g1; cases g1
  have g3 : (S.toList == []) = false := by simpa using g2
  clear c hS
  obtain ⟨j, rfl⟩ : ∃ j : Nat, o = (j : Int) + 1 := ⟨(o - 1).toNat, by omega⟩
  have hj : j < 25 := by omega
  have hw1 : IntKind.i64.wrap ((j : Int) + 1 - 1) = (j : Int) := by rw [IntWalk.i64_in _ (by omega)]; omega
  have f1 : (0 : Int) ≤ (j : Int) := by omega
  have f2 : (j : Int) < 25 := by omega
  have HT := Lib.hid (tabA_at j hj)
  obtain ⟨R, hR⟩ : ∃ R, R = argsOf ((j : Int) + 1) := ⟨_, rfl⟩
  rw [← hR] at HT ⊢
  clear hR h
  go_enter Tryz.func140, Tryz.ntmps140
  go_wp2_with (go_at_call 139; refine (C.out _).mono ?_; rintro e w1 ⟨rfl, hb⟩; have c3 := (Lib.cell_of_heap (Go.Deep.blk_alloc_new w1 (.cells #[.int .i64 1, .int .i64 0, .int .i64 0, .int .i64 0, .int .i64 1, .int .i64 0, .int .i64 0, .int .i64 0, .int .i64 0, .int .i64 0, .int .i64 1, .int .i64 1, .int .i64 1, .int .i64 1, .int .i64 1, .int .i64 1, .int .i64 2, .int .i64 2, .int .i64 1, .int .i64 1, .int .i64 1, .int .i64 0, .int .i64 1, .int .i64 1, .int .i64 0] 3)) j).trans HT.out)
  go_ret
  exact ⟨rfl, hb.alloc hb.size _⟩
theorem argsR_out (o : Int) (h : kn o = false) (w : World) : Calls Tryz.prog 140 #[.int .i64 o] w fun e w' => e = .returned (.int .i64 (argsOf o)) ∧ Below w.heap.size w w' := by
  have c := fun W => nameR_any o W
  rw [onm_out h] at c
  have C := Lib.hid c
  rw [args_neg h]
  clear c h
  go_enter Tryz.func140, Tryz.ntmps140
  go_wp2_with (go_at_call 139; refine (C.out _).mono ?_; rintro e w1 ⟨rfl, hb⟩)
  go_ret
  exact ⟨rfl, hb⟩
theorem argsR_any (o : Int) (w : World) : Calls Tryz.prog 140 #[.int .i64 o] w fun e w' => e = .returned (.int .i64 (argsOf o)) ∧ Below w.heap.size w w' := by
  cases h : kn o
  · exact argsR_out o h w
  · exact argsR_in o (kn_iff.1 h) w
theorem numNameR_out (a : Int) (h : a < 1 ∨ 12 < a) (w : World) : Calls Tryz.prog 141 #[.int .i64 a] w fun e w' => e = .returned (.string ⟨#[]⟩) ∧ Below w.heap.size w w' := by
  rcases h with h | h
  all_goals
    go_enter Tryz.func141, Tryz.ntmps141
    go_wp2
    go_ret
    exact ⟨rfl, Below.refl _ _⟩
/-- The table of the numbers' operations' names. -/
def tabM : Array Value := #[.string ⟨#[65, 68, 68]⟩, .string ⟨#[83, 85, 66]⟩, .string ⟨#[77, 85, 76]⟩, .string ⟨#[68, 73, 86]⟩, .string ⟨#[77, 79, 68]⟩, .string ⟨#[65, 78, 68]⟩, .string ⟨#[79, 82]⟩, .string ⟨#[88, 79, 82]⟩, .string ⟨#[83, 72, 76]⟩, .string ⟨#[83, 72, 82]⟩, .string ⟨#[76, 84]⟩, .string ⟨#[69, 81]⟩]
theorem tabM_at (j : Nat) (h : j < 12) : tabM[j]? = some (.string (nameOf (j + 1))) := by
  match j, h with
  | 0, _ => rfl
  | 1, _ => rfl
  | 2, _ => rfl
  | 3, _ => rfl
  | 4, _ => rfl
  | 5, _ => rfl
  | 6, _ => rfl
  | 7, _ => rfl
  | 8, _ => rfl
  | 9, _ => rfl
  | 10, _ => rfl
  | 11, _ => rfl
  | j + 12, h => exact absurd h (by omega)
set_option maxHeartbeats 1000000 in
set_option maxRecDepth 100000 in
theorem numNameR_in (a : Int) (h : 1 ≤ a ∧ a ≤ 12) (w : World) : Calls Tryz.prog 141 #[.int .i64 a] w fun e w' => e = .returned (.string (nameOf a.toNat)) ∧ Below w.heap.size w w' := by
  obtain ⟨j, rfl⟩ : ∃ j : Nat, a = (j : Int) + 1 := ⟨(a - 1).toNat, by omega⟩
  have hj : j < 12 := by omega
  have ht : ((j : Int) + 1).toNat = j + 1 := by omega
  rw [ht]
  have hw1 : IntKind.i64.wrap ((j : Int) + 1 - 1) = (j : Int) := by rw [IntWalk.i64_in _ (by omega)]; omega
  have f1 : (0 : Int) ≤ (j : Int) := by omega
  have f2 : (j : Int) < 12 := by omega
  have d1 : decide ((j : Int) + 1 < 1) = false := by rw [decide_eq_false_iff_not]; omega
  have d2 : decide ((12 : Int) < (j : Int) + 1) = false := by rw [decide_eq_false_iff_not]; omega
  have hc := (Lib.cell_of_heap (Go.Deep.blk_alloc_new w (.cells #[.string ⟨#[65, 68, 68]⟩, .string ⟨#[83, 85, 66]⟩, .string ⟨#[77, 85, 76]⟩, .string ⟨#[68, 73, 86]⟩, .string ⟨#[77, 79, 68]⟩, .string ⟨#[65, 78, 68]⟩, .string ⟨#[79, 82]⟩, .string ⟨#[88, 79, 82]⟩, .string ⟨#[83, 72, 76]⟩, .string ⟨#[83, 72, 82]⟩, .string ⟨#[76, 84]⟩, .string ⟨#[69, 81]⟩] 9)) j).trans (tabM_at j hj)
  obtain ⟨R, hR⟩ : ∃ R, R = nameOf (j + 1) := ⟨_, rfl⟩
  rw [← hR] at hc ⊢
  clear hR h ht
  go_enter Tryz.func141, Tryz.ntmps141
  go_wp2
  go_ret
  exact ⟨rfl, (Below.refl _ _).alloc (Nat.le_refl _) _⟩
theorem numNameR_any (a : Int) (w : World) : Calls Tryz.prog 141 #[.int .i64 a] w fun e w' => e = .returned (.string (nm a)) ∧ Below w.heap.size w w' := by
  by_cases h : 1 ≤ a ∧ a ≤ 12
  · have e : nm a = nameOf a.toNat := by unfold nm; rw [if_pos h]
    rw [e]; exact numNameR_in a h w
  · rw [nm_none h]; exact numNameR_out a (by omega) w
end Go.Proofs.YthncbnalnfbpnaaGreatDoor
end
