/- What is proved here: the contract of the document's Right for layer 4 (cases of locks and of Get, Put). Conditions: none beyond those each theorem states. -/
import Derived.Test.YthncbnalnfbpnaaGreatDoorKa
section
namespace Go.Proofs.YthncbnalnfbpnaaGreatDoor
open Go.ChangeShapes Go.WideShapes Go.RowKit
set_option linter.unusedVariables false

set_option maxHeartbeats 1000000 in
set_option maxRecDepth 100000 in
theorem rr_23lo (a : Int) (S : ByteArray) (C1 : Hid (∀ W, Calls Tryz.prog 139 #[.int .i64 23] W fun e w' => e = .returned (.string S) ∧ Below W.heap.size W w')) (C2 : Hid (∀ W, Calls Tryz.prog 140 #[.int .i64 23] W fun e w' => e = .returned (.int .i64 1) ∧ Below W.heap.size W w')) (g2 : ¬ S.toList = []) (h1 : a < 0) (d1 : decide (0 ≤ a) = false) (w : World) :
    Calls Tryz.prog 110 #[.agg #[.int .i64 23, .int .i64 a, .int .i64 0]] w fun e w' => e = .returned (.bool false) ∧ Below w.heap.size w w' := by
  have g1 : S.toList.isEmpty = false := by simpa using g2
  have g3 : (S.toList == []) = false := by simpa using g2
  have G := (Below.refl w.heap.size w).alloc (Nat.le_refl _) (.cells #[.int .i64 23, .int .i64 a, .int .i64 0] 70)
  go_enter Tryz.func110, Tryz.ntmps110
  go_wp2_with fail
  refine (C1.out _).mono ?_; rintro e w1 ⟨rfl, hb⟩
  have k0 := hb.cell (p := ⟨w.heap.size, 0, none⟩) (by simp)
  have k1 := hb.cell (p := ⟨w.heap.size, 1, none⟩) (by simp)
  have k2 := hb.cell (p := ⟨w.heap.size, 2, none⟩) (by simp)
  have hz := hb.size
  simp at k0 k1 k2 hz
  have hl : w.heap.size < w1.heap.size := by omega
  clear hz
  replace G := G.trans (hb.mono G.size); clear hb
  go_wp2_with fail
  refine (C2.out _).mono ?_; rintro e w2 ⟨rfl, hb⟩
  replace k0 := (hb.cell (p := ⟨w.heap.size, 0, none⟩) hl).trans k0
  replace k1 := (hb.cell (p := ⟨w.heap.size, 1, none⟩) hl).trans k1
  replace k2 := (hb.cell (p := ⟨w.heap.size, 2, none⟩) hl).trans k2
  replace hl := Nat.lt_of_lt_of_le hl hb.size
  replace G := G.trans (hb.mono G.size); clear hb
  go_wp2_with fail
  refine (C2.out _).mono ?_; rintro e w3 ⟨rfl, hb⟩
  replace k0 := (hb.cell (p := ⟨w.heap.size, 0, none⟩) hl).trans k0
  replace k1 := (hb.cell (p := ⟨w.heap.size, 1, none⟩) hl).trans k1
  replace k2 := (hb.cell (p := ⟨w.heap.size, 2, none⟩) hl).trans k2
  replace hl := Nat.lt_of_lt_of_le hl hb.size
  replace G := G.trans (hb.mono G.size); clear hb
  go_wp2
  go_ret
  exact ⟨rfl, G⟩
set_option maxHeartbeats 1000000 in
set_option maxRecDepth 100000 in
theorem rr_23hi (a : Int) (S : ByteArray) (C1 : Hid (∀ W, Calls Tryz.prog 139 #[.int .i64 23] W fun e w' => e = .returned (.string S) ∧ Below W.heap.size W w')) (C2 : Hid (∀ W, Calls Tryz.prog 140 #[.int .i64 23] W fun e w' => e = .returned (.int .i64 1) ∧ Below W.heap.size W w')) (g2 : ¬ S.toList = []) (h1 : 0 ≤ a) (d1 : decide (0 ≤ a) = true) (h2 : 7 < a) (d2 : decide (a ≤ 7) = false) (w : World) :
    Calls Tryz.prog 110 #[.agg #[.int .i64 23, .int .i64 a, .int .i64 0]] w fun e w' => e = .returned (.bool false) ∧ Below w.heap.size w w' := by
  have g1 : S.toList.isEmpty = false := by simpa using g2
  have g3 : (S.toList == []) = false := by simpa using g2
  have G := (Below.refl w.heap.size w).alloc (Nat.le_refl _) (.cells #[.int .i64 23, .int .i64 a, .int .i64 0] 70)
  go_enter Tryz.func110, Tryz.ntmps110
  go_wp2_with fail
  refine (C1.out _).mono ?_; rintro e w1 ⟨rfl, hb⟩
  have k0 := hb.cell (p := ⟨w.heap.size, 0, none⟩) (by simp)
  have k1 := hb.cell (p := ⟨w.heap.size, 1, none⟩) (by simp)
  have k2 := hb.cell (p := ⟨w.heap.size, 2, none⟩) (by simp)
  have hz := hb.size
  simp at k0 k1 k2 hz
  have hl : w.heap.size < w1.heap.size := by omega
  clear hz
  replace G := G.trans (hb.mono G.size); clear hb
  go_wp2_with fail
  refine (C2.out _).mono ?_; rintro e w2 ⟨rfl, hb⟩
  replace k0 := (hb.cell (p := ⟨w.heap.size, 0, none⟩) hl).trans k0
  replace k1 := (hb.cell (p := ⟨w.heap.size, 1, none⟩) hl).trans k1
  replace k2 := (hb.cell (p := ⟨w.heap.size, 2, none⟩) hl).trans k2
  replace hl := Nat.lt_of_lt_of_le hl hb.size
  replace G := G.trans (hb.mono G.size); clear hb
  go_wp2_with fail
  refine (C2.out _).mono ?_; rintro e w3 ⟨rfl, hb⟩
  replace k0 := (hb.cell (p := ⟨w.heap.size, 0, none⟩) hl).trans k0
  replace k1 := (hb.cell (p := ⟨w.heap.size, 1, none⟩) hl).trans k1
  replace k2 := (hb.cell (p := ⟨w.heap.size, 2, none⟩) hl).trans k2
  replace hl := Nat.lt_of_lt_of_le hl hb.size
  replace G := G.trans (hb.mono G.size); clear hb
  go_wp2
  go_ret
  exact ⟨rfl, G⟩
set_option maxHeartbeats 1000000 in
set_option maxRecDepth 100000 in
theorem rr_23ok (a : Int) (S : ByteArray) (C1 : Hid (∀ W, Calls Tryz.prog 139 #[.int .i64 23] W fun e w' => e = .returned (.string S) ∧ Below W.heap.size W w')) (C2 : Hid (∀ W, Calls Tryz.prog 140 #[.int .i64 23] W fun e w' => e = .returned (.int .i64 1) ∧ Below W.heap.size W w')) (g2 : ¬ S.toList = []) (h1 : 0 ≤ a) (d1 : decide (0 ≤ a) = true) (h2 : a ≤ 7) (d2 : decide (a ≤ 7) = true) (w : World) :
    Calls Tryz.prog 110 #[.agg #[.int .i64 23, .int .i64 a, .int .i64 0]] w fun e w' => e = .returned (.bool true) ∧ Below w.heap.size w w' := by
  have g1 : S.toList.isEmpty = false := by simpa using g2
  have g3 : (S.toList == []) = false := by simpa using g2
  have G := (Below.refl w.heap.size w).alloc (Nat.le_refl _) (.cells #[.int .i64 23, .int .i64 a, .int .i64 0] 70)
  go_enter Tryz.func110, Tryz.ntmps110
  go_wp2_with fail
  refine (C1.out _).mono ?_; rintro e w1 ⟨rfl, hb⟩
  have k0 := hb.cell (p := ⟨w.heap.size, 0, none⟩) (by simp)
  have k1 := hb.cell (p := ⟨w.heap.size, 1, none⟩) (by simp)
  have k2 := hb.cell (p := ⟨w.heap.size, 2, none⟩) (by simp)
  have hz := hb.size
  simp at k0 k1 k2 hz
  have hl : w.heap.size < w1.heap.size := by omega
  clear hz
  replace G := G.trans (hb.mono G.size); clear hb
  go_wp2_with fail
  refine (C2.out _).mono ?_; rintro e w2 ⟨rfl, hb⟩
  replace k0 := (hb.cell (p := ⟨w.heap.size, 0, none⟩) hl).trans k0
  replace k1 := (hb.cell (p := ⟨w.heap.size, 1, none⟩) hl).trans k1
  replace k2 := (hb.cell (p := ⟨w.heap.size, 2, none⟩) hl).trans k2
  replace hl := Nat.lt_of_lt_of_le hl hb.size
  replace G := G.trans (hb.mono G.size); clear hb
  go_wp2_with fail
  refine (C2.out _).mono ?_; rintro e w3 ⟨rfl, hb⟩
  replace k0 := (hb.cell (p := ⟨w.heap.size, 0, none⟩) hl).trans k0
  replace k1 := (hb.cell (p := ⟨w.heap.size, 1, none⟩) hl).trans k1
  replace k2 := (hb.cell (p := ⟨w.heap.size, 2, none⟩) hl).trans k2
  replace hl := Nat.lt_of_lt_of_le hl hb.size
  replace G := G.trans (hb.mono G.size); clear hb
  go_wp2
  go_ret
  exact ⟨rfl, G⟩
set_option maxHeartbeats 1000000 in
set_option maxRecDepth 100000 in
theorem rr_24lo (a : Int) (S : ByteArray) (C1 : Hid (∀ W, Calls Tryz.prog 139 #[.int .i64 24] W fun e w' => e = .returned (.string S) ∧ Below W.heap.size W w')) (C2 : Hid (∀ W, Calls Tryz.prog 140 #[.int .i64 24] W fun e w' => e = .returned (.int .i64 1) ∧ Below W.heap.size W w')) (g2 : ¬ S.toList = []) (h1 : a < 0) (d1 : decide (0 ≤ a) = false) (w : World) :
    Calls Tryz.prog 110 #[.agg #[.int .i64 24, .int .i64 a, .int .i64 0]] w fun e w' => e = .returned (.bool false) ∧ Below w.heap.size w w' := by
  have g1 : S.toList.isEmpty = false := by simpa using g2
  have g3 : (S.toList == []) = false := by simpa using g2
  have G := (Below.refl w.heap.size w).alloc (Nat.le_refl _) (.cells #[.int .i64 24, .int .i64 a, .int .i64 0] 70)
  go_enter Tryz.func110, Tryz.ntmps110
  go_wp2_with fail
  refine (C1.out _).mono ?_; rintro e w1 ⟨rfl, hb⟩
  have k0 := hb.cell (p := ⟨w.heap.size, 0, none⟩) (by simp)
  have k1 := hb.cell (p := ⟨w.heap.size, 1, none⟩) (by simp)
  have k2 := hb.cell (p := ⟨w.heap.size, 2, none⟩) (by simp)
  have hz := hb.size
  simp at k0 k1 k2 hz
  have hl : w.heap.size < w1.heap.size := by omega
  clear hz
  replace G := G.trans (hb.mono G.size); clear hb
  go_wp2_with fail
  refine (C2.out _).mono ?_; rintro e w2 ⟨rfl, hb⟩
  replace k0 := (hb.cell (p := ⟨w.heap.size, 0, none⟩) hl).trans k0
  replace k1 := (hb.cell (p := ⟨w.heap.size, 1, none⟩) hl).trans k1
  replace k2 := (hb.cell (p := ⟨w.heap.size, 2, none⟩) hl).trans k2
  replace hl := Nat.lt_of_lt_of_le hl hb.size
  replace G := G.trans (hb.mono G.size); clear hb
  go_wp2_with fail
  refine (C2.out _).mono ?_; rintro e w3 ⟨rfl, hb⟩
  replace k0 := (hb.cell (p := ⟨w.heap.size, 0, none⟩) hl).trans k0
  replace k1 := (hb.cell (p := ⟨w.heap.size, 1, none⟩) hl).trans k1
  replace k2 := (hb.cell (p := ⟨w.heap.size, 2, none⟩) hl).trans k2
  replace hl := Nat.lt_of_lt_of_le hl hb.size
  replace G := G.trans (hb.mono G.size); clear hb
  go_wp2
  go_ret
  exact ⟨rfl, G⟩
set_option maxHeartbeats 1000000 in
set_option maxRecDepth 100000 in
theorem rr_24hi (a : Int) (S : ByteArray) (C1 : Hid (∀ W, Calls Tryz.prog 139 #[.int .i64 24] W fun e w' => e = .returned (.string S) ∧ Below W.heap.size W w')) (C2 : Hid (∀ W, Calls Tryz.prog 140 #[.int .i64 24] W fun e w' => e = .returned (.int .i64 1) ∧ Below W.heap.size W w')) (g2 : ¬ S.toList = []) (h1 : 0 ≤ a) (d1 : decide (0 ≤ a) = true) (h2 : 7 < a) (d2 : decide (a ≤ 7) = false) (w : World) :
    Calls Tryz.prog 110 #[.agg #[.int .i64 24, .int .i64 a, .int .i64 0]] w fun e w' => e = .returned (.bool false) ∧ Below w.heap.size w w' := by
  have g1 : S.toList.isEmpty = false := by simpa using g2
  have g3 : (S.toList == []) = false := by simpa using g2
  have G := (Below.refl w.heap.size w).alloc (Nat.le_refl _) (.cells #[.int .i64 24, .int .i64 a, .int .i64 0] 70)
  go_enter Tryz.func110, Tryz.ntmps110
  go_wp2_with fail
  refine (C1.out _).mono ?_; rintro e w1 ⟨rfl, hb⟩
  have k0 := hb.cell (p := ⟨w.heap.size, 0, none⟩) (by simp)
  have k1 := hb.cell (p := ⟨w.heap.size, 1, none⟩) (by simp)
  have k2 := hb.cell (p := ⟨w.heap.size, 2, none⟩) (by simp)
  have hz := hb.size
  simp at k0 k1 k2 hz
  have hl : w.heap.size < w1.heap.size := by omega
  clear hz
  replace G := G.trans (hb.mono G.size); clear hb
  go_wp2_with fail
  refine (C2.out _).mono ?_; rintro e w2 ⟨rfl, hb⟩
  replace k0 := (hb.cell (p := ⟨w.heap.size, 0, none⟩) hl).trans k0
  replace k1 := (hb.cell (p := ⟨w.heap.size, 1, none⟩) hl).trans k1
  replace k2 := (hb.cell (p := ⟨w.heap.size, 2, none⟩) hl).trans k2
  replace hl := Nat.lt_of_lt_of_le hl hb.size
  replace G := G.trans (hb.mono G.size); clear hb
  go_wp2_with fail
  refine (C2.out _).mono ?_; rintro e w3 ⟨rfl, hb⟩
  replace k0 := (hb.cell (p := ⟨w.heap.size, 0, none⟩) hl).trans k0
  replace k1 := (hb.cell (p := ⟨w.heap.size, 1, none⟩) hl).trans k1
  replace k2 := (hb.cell (p := ⟨w.heap.size, 2, none⟩) hl).trans k2
  replace hl := Nat.lt_of_lt_of_le hl hb.size
  replace G := G.trans (hb.mono G.size); clear hb
  go_wp2
  go_ret
  exact ⟨rfl, G⟩
set_option maxHeartbeats 1000000 in
set_option maxRecDepth 100000 in
theorem rr_24ok (a : Int) (S : ByteArray) (C1 : Hid (∀ W, Calls Tryz.prog 139 #[.int .i64 24] W fun e w' => e = .returned (.string S) ∧ Below W.heap.size W w')) (C2 : Hid (∀ W, Calls Tryz.prog 140 #[.int .i64 24] W fun e w' => e = .returned (.int .i64 1) ∧ Below W.heap.size W w')) (g2 : ¬ S.toList = []) (h1 : 0 ≤ a) (d1 : decide (0 ≤ a) = true) (h2 : a ≤ 7) (d2 : decide (a ≤ 7) = true) (w : World) :
    Calls Tryz.prog 110 #[.agg #[.int .i64 24, .int .i64 a, .int .i64 0]] w fun e w' => e = .returned (.bool true) ∧ Below w.heap.size w w' := by
  have g1 : S.toList.isEmpty = false := by simpa using g2
  have g3 : (S.toList == []) = false := by simpa using g2
  have G := (Below.refl w.heap.size w).alloc (Nat.le_refl _) (.cells #[.int .i64 24, .int .i64 a, .int .i64 0] 70)
  go_enter Tryz.func110, Tryz.ntmps110
  go_wp2_with fail
  refine (C1.out _).mono ?_; rintro e w1 ⟨rfl, hb⟩
  have k0 := hb.cell (p := ⟨w.heap.size, 0, none⟩) (by simp)
  have k1 := hb.cell (p := ⟨w.heap.size, 1, none⟩) (by simp)
  have k2 := hb.cell (p := ⟨w.heap.size, 2, none⟩) (by simp)
  have hz := hb.size
  simp at k0 k1 k2 hz
  have hl : w.heap.size < w1.heap.size := by omega
  clear hz
  replace G := G.trans (hb.mono G.size); clear hb
  go_wp2_with fail
  refine (C2.out _).mono ?_; rintro e w2 ⟨rfl, hb⟩
  replace k0 := (hb.cell (p := ⟨w.heap.size, 0, none⟩) hl).trans k0
  replace k1 := (hb.cell (p := ⟨w.heap.size, 1, none⟩) hl).trans k1
  replace k2 := (hb.cell (p := ⟨w.heap.size, 2, none⟩) hl).trans k2
  replace hl := Nat.lt_of_lt_of_le hl hb.size
  replace G := G.trans (hb.mono G.size); clear hb
  go_wp2_with fail
  refine (C2.out _).mono ?_; rintro e w3 ⟨rfl, hb⟩
  replace k0 := (hb.cell (p := ⟨w.heap.size, 0, none⟩) hl).trans k0
  replace k1 := (hb.cell (p := ⟨w.heap.size, 1, none⟩) hl).trans k1
  replace k2 := (hb.cell (p := ⟨w.heap.size, 2, none⟩) hl).trans k2
  replace hl := Nat.lt_of_lt_of_le hl hb.size
  replace G := G.trans (hb.mono G.size); clear hb
  go_wp2
  go_ret
  exact ⟨rfl, G⟩
set_option maxHeartbeats 1000000 in
set_option maxRecDepth 100000 in
theorem rr_17lo (a b : Int) (S : ByteArray) (C1 : Hid (∀ W, Calls Tryz.prog 139 #[.int .i64 17] W fun e w' => e = .returned (.string S) ∧ Below W.heap.size W w')) (C2 : Hid (∀ W, Calls Tryz.prog 140 #[.int .i64 17] W fun e w' => e = .returned (.int .i64 2) ∧ Below W.heap.size W w')) (g2 : ¬ S.toList = []) (h1 : a < 0) (d1 : decide (0 ≤ a) = false) (w : World) :
    Calls Tryz.prog 110 #[.agg #[.int .i64 17, .int .i64 a, .int .i64 b]] w fun e w' => e = .returned (.bool false) ∧ Below w.heap.size w w' := by
  have g1 : S.toList.isEmpty = false := by simpa using g2
  have g3 : (S.toList == []) = false := by simpa using g2
  have G := (Below.refl w.heap.size w).alloc (Nat.le_refl _) (.cells #[.int .i64 17, .int .i64 a, .int .i64 b] 70)
  go_enter Tryz.func110, Tryz.ntmps110
  go_wp2_with fail
  refine (C1.out _).mono ?_; rintro e w1 ⟨rfl, hb⟩
  have k0 := hb.cell (p := ⟨w.heap.size, 0, none⟩) (by simp)
  have k1 := hb.cell (p := ⟨w.heap.size, 1, none⟩) (by simp)
  have k2 := hb.cell (p := ⟨w.heap.size, 2, none⟩) (by simp)
  have hz := hb.size
  simp at k0 k1 k2 hz
  have hl : w.heap.size < w1.heap.size := by omega
  clear hz
  replace G := G.trans (hb.mono G.size); clear hb
  go_wp2_with fail
  refine (C2.out _).mono ?_; rintro e w2 ⟨rfl, hb⟩
  replace k0 := (hb.cell (p := ⟨w.heap.size, 0, none⟩) hl).trans k0
  replace k1 := (hb.cell (p := ⟨w.heap.size, 1, none⟩) hl).trans k1
  replace k2 := (hb.cell (p := ⟨w.heap.size, 2, none⟩) hl).trans k2
  replace hl := Nat.lt_of_lt_of_le hl hb.size
  replace G := G.trans (hb.mono G.size); clear hb
  go_wp2_with fail
  refine (C2.out _).mono ?_; rintro e w3 ⟨rfl, hb⟩
  replace k0 := (hb.cell (p := ⟨w.heap.size, 0, none⟩) hl).trans k0
  replace k1 := (hb.cell (p := ⟨w.heap.size, 1, none⟩) hl).trans k1
  replace k2 := (hb.cell (p := ⟨w.heap.size, 2, none⟩) hl).trans k2
  replace hl := Nat.lt_of_lt_of_le hl hb.size
  replace G := G.trans (hb.mono G.size); clear hb
  go_wp2
  go_ret
  exact ⟨rfl, G⟩
set_option maxHeartbeats 1000000 in
set_option maxRecDepth 100000 in
theorem rr_17hi (a b : Int) (S : ByteArray) (C1 : Hid (∀ W, Calls Tryz.prog 139 #[.int .i64 17] W fun e w' => e = .returned (.string S) ∧ Below W.heap.size W w')) (C2 : Hid (∀ W, Calls Tryz.prog 140 #[.int .i64 17] W fun e w' => e = .returned (.int .i64 2) ∧ Below W.heap.size W w')) (g2 : ¬ S.toList = []) (h1 : 0 ≤ a) (d1 : decide (0 ≤ a) = true) (h2 : 7 < a) (d2 : decide (a ≤ 7) = false) (w : World) :
    Calls Tryz.prog 110 #[.agg #[.int .i64 17, .int .i64 a, .int .i64 b]] w fun e w' => e = .returned (.bool false) ∧ Below w.heap.size w w' := by
  have g1 : S.toList.isEmpty = false := by simpa using g2
  have g3 : (S.toList == []) = false := by simpa using g2
  have G := (Below.refl w.heap.size w).alloc (Nat.le_refl _) (.cells #[.int .i64 17, .int .i64 a, .int .i64 b] 70)
  go_enter Tryz.func110, Tryz.ntmps110
  go_wp2_with fail
  refine (C1.out _).mono ?_; rintro e w1 ⟨rfl, hb⟩
  have k0 := hb.cell (p := ⟨w.heap.size, 0, none⟩) (by simp)
  have k1 := hb.cell (p := ⟨w.heap.size, 1, none⟩) (by simp)
  have k2 := hb.cell (p := ⟨w.heap.size, 2, none⟩) (by simp)
  have hz := hb.size
  simp at k0 k1 k2 hz
  have hl : w.heap.size < w1.heap.size := by omega
  clear hz
  replace G := G.trans (hb.mono G.size); clear hb
  go_wp2_with fail
  refine (C2.out _).mono ?_; rintro e w2 ⟨rfl, hb⟩
  replace k0 := (hb.cell (p := ⟨w.heap.size, 0, none⟩) hl).trans k0
  replace k1 := (hb.cell (p := ⟨w.heap.size, 1, none⟩) hl).trans k1
  replace k2 := (hb.cell (p := ⟨w.heap.size, 2, none⟩) hl).trans k2
  replace hl := Nat.lt_of_lt_of_le hl hb.size
  replace G := G.trans (hb.mono G.size); clear hb
  go_wp2_with fail
  refine (C2.out _).mono ?_; rintro e w3 ⟨rfl, hb⟩
  replace k0 := (hb.cell (p := ⟨w.heap.size, 0, none⟩) hl).trans k0
  replace k1 := (hb.cell (p := ⟨w.heap.size, 1, none⟩) hl).trans k1
  replace k2 := (hb.cell (p := ⟨w.heap.size, 2, none⟩) hl).trans k2
  replace hl := Nat.lt_of_lt_of_le hl hb.size
  replace G := G.trans (hb.mono G.size); clear hb
  go_wp2
  go_ret
  exact ⟨rfl, G⟩
set_option maxHeartbeats 1000000 in
set_option maxRecDepth 100000 in
theorem rr_17blo (a b : Int) (S : ByteArray) (C1 : Hid (∀ W, Calls Tryz.prog 139 #[.int .i64 17] W fun e w' => e = .returned (.string S) ∧ Below W.heap.size W w')) (C2 : Hid (∀ W, Calls Tryz.prog 140 #[.int .i64 17] W fun e w' => e = .returned (.int .i64 2) ∧ Below W.heap.size W w')) (g2 : ¬ S.toList = []) (h1 : 0 ≤ a) (d1 : decide (0 ≤ a) = true) (h2 : a ≤ 7) (d2 : decide (a ≤ 7) = true) (h3 : b < 0) (d3 : decide (0 ≤ b) = false) (w : World) :
    Calls Tryz.prog 110 #[.agg #[.int .i64 17, .int .i64 a, .int .i64 b]] w fun e w' => e = .returned (.bool false) ∧ Below w.heap.size w w' := by
  have g1 : S.toList.isEmpty = false := by simpa using g2
  have g3 : (S.toList == []) = false := by simpa using g2
  have G := (Below.refl w.heap.size w).alloc (Nat.le_refl _) (.cells #[.int .i64 17, .int .i64 a, .int .i64 b] 70)
  go_enter Tryz.func110, Tryz.ntmps110
  go_wp2_with fail
  refine (C1.out _).mono ?_; rintro e w1 ⟨rfl, hb⟩
  have k0 := hb.cell (p := ⟨w.heap.size, 0, none⟩) (by simp)
  have k1 := hb.cell (p := ⟨w.heap.size, 1, none⟩) (by simp)
  have k2 := hb.cell (p := ⟨w.heap.size, 2, none⟩) (by simp)
  have hz := hb.size
  simp at k0 k1 k2 hz
  have hl : w.heap.size < w1.heap.size := by omega
  clear hz
  replace G := G.trans (hb.mono G.size); clear hb
  go_wp2_with fail
  refine (C2.out _).mono ?_; rintro e w2 ⟨rfl, hb⟩
  replace k0 := (hb.cell (p := ⟨w.heap.size, 0, none⟩) hl).trans k0
  replace k1 := (hb.cell (p := ⟨w.heap.size, 1, none⟩) hl).trans k1
  replace k2 := (hb.cell (p := ⟨w.heap.size, 2, none⟩) hl).trans k2
  replace hl := Nat.lt_of_lt_of_le hl hb.size
  replace G := G.trans (hb.mono G.size); clear hb
  go_wp2_with fail
  refine (C2.out _).mono ?_; rintro e w3 ⟨rfl, hb⟩
  replace k0 := (hb.cell (p := ⟨w.heap.size, 0, none⟩) hl).trans k0
  replace k1 := (hb.cell (p := ⟨w.heap.size, 1, none⟩) hl).trans k1
  replace k2 := (hb.cell (p := ⟨w.heap.size, 2, none⟩) hl).trans k2
  replace hl := Nat.lt_of_lt_of_le hl hb.size
  replace G := G.trans (hb.mono G.size); clear hb
  go_wp2
  go_ret
  exact ⟨rfl, G⟩
set_option maxHeartbeats 1000000 in
set_option maxRecDepth 100000 in
theorem rr_17bhi (a b : Int) (S : ByteArray) (C1 : Hid (∀ W, Calls Tryz.prog 139 #[.int .i64 17] W fun e w' => e = .returned (.string S) ∧ Below W.heap.size W w')) (C2 : Hid (∀ W, Calls Tryz.prog 140 #[.int .i64 17] W fun e w' => e = .returned (.int .i64 2) ∧ Below W.heap.size W w')) (g2 : ¬ S.toList = []) (h1 : 0 ≤ a) (d1 : decide (0 ≤ a) = true) (h2 : a ≤ 7) (d2 : decide (a ≤ 7) = true) (h3 : 0 ≤ b) (d3 : decide (0 ≤ b) = true) (h4 : 7 < b) (d4 : decide (b ≤ 7) = false) (w : World) :
    Calls Tryz.prog 110 #[.agg #[.int .i64 17, .int .i64 a, .int .i64 b]] w fun e w' => e = .returned (.bool false) ∧ Below w.heap.size w w' := by
  have g1 : S.toList.isEmpty = false := by simpa using g2
  have g3 : (S.toList == []) = false := by simpa using g2
  have G := (Below.refl w.heap.size w).alloc (Nat.le_refl _) (.cells #[.int .i64 17, .int .i64 a, .int .i64 b] 70)
  go_enter Tryz.func110, Tryz.ntmps110
  go_wp2_with fail
  refine (C1.out _).mono ?_; rintro e w1 ⟨rfl, hb⟩
  have k0 := hb.cell (p := ⟨w.heap.size, 0, none⟩) (by simp)
  have k1 := hb.cell (p := ⟨w.heap.size, 1, none⟩) (by simp)
  have k2 := hb.cell (p := ⟨w.heap.size, 2, none⟩) (by simp)
  have hz := hb.size
  simp at k0 k1 k2 hz
  have hl : w.heap.size < w1.heap.size := by omega
  clear hz
  replace G := G.trans (hb.mono G.size); clear hb
  go_wp2_with fail
  refine (C2.out _).mono ?_; rintro e w2 ⟨rfl, hb⟩
  replace k0 := (hb.cell (p := ⟨w.heap.size, 0, none⟩) hl).trans k0
  replace k1 := (hb.cell (p := ⟨w.heap.size, 1, none⟩) hl).trans k1
  replace k2 := (hb.cell (p := ⟨w.heap.size, 2, none⟩) hl).trans k2
  replace hl := Nat.lt_of_lt_of_le hl hb.size
  replace G := G.trans (hb.mono G.size); clear hb
  go_wp2_with fail
  refine (C2.out _).mono ?_; rintro e w3 ⟨rfl, hb⟩
  replace k0 := (hb.cell (p := ⟨w.heap.size, 0, none⟩) hl).trans k0
  replace k1 := (hb.cell (p := ⟨w.heap.size, 1, none⟩) hl).trans k1
  replace k2 := (hb.cell (p := ⟨w.heap.size, 2, none⟩) hl).trans k2
  replace hl := Nat.lt_of_lt_of_le hl hb.size
  replace G := G.trans (hb.mono G.size); clear hb
  go_wp2
  go_ret
  exact ⟨rfl, G⟩
set_option maxHeartbeats 1000000 in
set_option maxRecDepth 100000 in
theorem rr_17ok (a b : Int) (S : ByteArray) (C1 : Hid (∀ W, Calls Tryz.prog 139 #[.int .i64 17] W fun e w' => e = .returned (.string S) ∧ Below W.heap.size W w')) (C2 : Hid (∀ W, Calls Tryz.prog 140 #[.int .i64 17] W fun e w' => e = .returned (.int .i64 2) ∧ Below W.heap.size W w')) (g2 : ¬ S.toList = []) (h1 : 0 ≤ a) (d1 : decide (0 ≤ a) = true) (h2 : a ≤ 7) (d2 : decide (a ≤ 7) = true) (h3 : 0 ≤ b) (d3 : decide (0 ≤ b) = true) (h4 : b ≤ 7) (d4 : decide (b ≤ 7) = true) (w : World) :
    Calls Tryz.prog 110 #[.agg #[.int .i64 17, .int .i64 a, .int .i64 b]] w fun e w' => e = .returned (.bool true) ∧ Below w.heap.size w w' := by
  have g1 : S.toList.isEmpty = false := by simpa using g2
  have g3 : (S.toList == []) = false := by simpa using g2
  have G := (Below.refl w.heap.size w).alloc (Nat.le_refl _) (.cells #[.int .i64 17, .int .i64 a, .int .i64 b] 70)
  go_enter Tryz.func110, Tryz.ntmps110
  go_wp2_with fail
  refine (C1.out _).mono ?_; rintro e w1 ⟨rfl, hb⟩
  have k0 := hb.cell (p := ⟨w.heap.size, 0, none⟩) (by simp)
  have k1 := hb.cell (p := ⟨w.heap.size, 1, none⟩) (by simp)
  have k2 := hb.cell (p := ⟨w.heap.size, 2, none⟩) (by simp)
  have hz := hb.size
  simp at k0 k1 k2 hz
  have hl : w.heap.size < w1.heap.size := by omega
  clear hz
  replace G := G.trans (hb.mono G.size); clear hb
  go_wp2_with fail
  refine (C2.out _).mono ?_; rintro e w2 ⟨rfl, hb⟩
  replace k0 := (hb.cell (p := ⟨w.heap.size, 0, none⟩) hl).trans k0
  replace k1 := (hb.cell (p := ⟨w.heap.size, 1, none⟩) hl).trans k1
  replace k2 := (hb.cell (p := ⟨w.heap.size, 2, none⟩) hl).trans k2
  replace hl := Nat.lt_of_lt_of_le hl hb.size
  replace G := G.trans (hb.mono G.size); clear hb
  go_wp2_with fail
  refine (C2.out _).mono ?_; rintro e w3 ⟨rfl, hb⟩
  replace k0 := (hb.cell (p := ⟨w.heap.size, 0, none⟩) hl).trans k0
  replace k1 := (hb.cell (p := ⟨w.heap.size, 1, none⟩) hl).trans k1
  replace k2 := (hb.cell (p := ⟨w.heap.size, 2, none⟩) hl).trans k2
  replace hl := Nat.lt_of_lt_of_le hl hb.size
  replace G := G.trans (hb.mono G.size); clear hb
  go_wp2
  go_ret
  exact ⟨rfl, G⟩
set_option maxHeartbeats 1000000 in
set_option maxRecDepth 100000 in
theorem rr_18lo (a b : Int) (S : ByteArray) (C1 : Hid (∀ W, Calls Tryz.prog 139 #[.int .i64 18] W fun e w' => e = .returned (.string S) ∧ Below W.heap.size W w')) (C2 : Hid (∀ W, Calls Tryz.prog 140 #[.int .i64 18] W fun e w' => e = .returned (.int .i64 2) ∧ Below W.heap.size W w')) (g2 : ¬ S.toList = []) (h1 : a < 0) (d1 : decide (0 ≤ a) = false) (w : World) :
    Calls Tryz.prog 110 #[.agg #[.int .i64 18, .int .i64 a, .int .i64 b]] w fun e w' => e = .returned (.bool false) ∧ Below w.heap.size w w' := by
  have g1 : S.toList.isEmpty = false := by simpa using g2
  have g3 : (S.toList == []) = false := by simpa using g2
  have G := (Below.refl w.heap.size w).alloc (Nat.le_refl _) (.cells #[.int .i64 18, .int .i64 a, .int .i64 b] 70)
  go_enter Tryz.func110, Tryz.ntmps110
  go_wp2_with fail
  refine (C1.out _).mono ?_; rintro e w1 ⟨rfl, hb⟩
  have k0 := hb.cell (p := ⟨w.heap.size, 0, none⟩) (by simp)
  have k1 := hb.cell (p := ⟨w.heap.size, 1, none⟩) (by simp)
  have k2 := hb.cell (p := ⟨w.heap.size, 2, none⟩) (by simp)
  have hz := hb.size
  simp at k0 k1 k2 hz
  have hl : w.heap.size < w1.heap.size := by omega
  clear hz
  replace G := G.trans (hb.mono G.size); clear hb
  go_wp2_with fail
  refine (C2.out _).mono ?_; rintro e w2 ⟨rfl, hb⟩
  replace k0 := (hb.cell (p := ⟨w.heap.size, 0, none⟩) hl).trans k0
  replace k1 := (hb.cell (p := ⟨w.heap.size, 1, none⟩) hl).trans k1
  replace k2 := (hb.cell (p := ⟨w.heap.size, 2, none⟩) hl).trans k2
  replace hl := Nat.lt_of_lt_of_le hl hb.size
  replace G := G.trans (hb.mono G.size); clear hb
  go_wp2_with fail
  refine (C2.out _).mono ?_; rintro e w3 ⟨rfl, hb⟩
  replace k0 := (hb.cell (p := ⟨w.heap.size, 0, none⟩) hl).trans k0
  replace k1 := (hb.cell (p := ⟨w.heap.size, 1, none⟩) hl).trans k1
  replace k2 := (hb.cell (p := ⟨w.heap.size, 2, none⟩) hl).trans k2
  replace hl := Nat.lt_of_lt_of_le hl hb.size
  replace G := G.trans (hb.mono G.size); clear hb
  go_wp2
  go_ret
  exact ⟨rfl, G⟩
set_option maxHeartbeats 1000000 in
set_option maxRecDepth 100000 in
theorem rr_18hi (a b : Int) (S : ByteArray) (C1 : Hid (∀ W, Calls Tryz.prog 139 #[.int .i64 18] W fun e w' => e = .returned (.string S) ∧ Below W.heap.size W w')) (C2 : Hid (∀ W, Calls Tryz.prog 140 #[.int .i64 18] W fun e w' => e = .returned (.int .i64 2) ∧ Below W.heap.size W w')) (g2 : ¬ S.toList = []) (h1 : 0 ≤ a) (d1 : decide (0 ≤ a) = true) (h2 : 7 < a) (d2 : decide (a ≤ 7) = false) (w : World) :
    Calls Tryz.prog 110 #[.agg #[.int .i64 18, .int .i64 a, .int .i64 b]] w fun e w' => e = .returned (.bool false) ∧ Below w.heap.size w w' := by
  have g1 : S.toList.isEmpty = false := by simpa using g2
  have g3 : (S.toList == []) = false := by simpa using g2
  have G := (Below.refl w.heap.size w).alloc (Nat.le_refl _) (.cells #[.int .i64 18, .int .i64 a, .int .i64 b] 70)
  go_enter Tryz.func110, Tryz.ntmps110
  go_wp2_with fail
  refine (C1.out _).mono ?_; rintro e w1 ⟨rfl, hb⟩
  have k0 := hb.cell (p := ⟨w.heap.size, 0, none⟩) (by simp)
  have k1 := hb.cell (p := ⟨w.heap.size, 1, none⟩) (by simp)
  have k2 := hb.cell (p := ⟨w.heap.size, 2, none⟩) (by simp)
  have hz := hb.size
  simp at k0 k1 k2 hz
  have hl : w.heap.size < w1.heap.size := by omega
  clear hz
  replace G := G.trans (hb.mono G.size); clear hb
  go_wp2_with fail
  refine (C2.out _).mono ?_; rintro e w2 ⟨rfl, hb⟩
  replace k0 := (hb.cell (p := ⟨w.heap.size, 0, none⟩) hl).trans k0
  replace k1 := (hb.cell (p := ⟨w.heap.size, 1, none⟩) hl).trans k1
  replace k2 := (hb.cell (p := ⟨w.heap.size, 2, none⟩) hl).trans k2
  replace hl := Nat.lt_of_lt_of_le hl hb.size
  replace G := G.trans (hb.mono G.size); clear hb
  go_wp2_with fail
  refine (C2.out _).mono ?_; rintro e w3 ⟨rfl, hb⟩
  replace k0 := (hb.cell (p := ⟨w.heap.size, 0, none⟩) hl).trans k0
  replace k1 := (hb.cell (p := ⟨w.heap.size, 1, none⟩) hl).trans k1
  replace k2 := (hb.cell (p := ⟨w.heap.size, 2, none⟩) hl).trans k2
  replace hl := Nat.lt_of_lt_of_le hl hb.size
  replace G := G.trans (hb.mono G.size); clear hb
  go_wp2
  go_ret
  exact ⟨rfl, G⟩
set_option maxHeartbeats 1000000 in
set_option maxRecDepth 100000 in
theorem rr_18blo (a b : Int) (S : ByteArray) (C1 : Hid (∀ W, Calls Tryz.prog 139 #[.int .i64 18] W fun e w' => e = .returned (.string S) ∧ Below W.heap.size W w')) (C2 : Hid (∀ W, Calls Tryz.prog 140 #[.int .i64 18] W fun e w' => e = .returned (.int .i64 2) ∧ Below W.heap.size W w')) (g2 : ¬ S.toList = []) (h1 : 0 ≤ a) (d1 : decide (0 ≤ a) = true) (h2 : a ≤ 7) (d2 : decide (a ≤ 7) = true) (h3 : b < 0) (d3 : decide (0 ≤ b) = false) (w : World) :
    Calls Tryz.prog 110 #[.agg #[.int .i64 18, .int .i64 a, .int .i64 b]] w fun e w' => e = .returned (.bool false) ∧ Below w.heap.size w w' := by
  have g1 : S.toList.isEmpty = false := by simpa using g2
  have g3 : (S.toList == []) = false := by simpa using g2
  have G := (Below.refl w.heap.size w).alloc (Nat.le_refl _) (.cells #[.int .i64 18, .int .i64 a, .int .i64 b] 70)
  go_enter Tryz.func110, Tryz.ntmps110
  go_wp2_with fail
  refine (C1.out _).mono ?_; rintro e w1 ⟨rfl, hb⟩
  have k0 := hb.cell (p := ⟨w.heap.size, 0, none⟩) (by simp)
  have k1 := hb.cell (p := ⟨w.heap.size, 1, none⟩) (by simp)
  have k2 := hb.cell (p := ⟨w.heap.size, 2, none⟩) (by simp)
  have hz := hb.size
  simp at k0 k1 k2 hz
  have hl : w.heap.size < w1.heap.size := by omega
  clear hz
  replace G := G.trans (hb.mono G.size); clear hb
  go_wp2_with fail
  refine (C2.out _).mono ?_; rintro e w2 ⟨rfl, hb⟩
  replace k0 := (hb.cell (p := ⟨w.heap.size, 0, none⟩) hl).trans k0
  replace k1 := (hb.cell (p := ⟨w.heap.size, 1, none⟩) hl).trans k1
  replace k2 := (hb.cell (p := ⟨w.heap.size, 2, none⟩) hl).trans k2
  replace hl := Nat.lt_of_lt_of_le hl hb.size
  replace G := G.trans (hb.mono G.size); clear hb
  go_wp2_with fail
  refine (C2.out _).mono ?_; rintro e w3 ⟨rfl, hb⟩
  replace k0 := (hb.cell (p := ⟨w.heap.size, 0, none⟩) hl).trans k0
  replace k1 := (hb.cell (p := ⟨w.heap.size, 1, none⟩) hl).trans k1
  replace k2 := (hb.cell (p := ⟨w.heap.size, 2, none⟩) hl).trans k2
  replace hl := Nat.lt_of_lt_of_le hl hb.size
  replace G := G.trans (hb.mono G.size); clear hb
  go_wp2
  go_ret
  exact ⟨rfl, G⟩
set_option maxHeartbeats 1000000 in
set_option maxRecDepth 100000 in
theorem rr_18bhi (a b : Int) (S : ByteArray) (C1 : Hid (∀ W, Calls Tryz.prog 139 #[.int .i64 18] W fun e w' => e = .returned (.string S) ∧ Below W.heap.size W w')) (C2 : Hid (∀ W, Calls Tryz.prog 140 #[.int .i64 18] W fun e w' => e = .returned (.int .i64 2) ∧ Below W.heap.size W w')) (g2 : ¬ S.toList = []) (h1 : 0 ≤ a) (d1 : decide (0 ≤ a) = true) (h2 : a ≤ 7) (d2 : decide (a ≤ 7) = true) (h3 : 0 ≤ b) (d3 : decide (0 ≤ b) = true) (h4 : 7 < b) (d4 : decide (b ≤ 7) = false) (w : World) :
    Calls Tryz.prog 110 #[.agg #[.int .i64 18, .int .i64 a, .int .i64 b]] w fun e w' => e = .returned (.bool false) ∧ Below w.heap.size w w' := by
  have g1 : S.toList.isEmpty = false := by simpa using g2
  have g3 : (S.toList == []) = false := by simpa using g2
  have G := (Below.refl w.heap.size w).alloc (Nat.le_refl _) (.cells #[.int .i64 18, .int .i64 a, .int .i64 b] 70)
  go_enter Tryz.func110, Tryz.ntmps110
  go_wp2_with fail
  refine (C1.out _).mono ?_; rintro e w1 ⟨rfl, hb⟩
  have k0 := hb.cell (p := ⟨w.heap.size, 0, none⟩) (by simp)
  have k1 := hb.cell (p := ⟨w.heap.size, 1, none⟩) (by simp)
  have k2 := hb.cell (p := ⟨w.heap.size, 2, none⟩) (by simp)
  have hz := hb.size
  simp at k0 k1 k2 hz
  have hl : w.heap.size < w1.heap.size := by omega
  clear hz
  replace G := G.trans (hb.mono G.size); clear hb
  go_wp2_with fail
  refine (C2.out _).mono ?_; rintro e w2 ⟨rfl, hb⟩
  replace k0 := (hb.cell (p := ⟨w.heap.size, 0, none⟩) hl).trans k0
  replace k1 := (hb.cell (p := ⟨w.heap.size, 1, none⟩) hl).trans k1
  replace k2 := (hb.cell (p := ⟨w.heap.size, 2, none⟩) hl).trans k2
  replace hl := Nat.lt_of_lt_of_le hl hb.size
  replace G := G.trans (hb.mono G.size); clear hb
  go_wp2_with fail
  refine (C2.out _).mono ?_; rintro e w3 ⟨rfl, hb⟩
  replace k0 := (hb.cell (p := ⟨w.heap.size, 0, none⟩) hl).trans k0
  replace k1 := (hb.cell (p := ⟨w.heap.size, 1, none⟩) hl).trans k1
  replace k2 := (hb.cell (p := ⟨w.heap.size, 2, none⟩) hl).trans k2
  replace hl := Nat.lt_of_lt_of_le hl hb.size
  replace G := G.trans (hb.mono G.size); clear hb
  go_wp2
  go_ret
  exact ⟨rfl, G⟩
set_option maxHeartbeats 1000000 in
set_option maxRecDepth 100000 in
theorem rr_18ok (a b : Int) (S : ByteArray) (C1 : Hid (∀ W, Calls Tryz.prog 139 #[.int .i64 18] W fun e w' => e = .returned (.string S) ∧ Below W.heap.size W w')) (C2 : Hid (∀ W, Calls Tryz.prog 140 #[.int .i64 18] W fun e w' => e = .returned (.int .i64 2) ∧ Below W.heap.size W w')) (g2 : ¬ S.toList = []) (h1 : 0 ≤ a) (d1 : decide (0 ≤ a) = true) (h2 : a ≤ 7) (d2 : decide (a ≤ 7) = true) (h3 : 0 ≤ b) (d3 : decide (0 ≤ b) = true) (h4 : b ≤ 7) (d4 : decide (b ≤ 7) = true) (w : World) :
    Calls Tryz.prog 110 #[.agg #[.int .i64 18, .int .i64 a, .int .i64 b]] w fun e w' => e = .returned (.bool true) ∧ Below w.heap.size w w' := by
  have g1 : S.toList.isEmpty = false := by simpa using g2
  have g3 : (S.toList == []) = false := by simpa using g2
  have G := (Below.refl w.heap.size w).alloc (Nat.le_refl _) (.cells #[.int .i64 18, .int .i64 a, .int .i64 b] 70)
  go_enter Tryz.func110, Tryz.ntmps110
  go_wp2_with fail
  refine (C1.out _).mono ?_; rintro e w1 ⟨rfl, hb⟩
  have k0 := hb.cell (p := ⟨w.heap.size, 0, none⟩) (by simp)
  have k1 := hb.cell (p := ⟨w.heap.size, 1, none⟩) (by simp)
  have k2 := hb.cell (p := ⟨w.heap.size, 2, none⟩) (by simp)
  have hz := hb.size
  simp at k0 k1 k2 hz
  have hl : w.heap.size < w1.heap.size := by omega
  clear hz
  replace G := G.trans (hb.mono G.size); clear hb
  go_wp2_with fail
  refine (C2.out _).mono ?_; rintro e w2 ⟨rfl, hb⟩
  replace k0 := (hb.cell (p := ⟨w.heap.size, 0, none⟩) hl).trans k0
  replace k1 := (hb.cell (p := ⟨w.heap.size, 1, none⟩) hl).trans k1
  replace k2 := (hb.cell (p := ⟨w.heap.size, 2, none⟩) hl).trans k2
  replace hl := Nat.lt_of_lt_of_le hl hb.size
  replace G := G.trans (hb.mono G.size); clear hb
  go_wp2_with fail
  refine (C2.out _).mono ?_; rintro e w3 ⟨rfl, hb⟩
  replace k0 := (hb.cell (p := ⟨w.heap.size, 0, none⟩) hl).trans k0
  replace k1 := (hb.cell (p := ⟨w.heap.size, 1, none⟩) hl).trans k1
  replace k2 := (hb.cell (p := ⟨w.heap.size, 2, none⟩) hl).trans k2
  replace hl := Nat.lt_of_lt_of_le hl hb.size
  replace G := G.trans (hb.mono G.size); clear hb
  go_wp2
  go_ret
  exact ⟨rfl, G⟩
end Go.Proofs.YthncbnalnfbpnaaGreatDoor
end
