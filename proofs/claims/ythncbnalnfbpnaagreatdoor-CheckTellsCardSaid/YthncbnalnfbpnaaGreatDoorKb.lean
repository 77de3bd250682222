/- What is proved here: the contract of the document's Right for layer 4. Conditions: none beyond those each theorem states. the contract of the document's Right for layer 4 (cases of blocks and of Get, Put). Conditions: none beyond those each theorem states. -/
import Derived.Test.YthncbnalnfbpnaaGreatDoorKa
section
namespace Go.Proofs.YthncbnalnfbpnaaGreatDoor
open Go.ChangeShapes Go.WideShapes Go.RowKit
set_option linter.unusedVariables false

set_option maxHeartbeats 1000000 in
set_option maxRecDepth 100000 in
theorem rr_b0 (o : Int) (a b : Int) (S : ByteArray) (C1 : Hid (∀ W, Calls Tryz.prog 139 #[.int .i64 o] W fun e w' => e = .returned (.string S) ∧ Below W.heap.size W w')) (C2 : Hid (∀ W, Calls Tryz.prog 140 #[.int .i64 o] W fun e w' => e = .returned (.int .i64 0) ∧ Below W.heap.size W w')) (g2 : ¬ S.toList = []) (e1 : (b != 0) = true) (w : World) :
    Calls Tryz.prog 110 #[.agg #[.int .i64 o, .int .i64 a, .int .i64 b]] w fun e w' => e = .returned (.bool false) ∧ Below w.heap.size w w' := by
  have g1 : S.toList.isEmpty = false := by simpa using g2
  have g3 : (S.toList == []) = false := by simpa using g2
  have G := (Below.refl w.heap.size w).alloc (Nat.le_refl _) (.cells #[.int .i64 o, .int .i64 a, .int .i64 b] 70)
  go_enter Tryz.func110, Tryz.ntmps110
  go_wp2_with fail
  refine (C1.out _).mono ?_; rintro e w1 ⟨rfl, hb⟩
  have k0 := hb.cell (p := ⟨w.heap.size, 0, none⟩) (by simp)
  have k1 := hb.cell (p := ⟨w.heap.size, 1, none⟩) (by simp)
  have k2 := hb.cell (p := ⟨w.heap.size, 2, none⟩) (by simp)
  have hz := hb.size
  simp at k0 k1 k2 hz
  have hl : w.heap.size < w1.heap.size := by omega
  clear hz
  replace G := G.trans (hb.mono G.size); clear hb
  go_wp2_with fail
  refine (C2.out _).mono ?_; rintro e w2 ⟨rfl, hb⟩
  replace k0 := (hb.cell (p := ⟨w.heap.size, 0, none⟩) hl).trans k0
  replace k1 := (hb.cell (p := ⟨w.heap.size, 1, none⟩) hl).trans k1
  replace k2 := (hb.cell (p := ⟨w.heap.size, 2, none⟩) hl).trans k2
  replace hl := Nat.lt_of_lt_of_le hl hb.size
  replace G := G.trans (hb.mono G.size); clear hb
  go_wp2
  go_ret
  exact ⟨rfl, G⟩
set_option maxHeartbeats 1000000 in
set_option maxRecDepth 100000 in
theorem rr_b1 (o : Int) (a b : Int) (S : ByteArray) (C1 : Hid (∀ W, Calls Tryz.prog 139 #[.int .i64 o] W fun e w' => e = .returned (.string S) ∧ Below W.heap.size W w')) (C2 : Hid (∀ W, Calls Tryz.prog 140 #[.int .i64 o] W fun e w' => e = .returned (.int .i64 1) ∧ Below W.heap.size W w')) (g2 : ¬ S.toList = []) (e1 : (b != 0) = true) (w : World) :
    Calls Tryz.prog 110 #[.agg #[.int .i64 o, .int .i64 a, .int .i64 b]] w fun e w' => e = .returned (.bool false) ∧ Below w.heap.size w w' := by
  have g1 : S.toList.isEmpty = false := by simpa using g2
  have g3 : (S.toList == []) = false := by simpa using g2
  have G := (Below.refl w.heap.size w).alloc (Nat.le_refl _) (.cells #[.int .i64 o, .int .i64 a, .int .i64 b] 70)
  go_enter Tryz.func110, Tryz.ntmps110
  go_wp2_with fail
  refine (C1.out _).mono ?_; rintro e w1 ⟨rfl, hb⟩
  have k0 := hb.cell (p := ⟨w.heap.size, 0, none⟩) (by simp)
  have k1 := hb.cell (p := ⟨w.heap.size, 1, none⟩) (by simp)
  have k2 := hb.cell (p := ⟨w.heap.size, 2, none⟩) (by simp)
  have hz := hb.size
  simp at k0 k1 k2 hz
  have hl : w.heap.size < w1.heap.size := by omega
  clear hz
  replace G := G.trans (hb.mono G.size); clear hb
  go_wp2_with fail
  refine (C2.out _).mono ?_; rintro e w2 ⟨rfl, hb⟩
  replace k0 := (hb.cell (p := ⟨w.heap.size, 0, none⟩) hl).trans k0
  replace k1 := (hb.cell (p := ⟨w.heap.size, 1, none⟩) hl).trans k1
  replace k2 := (hb.cell (p := ⟨w.heap.size, 2, none⟩) hl).trans k2
  replace hl := Nat.lt_of_lt_of_le hl hb.size
  replace G := G.trans (hb.mono G.size); clear hb
  go_wp2
  go_ret
  exact ⟨rfl, G⟩
set_option maxHeartbeats 1000000 in
set_option maxRecDepth 100000 in
theorem rr_a0 (o : Int) (a b : Int) (S : ByteArray) (C1 : Hid (∀ W, Calls Tryz.prog 139 #[.int .i64 o] W fun e w' => e = .returned (.string S) ∧ Below W.heap.size W w')) (C2 : Hid (∀ W, Calls Tryz.prog 140 #[.int .i64 o] W fun e w' => e = .returned (.int .i64 0) ∧ Below W.heap.size W w')) (g2 : ¬ S.toList = []) (e1 : (b != 0) = false) (e2 : (a != 0) = true) (w : World) :
    Calls Tryz.prog 110 #[.agg #[.int .i64 o, .int .i64 a, .int .i64 b]] w fun e w' => e = .returned (.bool false) ∧ Below w.heap.size w w' := by
  have g1 : S.toList.isEmpty = false := by simpa using g2
  have g3 : (S.toList == []) = false := by simpa using g2
  have G := (Below.refl w.heap.size w).alloc (Nat.le_refl _) (.cells #[.int .i64 o, .int .i64 a, .int .i64 b] 70)
  go_enter Tryz.func110, Tryz.ntmps110
  go_wp2_with fail
  refine (C1.out _).mono ?_; rintro e w1 ⟨rfl, hb⟩
  have k0 := hb.cell (p := ⟨w.heap.size, 0, none⟩) (by simp)
  have k1 := hb.cell (p := ⟨w.heap.size, 1, none⟩) (by simp)
  have k2 := hb.cell (p := ⟨w.heap.size, 2, none⟩) (by simp)
  have hz := hb.size
  simp at k0 k1 k2 hz
  have hl : w.heap.size < w1.heap.size := by omega
  clear hz
  replace G := G.trans (hb.mono G.size); clear hb
  go_wp2_with fail
  refine (C2.out _).mono ?_; rintro e w2 ⟨rfl, hb⟩
  replace k0 := (hb.cell (p := ⟨w.heap.size, 0, none⟩) hl).trans k0
  replace k1 := (hb.cell (p := ⟨w.heap.size, 1, none⟩) hl).trans k1
  replace k2 := (hb.cell (p := ⟨w.heap.size, 2, none⟩) hl).trans k2
  replace hl := Nat.lt_of_lt_of_le hl hb.size
  replace G := G.trans (hb.mono G.size); clear hb
  go_wp2_with fail
  refine (C2.out _).mono ?_; rintro e w3 ⟨rfl, hb⟩
  replace k0 := (hb.cell (p := ⟨w.heap.size, 0, none⟩) hl).trans k0
  replace k1 := (hb.cell (p := ⟨w.heap.size, 1, none⟩) hl).trans k1
  replace k2 := (hb.cell (p := ⟨w.heap.size, 2, none⟩) hl).trans k2
  replace hl := Nat.lt_of_lt_of_le hl hb.size
  replace G := G.trans (hb.mono G.size); clear hb
  go_wp2
  go_ret
  exact ⟨rfl, G⟩
set_option maxHeartbeats 1000000 in
set_option maxRecDepth 100000 in
theorem rr_k0 (o : Int) (a b : Int) (S : ByteArray) (C1 : Hid (∀ W, Calls Tryz.prog 139 #[.int .i64 o] W fun e w' => e = .returned (.string S) ∧ Below W.heap.size W w')) (C2 : Hid (∀ W, Calls Tryz.prog 140 #[.int .i64 o] W fun e w' => e = .returned (.int .i64 0) ∧ Below W.heap.size W w')) (g2 : ¬ S.toList = []) (e1 : (b != 0) = false) (e2 : (a != 0) = false) (f5 : (o == 5) = false) (f11 : (o == 11) = false) (f12 : (o == 12) = false) (f13 : (o == 13) = false) (f14 : (o == 14) = false) (f15 : (o == 15) = false) (f16 : (o == 16) = false) (f17 : (o == 17) = false) (f18 : (o == 18) = false) (f19 : (o == 19) = false) (f20 : (o == 20) = false) (f21 : (o == 21) = false) (f23 : (o == 23) = false) (f24 : (o == 24) = false) (w : World) :
    Calls Tryz.prog 110 #[.agg #[.int .i64 o, .int .i64 a, .int .i64 b]] w fun e w' => e = .returned (.bool true) ∧ Below w.heap.size w w' := by
  have g1 : S.toList.isEmpty = false := by simpa using g2
  have g3 : (S.toList == []) = false := by simpa using g2
  have G := (Below.refl w.heap.size w).alloc (Nat.le_refl _) (.cells #[.int .i64 o, .int .i64 a, .int .i64 b] 70)
  go_enter Tryz.func110, Tryz.ntmps110
  go_wp2_with fail
  refine (C1.out _).mono ?_; rintro e w1 ⟨rfl, hb⟩
  have k0 := hb.cell (p := ⟨w.heap.size, 0, none⟩) (by simp)
  have k1 := hb.cell (p := ⟨w.heap.size, 1, none⟩) (by simp)
  have k2 := hb.cell (p := ⟨w.heap.size, 2, none⟩) (by simp)
  have hz := hb.size
  simp at k0 k1 k2 hz
  have hl : w.heap.size < w1.heap.size := by omega
  clear hz
  replace G := G.trans (hb.mono G.size); clear hb
  go_wp2_with fail
  refine (C2.out _).mono ?_; rintro e w2 ⟨rfl, hb⟩
  replace k0 := (hb.cell (p := ⟨w.heap.size, 0, none⟩) hl).trans k0
  replace k1 := (hb.cell (p := ⟨w.heap.size, 1, none⟩) hl).trans k1
  replace k2 := (hb.cell (p := ⟨w.heap.size, 2, none⟩) hl).trans k2
  replace hl := Nat.lt_of_lt_of_le hl hb.size
  replace G := G.trans (hb.mono G.size); clear hb
  go_wp2_with fail
  refine (C2.out _).mono ?_; rintro e w3 ⟨rfl, hb⟩
  replace k0 := (hb.cell (p := ⟨w.heap.size, 0, none⟩) hl).trans k0
  replace k1 := (hb.cell (p := ⟨w.heap.size, 1, none⟩) hl).trans k1
  replace k2 := (hb.cell (p := ⟨w.heap.size, 2, none⟩) hl).trans k2
  replace hl := Nat.lt_of_lt_of_le hl hb.size
  replace G := G.trans (hb.mono G.size); clear hb
  go_wp2
  go_ret
  exact ⟨rfl, G⟩
set_option maxHeartbeats 1000000 in
set_option maxRecDepth 100000 in
theorem rr_k1 (o : Int) (a b : Int) (S : ByteArray) (C1 : Hid (∀ W, Calls Tryz.prog 139 #[.int .i64 o] W fun e w' => e = .returned (.string S) ∧ Below W.heap.size W w')) (C2 : Hid (∀ W, Calls Tryz.prog 140 #[.int .i64 o] W fun e w' => e = .returned (.int .i64 1) ∧ Below W.heap.size W w')) (g2 : ¬ S.toList = []) (e1 : (b != 0) = false) (f5 : (o == 5) = false) (f11 : (o == 11) = false) (f12 : (o == 12) = false) (f13 : (o == 13) = false) (f14 : (o == 14) = false) (f15 : (o == 15) = false) (f16 : (o == 16) = false) (f17 : (o == 17) = false) (f18 : (o == 18) = false) (f19 : (o == 19) = false) (f20 : (o == 20) = false) (f21 : (o == 21) = false) (f23 : (o == 23) = false) (f24 : (o == 24) = false) (w : World) :
    Calls Tryz.prog 110 #[.agg #[.int .i64 o, .int .i64 a, .int .i64 b]] w fun e w' => e = .returned (.bool true) ∧ Below w.heap.size w w' := by
  have g1 : S.toList.isEmpty = false := by simpa using g2
  have g3 : (S.toList == []) = false := by simpa using g2
  have G := (Below.refl w.heap.size w).alloc (Nat.le_refl _) (.cells #[.int .i64 o, .int .i64 a, .int .i64 b] 70)
  go_enter Tryz.func110, Tryz.ntmps110
  go_wp2_with fail
  refine (C1.out _).mono ?_; rintro e w1 ⟨rfl, hb⟩
  have k0 := hb.cell (p := ⟨w.heap.size, 0, none⟩) (by simp)
  have k1 := hb.cell (p := ⟨w.heap.size, 1, none⟩) (by simp)
  have k2 := hb.cell (p := ⟨w.heap.size, 2, none⟩) (by simp)
  have hz := hb.size
  simp at k0 k1 k2 hz
  have hl : w.heap.size < w1.heap.size := by omega
  clear hz
  replace G := G.trans (hb.mono G.size); clear hb
  go_wp2_with fail
  refine (C2.out _).mono ?_; rintro e w2 ⟨rfl, hb⟩
  replace k0 := (hb.cell (p := ⟨w.heap.size, 0, none⟩) hl).trans k0
  replace k1 := (hb.cell (p := ⟨w.heap.size, 1, none⟩) hl).trans k1
  replace k2 := (hb.cell (p := ⟨w.heap.size, 2, none⟩) hl).trans k2
  replace hl := Nat.lt_of_lt_of_le hl hb.size
  replace G := G.trans (hb.mono G.size); clear hb
  go_wp2_with fail
  refine (C2.out _).mono ?_; rintro e w3 ⟨rfl, hb⟩
  replace k0 := (hb.cell (p := ⟨w.heap.size, 0, none⟩) hl).trans k0
  replace k1 := (hb.cell (p := ⟨w.heap.size, 1, none⟩) hl).trans k1
  replace k2 := (hb.cell (p := ⟨w.heap.size, 2, none⟩) hl).trans k2
  replace hl := Nat.lt_of_lt_of_le hl hb.size
  replace G := G.trans (hb.mono G.size); clear hb
  go_wp2
  go_ret
  exact ⟨rfl, G⟩
set_option maxHeartbeats 1000000 in
set_option maxRecDepth 100000 in
theorem rr_5no (a : Int) (S : ByteArray) (C1 : Hid (∀ W, Calls Tryz.prog 139 #[.int .i64 5] W fun e w' => e = .returned (.string S) ∧ Below W.heap.size W w')) (C2 : Hid (∀ W, Calls Tryz.prog 140 #[.int .i64 5] W fun e w' => e = .returned (.int .i64 1) ∧ Below W.heap.size W w')) (g2 : ¬ S.toList = []) (T : ByteArray) (C3 : Hid (∀ W, Calls Tryz.prog 141 #[.int .i64 a] W fun e w' => e = .returned (.string T) ∧ Below W.heap.size W w')) (t2 : T.toList = []) (t1 : T.toList.isEmpty = true) (w : World) :
    Calls Tryz.prog 110 #[.agg #[.int .i64 5, .int .i64 a, .int .i64 0]] w fun e w' => e = .returned (.bool false) ∧ Below w.heap.size w w' := by
  have g1 : S.toList.isEmpty = false := by simpa using g2
  have g3 : (S.toList == []) = false := by simpa using g2
  have G := (Below.refl w.heap.size w).alloc (Nat.le_refl _) (.cells #[.int .i64 5, .int .i64 a, .int .i64 0] 70)
  go_enter Tryz.func110, Tryz.ntmps110
  go_wp2_with fail
  refine (C1.out _).mono ?_; rintro e w1 ⟨rfl, hb⟩
  have k0 := hb.cell (p := ⟨w.heap.size, 0, none⟩) (by simp)
  have k1 := hb.cell (p := ⟨w.heap.size, 1, none⟩) (by simp)
  have k2 := hb.cell (p := ⟨w.heap.size, 2, none⟩) (by simp)
  have hz := hb.size
  simp at k0 k1 k2 hz
  have hl : w.heap.size < w1.heap.size := by omega
  clear hz
  replace G := G.trans (hb.mono G.size); clear hb
  go_wp2_with fail
  refine (C2.out _).mono ?_; rintro e w2 ⟨rfl, hb⟩
  replace k0 := (hb.cell (p := ⟨w.heap.size, 0, none⟩) hl).trans k0
  replace k1 := (hb.cell (p := ⟨w.heap.size, 1, none⟩) hl).trans k1
  replace k2 := (hb.cell (p := ⟨w.heap.size, 2, none⟩) hl).trans k2
  replace hl := Nat.lt_of_lt_of_le hl hb.size
  replace G := G.trans (hb.mono G.size); clear hb
  go_wp2_with fail
  refine (C2.out _).mono ?_; rintro e w3 ⟨rfl, hb⟩
  replace k0 := (hb.cell (p := ⟨w.heap.size, 0, none⟩) hl).trans k0
  replace k1 := (hb.cell (p := ⟨w.heap.size, 1, none⟩) hl).trans k1
  replace k2 := (hb.cell (p := ⟨w.heap.size, 2, none⟩) hl).trans k2
  replace hl := Nat.lt_of_lt_of_le hl hb.size
  replace G := G.trans (hb.mono G.size); clear hb
  go_wp2_with fail
  refine (C3.out _).mono ?_; rintro e w4 ⟨rfl, hb⟩
  replace k0 := (hb.cell (p := ⟨w.heap.size, 0, none⟩) hl).trans k0
  replace k1 := (hb.cell (p := ⟨w.heap.size, 1, none⟩) hl).trans k1
  replace k2 := (hb.cell (p := ⟨w.heap.size, 2, none⟩) hl).trans k2
  replace hl := Nat.lt_of_lt_of_le hl hb.size
  replace G := G.trans (hb.mono G.size); clear hb
  go_wp2
  go_ret
  exact ⟨rfl, G⟩
set_option maxHeartbeats 1000000 in
set_option maxRecDepth 100000 in
theorem rr_5ok (a : Int) (S : ByteArray) (C1 : Hid (∀ W, Calls Tryz.prog 139 #[.int .i64 5] W fun e w' => e = .returned (.string S) ∧ Below W.heap.size W w')) (C2 : Hid (∀ W, Calls Tryz.prog 140 #[.int .i64 5] W fun e w' => e = .returned (.int .i64 1) ∧ Below W.heap.size W w')) (g2 : ¬ S.toList = []) (T : ByteArray) (C3 : Hid (∀ W, Calls Tryz.prog 141 #[.int .i64 a] W fun e w' => e = .returned (.string T) ∧ Below W.heap.size W w')) (t2 : ¬ T.toList = []) (t1 : T.toList.isEmpty = false) (w : World) :
    Calls Tryz.prog 110 #[.agg #[.int .i64 5, .int .i64 a, .int .i64 0]] w fun e w' => e = .returned (.bool true) ∧ Below w.heap.size w w' := by
  have g1 : S.toList.isEmpty = false := by simpa using g2
  have g3 : (S.toList == []) = false := by simpa using g2
  have G := (Below.refl w.heap.size w).alloc (Nat.le_refl _) (.cells #[.int .i64 5, .int .i64 a, .int .i64 0] 70)
  go_enter Tryz.func110, Tryz.ntmps110
  go_wp2_with fail
  refine (C1.out _).mono ?_; rintro e w1 ⟨rfl, hb⟩
  have k0 := hb.cell (p := ⟨w.heap.size, 0, none⟩) (by simp)
  have k1 := hb.cell (p := ⟨w.heap.size, 1, none⟩) (by simp)
  have k2 := hb.cell (p := ⟨w.heap.size, 2, none⟩) (by simp)
  have hz := hb.size
  simp at k0 k1 k2 hz
  have hl : w.heap.size < w1.heap.size := by omega
  clear hz
  replace G := G.trans (hb.mono G.size); clear hb
  go_wp2_with fail
  refine (C2.out _).mono ?_; rintro e w2 ⟨rfl, hb⟩
  replace k0 := (hb.cell (p := ⟨w.heap.size, 0, none⟩) hl).trans k0
  replace k1 := (hb.cell (p := ⟨w.heap.size, 1, none⟩) hl).trans k1
  replace k2 := (hb.cell (p := ⟨w.heap.size, 2, none⟩) hl).trans k2
  replace hl := Nat.lt_of_lt_of_le hl hb.size
  replace G := G.trans (hb.mono G.size); clear hb
  go_wp2_with fail
  refine (C2.out _).mono ?_; rintro e w3 ⟨rfl, hb⟩
  replace k0 := (hb.cell (p := ⟨w.heap.size, 0, none⟩) hl).trans k0
  replace k1 := (hb.cell (p := ⟨w.heap.size, 1, none⟩) hl).trans k1
  replace k2 := (hb.cell (p := ⟨w.heap.size, 2, none⟩) hl).trans k2
  replace hl := Nat.lt_of_lt_of_le hl hb.size
  replace G := G.trans (hb.mono G.size); clear hb
  go_wp2_with fail
  refine (C3.out _).mono ?_; rintro e w4 ⟨rfl, hb⟩
  replace k0 := (hb.cell (p := ⟨w.heap.size, 0, none⟩) hl).trans k0
  replace k1 := (hb.cell (p := ⟨w.heap.size, 1, none⟩) hl).trans k1
  replace k2 := (hb.cell (p := ⟨w.heap.size, 2, none⟩) hl).trans k2
  replace hl := Nat.lt_of_lt_of_le hl hb.size
  replace G := G.trans (hb.mono G.size); clear hb
  go_wp2
  go_ret
  exact ⟨rfl, G⟩
set_option maxHeartbeats 1000000 in
set_option maxRecDepth 100000 in
theorem rr_15lo (a : Int) (S : ByteArray) (C1 : Hid (∀ W, Calls Tryz.prog 139 #[.int .i64 15] W fun e w' => e = .returned (.string S) ∧ Below W.heap.size W w')) (C2 : Hid (∀ W, Calls Tryz.prog 140 #[.int .i64 15] W fun e w' => e = .returned (.int .i64 1) ∧ Below W.heap.size W w')) (g2 : ¬ S.toList = []) (h1 : a < 0) (d1 : decide (0 ≤ a) = false) (w : World) :
    Calls Tryz.prog 110 #[.agg #[.int .i64 15, .int .i64 a, .int .i64 0]] w fun e w' => e = .returned (.bool false) ∧ Below w.heap.size w w' := by
  have g1 : S.toList.isEmpty = false := by simpa using g2
  have g3 : (S.toList == []) = false := by simpa using g2
  have G := (Below.refl w.heap.size w).alloc (Nat.le_refl _) (.cells #[.int .i64 15, .int .i64 a, .int .i64 0] 70)
  go_enter Tryz.func110, Tryz.ntmps110
  go_wp2_with fail
  refine (C1.out _).mono ?_; rintro e w1 ⟨rfl, hb⟩
  have k0 := hb.cell (p := ⟨w.heap.size, 0, none⟩) (by simp)
  have k1 := hb.cell (p := ⟨w.heap.size, 1, none⟩) (by simp)
  have k2 := hb.cell (p := ⟨w.heap.size, 2, none⟩) (by simp)
  have hz := hb.size
  simp at k0 k1 k2 hz
  have hl : w.heap.size < w1.heap.size := by omega
  clear hz
  replace G := G.trans (hb.mono G.size); clear hb
  go_wp2_with fail
  refine (C2.out _).mono ?_; rintro e w2 ⟨rfl, hb⟩
  replace k0 := (hb.cell (p := ⟨w.heap.size, 0, none⟩) hl).trans k0
  replace k1 := (hb.cell (p := ⟨w.heap.size, 1, none⟩) hl).trans k1
  replace k2 := (hb.cell (p := ⟨w.heap.size, 2, none⟩) hl).trans k2
  replace hl := Nat.lt_of_lt_of_le hl hb.size
  replace G := G.trans (hb.mono G.size); clear hb
  go_wp2_with fail
  refine (C2.out _).mono ?_; rintro e w3 ⟨rfl, hb⟩
  replace k0 := (hb.cell (p := ⟨w.heap.size, 0, none⟩) hl).trans k0
  replace k1 := (hb.cell (p := ⟨w.heap.size, 1, none⟩) hl).trans k1
  replace k2 := (hb.cell (p := ⟨w.heap.size, 2, none⟩) hl).trans k2
  replace hl := Nat.lt_of_lt_of_le hl hb.size
  replace G := G.trans (hb.mono G.size); clear hb
  go_wp2
  go_ret
  exact ⟨rfl, G⟩
set_option maxHeartbeats 1000000 in
set_option maxRecDepth 100000 in
theorem rr_15hi (a : Int) (S : ByteArray) (C1 : Hid (∀ W, Calls Tryz.prog 139 #[.int .i64 15] W fun e w' => e = .returned (.string S) ∧ Below W.heap.size W w')) (C2 : Hid (∀ W, Calls Tryz.prog 140 #[.int .i64 15] W fun e w' => e = .returned (.int .i64 1) ∧ Below W.heap.size W w')) (g2 : ¬ S.toList = []) (h1 : 0 ≤ a) (d1 : decide (0 ≤ a) = true) (h2 : 15 < a) (d2 : decide (a ≤ 15) = false) (w : World) :
    Calls Tryz.prog 110 #[.agg #[.int .i64 15, .int .i64 a, .int .i64 0]] w fun e w' => e = .returned (.bool false) ∧ Below w.heap.size w w' := by
  have g1 : S.toList.isEmpty = false := by simpa using g2
  have g3 : (S.toList == []) = false := by simpa using g2
  have G := (Below.refl w.heap.size w).alloc (Nat.le_refl _) (.cells #[.int .i64 15, .int .i64 a, .int .i64 0] 70)
  go_enter Tryz.func110, Tryz.ntmps110
  go_wp2_with fail
  refine (C1.out _).mono ?_; rintro e w1 ⟨rfl, hb⟩
  have k0 := hb.cell (p := ⟨w.heap.size, 0, none⟩) (by simp)
  have k1 := hb.cell (p := ⟨w.heap.size, 1, none⟩) (by simp)
  have k2 := hb.cell (p := ⟨w.heap.size, 2, none⟩) (by simp)
  have hz := hb.size
  simp at k0 k1 k2 hz
  have hl : w.heap.size < w1.heap.size := by omega
  clear hz
  replace G := G.trans (hb.mono G.size); clear hb
  go_wp2_with fail
  refine (C2.out _).mono ?_; rintro e w2 ⟨rfl, hb⟩
  replace k0 := (hb.cell (p := ⟨w.heap.size, 0, none⟩) hl).trans k0
  replace k1 := (hb.cell (p := ⟨w.heap.size, 1, none⟩) hl).trans k1
  replace k2 := (hb.cell (p := ⟨w.heap.size, 2, none⟩) hl).trans k2
  replace hl := Nat.lt_of_lt_of_le hl hb.size
  replace G := G.trans (hb.mono G.size); clear hb
  go_wp2_with fail
  refine (C2.out _).mono ?_; rintro e w3 ⟨rfl, hb⟩
  replace k0 := (hb.cell (p := ⟨w.heap.size, 0, none⟩) hl).trans k0
  replace k1 := (hb.cell (p := ⟨w.heap.size, 1, none⟩) hl).trans k1
  replace k2 := (hb.cell (p := ⟨w.heap.size, 2, none⟩) hl).trans k2
  replace hl := Nat.lt_of_lt_of_le hl hb.size
  replace G := G.trans (hb.mono G.size); clear hb
  go_wp2
  go_ret
  exact ⟨rfl, G⟩
set_option maxHeartbeats 1000000 in
set_option maxRecDepth 100000 in
theorem rr_15ok (a : Int) (S : ByteArray) (C1 : Hid (∀ W, Calls Tryz.prog 139 #[.int .i64 15] W fun e w' => e = .returned (.string S) ∧ Below W.heap.size W w')) (C2 : Hid (∀ W, Calls Tryz.prog 140 #[.int .i64 15] W fun e w' => e = .returned (.int .i64 1) ∧ Below W.heap.size W w')) (g2 : ¬ S.toList = []) (h1 : 0 ≤ a) (d1 : decide (0 ≤ a) = true) (h2 : a ≤ 15) (d2 : decide (a ≤ 15) = true) (w : World) :
    Calls Tryz.prog 110 #[.agg #[.int .i64 15, .int .i64 a, .int .i64 0]] w fun e w' => e = .returned (.bool true) ∧ Below w.heap.size w w' := by
  have g1 : S.toList.isEmpty = false := by simpa using g2
  have g3 : (S.toList == []) = false := by simpa using g2
  have G := (Below.refl w.heap.size w).alloc (Nat.le_refl _) (.cells #[.int .i64 15, .int .i64 a, .int .i64 0] 70)
  go_enter Tryz.func110, Tryz.ntmps110
  go_wp2_with fail
  refine (C1.out _).mono ?_; rintro e w1 ⟨rfl, hb⟩
  have k0 := hb.cell (p := ⟨w.heap.size, 0, none⟩) (by simp)
  have k1 := hb.cell (p := ⟨w.heap.size, 1, none⟩) (by simp)
  have k2 := hb.cell (p := ⟨w.heap.size, 2, none⟩) (by simp)
  have hz := hb.size
  simp at k0 k1 k2 hz
  have hl : w.heap.size < w1.heap.size := by omega
  clear hz
  replace G := G.trans (hb.mono G.size); clear hb
  go_wp2_with fail
  refine (C2.out _).mono ?_; rintro e w2 ⟨rfl, hb⟩
  replace k0 := (hb.cell (p := ⟨w.heap.size, 0, none⟩) hl).trans k0
  replace k1 := (hb.cell (p := ⟨w.heap.size, 1, none⟩) hl).trans k1
  replace k2 := (hb.cell (p := ⟨w.heap.size, 2, none⟩) hl).trans k2
  replace hl := Nat.lt_of_lt_of_le hl hb.size
  replace G := G.trans (hb.mono G.size); clear hb
  go_wp2_with fail
  refine (C2.out _).mono ?_; rintro e w3 ⟨rfl, hb⟩
  replace k0 := (hb.cell (p := ⟨w.heap.size, 0, none⟩) hl).trans k0
  replace k1 := (hb.cell (p := ⟨w.heap.size, 1, none⟩) hl).trans k1
  replace k2 := (hb.cell (p := ⟨w.heap.size, 2, none⟩) hl).trans k2
  replace hl := Nat.lt_of_lt_of_le hl hb.size
  replace G := G.trans (hb.mono G.size); clear hb
  go_wp2
  go_ret
  exact ⟨rfl, G⟩
set_option maxHeartbeats 1000000 in
set_option maxRecDepth 100000 in
theorem rr_16lo (a : Int) (S : ByteArray) (C1 : Hid (∀ W, Calls Tryz.prog 139 #[.int .i64 16] W fun e w' => e = .returned (.string S) ∧ Below W.heap.size W w')) (C2 : Hid (∀ W, Calls Tryz.prog 140 #[.int .i64 16] W fun e w' => e = .returned (.int .i64 1) ∧ Below W.heap.size W w')) (g2 : ¬ S.toList = []) (h1 : a < 0) (d1 : decide (0 ≤ a) = false) (w : World) :
    Calls Tryz.prog 110 #[.agg #[.int .i64 16, .int .i64 a, .int .i64 0]] w fun e w' => e = .returned (.bool false) ∧ Below w.heap.size w w' := by
  have g1 : S.toList.isEmpty = false := by simpa using g2
  have g3 : (S.toList == []) = false := by simpa using g2
  have G := (Below.refl w.heap.size w).alloc (Nat.le_refl _) (.cells #[.int .i64 16, .int .i64 a, .int .i64 0] 70)
  go_enter Tryz.func110, Tryz.ntmps110
  go_wp2_with fail
  refine (C1.out _).mono ?_; rintro e w1 ⟨rfl, hb⟩
  have k0 := hb.cell (p := ⟨w.heap.size, 0, none⟩) (by simp)
  have k1 := hb.cell (p := ⟨w.heap.size, 1, none⟩) (by simp)
  have k2 := hb.cell (p := ⟨w.heap.size, 2, none⟩) (by simp)
  have hz := hb.size
  simp at k0 k1 k2 hz
  have hl : w.heap.size < w1.heap.size := by omega
  clear hz
  replace G := G.trans (hb.mono G.size); clear hb
  go_wp2_with fail
  refine (C2.out _).mono ?_; rintro e w2 ⟨rfl, hb⟩
  replace k0 := (hb.cell (p := ⟨w.heap.size, 0, none⟩) hl).trans k0
  replace k1 := (hb.cell (p := ⟨w.heap.size, 1, none⟩) hl).trans k1
  replace k2 := (hb.cell (p := ⟨w.heap.size, 2, none⟩) hl).trans k2
  replace hl := Nat.lt_of_lt_of_le hl hb.size
  replace G := G.trans (hb.mono G.size); clear hb
  go_wp2_with fail
  refine (C2.out _).mono ?_; rintro e w3 ⟨rfl, hb⟩
  replace k0 := (hb.cell (p := ⟨w.heap.size, 0, none⟩) hl).trans k0
  replace k1 := (hb.cell (p := ⟨w.heap.size, 1, none⟩) hl).trans k1
  replace k2 := (hb.cell (p := ⟨w.heap.size, 2, none⟩) hl).trans k2
  replace hl := Nat.lt_of_lt_of_le hl hb.size
  replace G := G.trans (hb.mono G.size); clear hb
  go_wp2
  go_ret
  exact ⟨rfl, G⟩
set_option maxHeartbeats 1000000 in
set_option maxRecDepth 100000 in
theorem rr_16hi (a : Int) (S : ByteArray) (C1 : Hid (∀ W, Calls Tryz.prog 139 #[.int .i64 16] W fun e w' => e = .returned (.string S) ∧ Below W.heap.size W w')) (C2 : Hid (∀ W, Calls Tryz.prog 140 #[.int .i64 16] W fun e w' => e = .returned (.int .i64 1) ∧ Below W.heap.size W w')) (g2 : ¬ S.toList = []) (h1 : 0 ≤ a) (d1 : decide (0 ≤ a) = true) (h2 : 15 < a) (d2 : decide (a ≤ 15) = false) (w : World) :
    Calls Tryz.prog 110 #[.agg #[.int .i64 16, .int .i64 a, .int .i64 0]] w fun e w' => e = .returned (.bool false) ∧ Below w.heap.size w w' := by
  have g1 : S.toList.isEmpty = false := by simpa using g2
  have g3 : (S.toList == []) = false := by simpa using g2
  have G := (Below.refl w.heap.size w).alloc (Nat.le_refl _) (.cells #[.int .i64 16, .int .i64 a, .int .i64 0] 70)
  go_enter Tryz.func110, Tryz.ntmps110
  go_wp2_with fail
  refine (C1.out _).mono ?_; rintro e w1 ⟨rfl, hb⟩
  have k0 := hb.cell (p := ⟨w.heap.size, 0, none⟩) (by simp)
  have k1 := hb.cell (p := ⟨w.heap.size, 1, none⟩) (by simp)
  have k2 := hb.cell (p := ⟨w.heap.size, 2, none⟩) (by simp)
  have hz := hb.size
  simp at k0 k1 k2 hz
  have hl : w.heap.size < w1.heap.size := by omega
  clear hz
  replace G := G.trans (hb.mono G.size); clear hb
  go_wp2_with fail
  refine (C2.out _).mono ?_; rintro e w2 ⟨rfl, hb⟩
  replace k0 := (hb.cell (p := ⟨w.heap.size, 0, none⟩) hl).trans k0
  replace k1 := (hb.cell (p := ⟨w.heap.size, 1, none⟩) hl).trans k1
  replace k2 := (hb.cell (p := ⟨w.heap.size, 2, none⟩) hl).trans k2
  replace hl := Nat.lt_of_lt_of_le hl hb.size
  replace G := G.trans (hb.mono G.size); clear hb
  go_wp2_with fail
  refine (C2.out _).mono ?_; rintro e w3 ⟨rfl, hb⟩
  replace k0 := (hb.cell (p := ⟨w.heap.size, 0, none⟩) hl).trans k0
  replace k1 := (hb.cell (p := ⟨w.heap.size, 1, none⟩) hl).trans k1
  replace k2 := (hb.cell (p := ⟨w.heap.size, 2, none⟩) hl).trans k2
  replace hl := Nat.lt_of_lt_of_le hl hb.size
  replace G := G.trans (hb.mono G.size); clear hb
  go_wp2
  go_ret
  exact ⟨rfl, G⟩
set_option maxHeartbeats 1000000 in
set_option maxRecDepth 100000 in
theorem rr_16ok (a : Int) (S : ByteArray) (C1 : Hid (∀ W, Calls Tryz.prog 139 #[.int .i64 16] W fun e w' => e = .returned (.string S) ∧ Below W.heap.size W w')) (C2 : Hid (∀ W, Calls Tryz.prog 140 #[.int .i64 16] W fun e w' => e = .returned (.int .i64 1) ∧ Below W.heap.size W w')) (g2 : ¬ S.toList = []) (h1 : 0 ≤ a) (d1 : decide (0 ≤ a) = true) (h2 : a ≤ 15) (d2 : decide (a ≤ 15) = true) (w : World) :
    Calls Tryz.prog 110 #[.agg #[.int .i64 16, .int .i64 a, .int .i64 0]] w fun e w' => e = .returned (.bool true) ∧ Below w.heap.size w w' := by
  have g1 : S.toList.isEmpty = false := by simpa using g2
  have g3 : (S.toList == []) = false := by simpa using g2
  have G := (Below.refl w.heap.size w).alloc (Nat.le_refl _) (.cells #[.int .i64 16, .int .i64 a, .int .i64 0] 70)
  go_enter Tryz.func110, Tryz.ntmps110
  go_wp2_with fail
  refine (C1.out _).mono ?_; rintro e w1 ⟨rfl, hb⟩
  have k0 := hb.cell (p := ⟨w.heap.size, 0, none⟩) (by simp)
  have k1 := hb.cell (p := ⟨w.heap.size, 1, none⟩) (by simp)
  have k2 := hb.cell (p := ⟨w.heap.size, 2, none⟩) (by simp)
  have hz := hb.size
  simp at k0 k1 k2 hz
  have hl : w.heap.size < w1.heap.size := by omega
  clear hz
  replace G := G.trans (hb.mono G.size); clear hb
  go_wp2_with fail
  refine (C2.out _).mono ?_; rintro e w2 ⟨rfl, hb⟩
  replace k0 := (hb.cell (p := ⟨w.heap.size, 0, none⟩) hl).trans k0
  replace k1 := (hb.cell (p := ⟨w.heap.size, 1, none⟩) hl).trans k1
  replace k2 := (hb.cell (p := ⟨w.heap.size, 2, none⟩) hl).trans k2
  replace hl := Nat.lt_of_lt_of_le hl hb.size
  replace G := G.trans (hb.mono G.size); clear hb
  go_wp2_with fail
  refine (C2.out _).mono ?_; rintro e w3 ⟨rfl, hb⟩
  replace k0 := (hb.cell (p := ⟨w.heap.size, 0, none⟩) hl).trans k0
  replace k1 := (hb.cell (p := ⟨w.heap.size, 1, none⟩) hl).trans k1
  replace k2 := (hb.cell (p := ⟨w.heap.size, 2, none⟩) hl).trans k2
  replace hl := Nat.lt_of_lt_of_le hl hb.size
  replace G := G.trans (hb.mono G.size); clear hb
  go_wp2
  go_ret
  exact ⟨rfl, G⟩
set_option maxHeartbeats 1000000 in
set_option maxRecDepth 100000 in
theorem rr_19lo (a : Int) (S : ByteArray) (C1 : Hid (∀ W, Calls Tryz.prog 139 #[.int .i64 19] W fun e w' => e = .returned (.string S) ∧ Below W.heap.size W w')) (C2 : Hid (∀ W, Calls Tryz.prog 140 #[.int .i64 19] W fun e w' => e = .returned (.int .i64 1) ∧ Below W.heap.size W w')) (g2 : ¬ S.toList = []) (h1 : a < 0) (d1 : decide (0 ≤ a) = false) (w : World) :
    Calls Tryz.prog 110 #[.agg #[.int .i64 19, .int .i64 a, .int .i64 0]] w fun e w' => e = .returned (.bool false) ∧ Below w.heap.size w w' := by
  have g1 : S.toList.isEmpty = false := by simpa using g2
  have g3 : (S.toList == []) = false := by simpa using g2
  have G := (Below.refl w.heap.size w).alloc (Nat.le_refl _) (.cells #[.int .i64 19, .int .i64 a, .int .i64 0] 70)
  go_enter Tryz.func110, Tryz.ntmps110
  go_wp2_with fail
  refine (C1.out _).mono ?_; rintro e w1 ⟨rfl, hb⟩
  have k0 := hb.cell (p := ⟨w.heap.size, 0, none⟩) (by simp)
  have k1 := hb.cell (p := ⟨w.heap.size, 1, none⟩) (by simp)
  have k2 := hb.cell (p := ⟨w.heap.size, 2, none⟩) (by simp)
  have hz := hb.size
  simp at k0 k1 k2 hz
  have hl : w.heap.size < w1.heap.size := by omega
  clear hz
  replace G := G.trans (hb.mono G.size); clear hb
  go_wp2_with fail
  refine (C2.out _).mono ?_; rintro e w2 ⟨rfl, hb⟩
  replace k0 := (hb.cell (p := ⟨w.heap.size, 0, none⟩) hl).trans k0
  replace k1 := (hb.cell (p := ⟨w.heap.size, 1, none⟩) hl).trans k1
  replace k2 := (hb.cell (p := ⟨w.heap.size, 2, none⟩) hl).trans k2
  replace hl := Nat.lt_of_lt_of_le hl hb.size
  replace G := G.trans (hb.mono G.size); clear hb
  go_wp2_with fail
  refine (C2.out _).mono ?_; rintro e w3 ⟨rfl, hb⟩
  replace k0 := (hb.cell (p := ⟨w.heap.size, 0, none⟩) hl).trans k0
  replace k1 := (hb.cell (p := ⟨w.heap.size, 1, none⟩) hl).trans k1
  replace k2 := (hb.cell (p := ⟨w.heap.size, 2, none⟩) hl).trans k2
  replace hl := Nat.lt_of_lt_of_le hl hb.size
  replace G := G.trans (hb.mono G.size); clear hb
  go_wp2
  go_ret
  exact ⟨rfl, G⟩
set_option maxHeartbeats 1000000 in
set_option maxRecDepth 100000 in
theorem rr_19hi (a : Int) (S : ByteArray) (C1 : Hid (∀ W, Calls Tryz.prog 139 #[.int .i64 19] W fun e w' => e = .returned (.string S) ∧ Below W.heap.size W w')) (C2 : Hid (∀ W, Calls Tryz.prog 140 #[.int .i64 19] W fun e w' => e = .returned (.int .i64 1) ∧ Below W.heap.size W w')) (g2 : ¬ S.toList = []) (h1 : 0 ≤ a) (d1 : decide (0 ≤ a) = true) (h2 : 199 < a) (d2 : decide (a ≤ 199) = false) (w : World) :
    Calls Tryz.prog 110 #[.agg #[.int .i64 19, .int .i64 a, .int .i64 0]] w fun e w' => e = .returned (.bool false) ∧ Below w.heap.size w w' := by
  have g1 : S.toList.isEmpty = false := by simpa using g2
  have g3 : (S.toList == []) = false := by simpa using g2
  have G := (Below.refl w.heap.size w).alloc (Nat.le_refl _) (.cells #[.int .i64 19, .int .i64 a, .int .i64 0] 70)
  go_enter Tryz.func110, Tryz.ntmps110
  go_wp2_with fail
  refine (C1.out _).mono ?_; rintro e w1 ⟨rfl, hb⟩
  have k0 := hb.cell (p := ⟨w.heap.size, 0, none⟩) (by simp)
  have k1 := hb.cell (p := ⟨w.heap.size, 1, none⟩) (by simp)
  have k2 := hb.cell (p := ⟨w.heap.size, 2, none⟩) (by simp)
  have hz := hb.size
  simp at k0 k1 k2 hz
  have hl : w.heap.size < w1.heap.size := by omega
  clear hz
  replace G := G.trans (hb.mono G.size); clear hb
  go_wp2_with fail
  refine (C2.out _).mono ?_; rintro e w2 ⟨rfl, hb⟩
  replace k0 := (hb.cell (p := ⟨w.heap.size, 0, none⟩) hl).trans k0
  replace k1 := (hb.cell (p := ⟨w.heap.size, 1, none⟩) hl).trans k1
  replace k2 := (hb.cell (p := ⟨w.heap.size, 2, none⟩) hl).trans k2
  replace hl := Nat.lt_of_lt_of_le hl hb.size
  replace G := G.trans (hb.mono G.size); clear hb
  go_wp2_with fail
  refine (C2.out _).mono ?_; rintro e w3 ⟨rfl, hb⟩
  replace k0 := (hb.cell (p := ⟨w.heap.size, 0, none⟩) hl).trans k0
  replace k1 := (hb.cell (p := ⟨w.heap.size, 1, none⟩) hl).trans k1
  replace k2 := (hb.cell (p := ⟨w.heap.size, 2, none⟩) hl).trans k2
  replace hl := Nat.lt_of_lt_of_le hl hb.size
  replace G := G.trans (hb.mono G.size); clear hb
  go_wp2
  go_ret
  exact ⟨rfl, G⟩
set_option maxHeartbeats 1000000 in
set_option maxRecDepth 100000 in
theorem rr_19ok (a : Int) (S : ByteArray) (C1 : Hid (∀ W, Calls Tryz.prog 139 #[.int .i64 19] W fun e w' => e = .returned (.string S) ∧ Below W.heap.size W w')) (C2 : Hid (∀ W, Calls Tryz.prog 140 #[.int .i64 19] W fun e w' => e = .returned (.int .i64 1) ∧ Below W.heap.size W w')) (g2 : ¬ S.toList = []) (h1 : 0 ≤ a) (d1 : decide (0 ≤ a) = true) (h2 : a ≤ 199) (d2 : decide (a ≤ 199) = true) (w : World) :
    Calls Tryz.prog 110 #[.agg #[.int .i64 19, .int .i64 a, .int .i64 0]] w fun e w' => e = .returned (.bool true) ∧ Below w.heap.size w w' := by
  have g1 : S.toList.isEmpty = false := by simpa using g2
  have g3 : (S.toList == []) = false := by simpa using g2
  have G := (Below.refl w.heap.size w).alloc (Nat.le_refl _) (.cells #[.int .i64 19, .int .i64 a, .int .i64 0] 70)
  go_enter Tryz.func110, Tryz.ntmps110
  go_wp2_with fail
  refine (C1.out _).mono ?_; rintro e w1 ⟨rfl, hb⟩
  have k0 := hb.cell (p := ⟨w.heap.size, 0, none⟩) (by simp)
  have k1 := hb.cell (p := ⟨w.heap.size, 1, none⟩) (by simp)
  have k2 := hb.cell (p := ⟨w.heap.size, 2, none⟩) (by simp)
  have hz := hb.size
  simp at k0 k1 k2 hz
  have hl : w.heap.size < w1.heap.size := by omega
  clear hz
  replace G := G.trans (hb.mono G.size); clear hb
  go_wp2_with fail
  refine (C2.out _).mono ?_; rintro e w2 ⟨rfl, hb⟩
  replace k0 := (hb.cell (p := ⟨w.heap.size, 0, none⟩) hl).trans k0
  replace k1 := (hb.cell (p := ⟨w.heap.size, 1, none⟩) hl).trans k1
  replace k2 := (hb.cell (p := ⟨w.heap.size, 2, none⟩) hl).trans k2
  replace hl := Nat.lt_of_lt_of_le hl hb.size
  replace G := G.trans (hb.mono G.size); clear hb
  go_wp2_with fail
  refine (C2.out _).mono ?_; rintro e w3 ⟨rfl, hb⟩
  replace k0 := (hb.cell (p := ⟨w.heap.size, 0, none⟩) hl).trans k0
  replace k1 := (hb.cell (p := ⟨w.heap.size, 1, none⟩) hl).trans k1
  replace k2 := (hb.cell (p := ⟨w.heap.size, 2, none⟩) hl).trans k2
  replace hl := Nat.lt_of_lt_of_le hl hb.size
  replace G := G.trans (hb.mono G.size); clear hb
  go_wp2
  go_ret
  exact ⟨rfl, G⟩
set_option maxHeartbeats 1000000 in
set_option maxRecDepth 100000 in
theorem rr_20lo (a : Int) (S : ByteArray) (C1 : Hid (∀ W, Calls Tryz.prog 139 #[.int .i64 20] W fun e w' => e = .returned (.string S) ∧ Below W.heap.size W w')) (C2 : Hid (∀ W, Calls Tryz.prog 140 #[.int .i64 20] W fun e w' => e = .returned (.int .i64 1) ∧ Below W.heap.size W w')) (g2 : ¬ S.toList = []) (h1 : a < 0) (d1 : decide (0 ≤ a) = false) (w : World) :
    Calls Tryz.prog 110 #[.agg #[.int .i64 20, .int .i64 a, .int .i64 0]] w fun e w' => e = .returned (.bool false) ∧ Below w.heap.size w w' := by
  have g1 : S.toList.isEmpty = false := by simpa using g2
  have g3 : (S.toList == []) = false := by simpa using g2
  have G := (Below.refl w.heap.size w).alloc (Nat.le_refl _) (.cells #[.int .i64 20, .int .i64 a, .int .i64 0] 70)
  go_enter Tryz.func110, Tryz.ntmps110
  go_wp2_with fail
  refine (C1.out _).mono ?_; rintro e w1 ⟨rfl, hb⟩
  have k0 := hb.cell (p := ⟨w.heap.size, 0, none⟩) (by simp)
  have k1 := hb.cell (p := ⟨w.heap.size, 1, none⟩) (by simp)
  have k2 := hb.cell (p := ⟨w.heap.size, 2, none⟩) (by simp)
  have hz := hb.size
  simp at k0 k1 k2 hz
  have hl : w.heap.size < w1.heap.size := by omega
  clear hz
  replace G := G.trans (hb.mono G.size); clear hb
  go_wp2_with fail
  refine (C2.out _).mono ?_; rintro e w2 ⟨rfl, hb⟩
  replace k0 := (hb.cell (p := ⟨w.heap.size, 0, none⟩) hl).trans k0
  replace k1 := (hb.cell (p := ⟨w.heap.size, 1, none⟩) hl).trans k1
  replace k2 := (hb.cell (p := ⟨w.heap.size, 2, none⟩) hl).trans k2
  replace hl := Nat.lt_of_lt_of_le hl hb.size
  replace G := G.trans (hb.mono G.size); clear hb
  go_wp2_with fail
  refine (C2.out _).mono ?_; rintro e w3 ⟨rfl, hb⟩
  replace k0 := (hb.cell (p := ⟨w.heap.size, 0, none⟩) hl).trans k0
  replace k1 := (hb.cell (p := ⟨w.heap.size, 1, none⟩) hl).trans k1
  replace k2 := (hb.cell (p := ⟨w.heap.size, 2, none⟩) hl).trans k2
  replace hl := Nat.lt_of_lt_of_le hl hb.size
  replace G := G.trans (hb.mono G.size); clear hb
  go_wp2
  go_ret
  exact ⟨rfl, G⟩
set_option maxHeartbeats 1000000 in
set_option maxRecDepth 100000 in
theorem rr_20hi (a : Int) (S : ByteArray) (C1 : Hid (∀ W, Calls Tryz.prog 139 #[.int .i64 20] W fun e w' => e = .returned (.string S) ∧ Below W.heap.size W w')) (C2 : Hid (∀ W, Calls Tryz.prog 140 #[.int .i64 20] W fun e w' => e = .returned (.int .i64 1) ∧ Below W.heap.size W w')) (g2 : ¬ S.toList = []) (h1 : 0 ≤ a) (d1 : decide (0 ≤ a) = true) (h2 : 199 < a) (d2 : decide (a ≤ 199) = false) (w : World) :
    Calls Tryz.prog 110 #[.agg #[.int .i64 20, .int .i64 a, .int .i64 0]] w fun e w' => e = .returned (.bool false) ∧ Below w.heap.size w w' := by
  have g1 : S.toList.isEmpty = false := by simpa using g2
  have g3 : (S.toList == []) = false := by simpa using g2
  have G := (Below.refl w.heap.size w).alloc (Nat.le_refl _) (.cells #[.int .i64 20, .int .i64 a, .int .i64 0] 70)
  go_enter Tryz.func110, Tryz.ntmps110
  go_wp2_with fail
  refine (C1.out _).mono ?_; rintro e w1 ⟨rfl, hb⟩
  have k0 := hb.cell (p := ⟨w.heap.size, 0, none⟩) (by simp)
  have k1 := hb.cell (p := ⟨w.heap.size, 1, none⟩) (by simp)
  have k2 := hb.cell (p := ⟨w.heap.size, 2, none⟩) (by simp)
  have hz := hb.size
  simp at k0 k1 k2 hz
  have hl : w.heap.size < w1.heap.size := by omega
  clear hz
  replace G := G.trans (hb.mono G.size); clear hb
  go_wp2_with fail
  refine (C2.out _).mono ?_; rintro e w2 ⟨rfl, hb⟩
  replace k0 := (hb.cell (p := ⟨w.heap.size, 0, none⟩) hl).trans k0
  replace k1 := (hb.cell (p := ⟨w.heap.size, 1, none⟩) hl).trans k1
  replace k2 := (hb.cell (p := ⟨w.heap.size, 2, none⟩) hl).trans k2
  replace hl := Nat.lt_of_lt_of_le hl hb.size
  replace G := G.trans (hb.mono G.size); clear hb
  go_wp2_with fail
  refine (C2.out _).mono ?_; rintro e w3 ⟨rfl, hb⟩
  replace k0 := (hb.cell (p := ⟨w.heap.size, 0, none⟩) hl).trans k0
  replace k1 := (hb.cell (p := ⟨w.heap.size, 1, none⟩) hl).trans k1
  replace k2 := (hb.cell (p := ⟨w.heap.size, 2, none⟩) hl).trans k2
  replace hl := Nat.lt_of_lt_of_le hl hb.size
  replace G := G.trans (hb.mono G.size); clear hb
  go_wp2
  go_ret
  exact ⟨rfl, G⟩
set_option maxHeartbeats 1000000 in
set_option maxRecDepth 100000 in
theorem rr_20ok (a : Int) (S : ByteArray) (C1 : Hid (∀ W, Calls Tryz.prog 139 #[.int .i64 20] W fun e w' => e = .returned (.string S) ∧ Below W.heap.size W w')) (C2 : Hid (∀ W, Calls Tryz.prog 140 #[.int .i64 20] W fun e w' => e = .returned (.int .i64 1) ∧ Below W.heap.size W w')) (g2 : ¬ S.toList = []) (h1 : 0 ≤ a) (d1 : decide (0 ≤ a) = true) (h2 : a ≤ 199) (d2 : decide (a ≤ 199) = true) (w : World) :
    Calls Tryz.prog 110 #[.agg #[.int .i64 20, .int .i64 a, .int .i64 0]] w fun e w' => e = .returned (.bool true) ∧ Below w.heap.size w w' := by
  have g1 : S.toList.isEmpty = false := by simpa using g2
  have g3 : (S.toList == []) = false := by simpa using g2
  have G := (Below.refl w.heap.size w).alloc (Nat.le_refl _) (.cells #[.int .i64 20, .int .i64 a, .int .i64 0] 70)
  go_enter Tryz.func110, Tryz.ntmps110
  go_wp2_with fail
  refine (C1.out _).mono ?_; rintro e w1 ⟨rfl, hb⟩
  have k0 := hb.cell (p := ⟨w.heap.size, 0, none⟩) (by simp)
  have k1 := hb.cell (p := ⟨w.heap.size, 1, none⟩) (by simp)
  have k2 := hb.cell (p := ⟨w.heap.size, 2, none⟩) (by simp)
  have hz := hb.size
  simp at k0 k1 k2 hz
  have hl : w.heap.size < w1.heap.size := by omega
  clear hz
  replace G := G.trans (hb.mono G.size); clear hb
  go_wp2_with fail
  refine (C2.out _).mono ?_; rintro e w2 ⟨rfl, hb⟩
  replace k0 := (hb.cell (p := ⟨w.heap.size, 0, none⟩) hl).trans k0
  replace k1 := (hb.cell (p := ⟨w.heap.size, 1, none⟩) hl).trans k1
  replace k2 := (hb.cell (p := ⟨w.heap.size, 2, none⟩) hl).trans k2
  replace hl := Nat.lt_of_lt_of_le hl hb.size
  replace G := G.trans (hb.mono G.size); clear hb
  go_wp2_with fail
  refine (C2.out _).mono ?_; rintro e w3 ⟨rfl, hb⟩
  replace k0 := (hb.cell (p := ⟨w.heap.size, 0, none⟩) hl).trans k0
  replace k1 := (hb.cell (p := ⟨w.heap.size, 1, none⟩) hl).trans k1
  replace k2 := (hb.cell (p := ⟨w.heap.size, 2, none⟩) hl).trans k2
  replace hl := Nat.lt_of_lt_of_le hl hb.size
  replace G := G.trans (hb.mono G.size); clear hb
  go_wp2
  go_ret
  exact ⟨rfl, G⟩
set_option maxHeartbeats 1000000 in
set_option maxRecDepth 100000 in
theorem rr_21lo (a : Int) (S : ByteArray) (C1 : Hid (∀ W, Calls Tryz.prog 139 #[.int .i64 21] W fun e w' => e = .returned (.string S) ∧ Below W.heap.size W w')) (C2 : Hid (∀ W, Calls Tryz.prog 140 #[.int .i64 21] W fun e w' => e = .returned (.int .i64 1) ∧ Below W.heap.size W w')) (g2 : ¬ S.toList = []) (h1 : a < 1) (d1 : decide (1 ≤ a) = false) (w : World) :
    Calls Tryz.prog 110 #[.agg #[.int .i64 21, .int .i64 a, .int .i64 0]] w fun e w' => e = .returned (.bool false) ∧ Below w.heap.size w w' := by
  have g1 : S.toList.isEmpty = false := by simpa using g2
  have g3 : (S.toList == []) = false := by simpa using g2
  have G := (Below.refl w.heap.size w).alloc (Nat.le_refl _) (.cells #[.int .i64 21, .int .i64 a, .int .i64 0] 70)
  go_enter Tryz.func110, Tryz.ntmps110
  go_wp2_with fail
  refine (C1.out _).mono ?_; rintro e w1 ⟨rfl, hb⟩
  have k0 := hb.cell (p := ⟨w.heap.size, 0, none⟩) (by simp)
  have k1 := hb.cell (p := ⟨w.heap.size, 1, none⟩) (by simp)
  have k2 := hb.cell (p := ⟨w.heap.size, 2, none⟩) (by simp)
  have hz := hb.size
  simp at k0 k1 k2 hz
  have hl : w.heap.size < w1.heap.size := by omega
  clear hz
  replace G := G.trans (hb.mono G.size); clear hb
  go_wp2_with fail
  refine (C2.out _).mono ?_; rintro e w2 ⟨rfl, hb⟩
  replace k0 := (hb.cell (p := ⟨w.heap.size, 0, none⟩) hl).trans k0
  replace k1 := (hb.cell (p := ⟨w.heap.size, 1, none⟩) hl).trans k1
  replace k2 := (hb.cell (p := ⟨w.heap.size, 2, none⟩) hl).trans k2
  replace hl := Nat.lt_of_lt_of_le hl hb.size
  replace G := G.trans (hb.mono G.size); clear hb
  go_wp2_with fail
  refine (C2.out _).mono ?_; rintro e w3 ⟨rfl, hb⟩
  replace k0 := (hb.cell (p := ⟨w.heap.size, 0, none⟩) hl).trans k0
  replace k1 := (hb.cell (p := ⟨w.heap.size, 1, none⟩) hl).trans k1
  replace k2 := (hb.cell (p := ⟨w.heap.size, 2, none⟩) hl).trans k2
  replace hl := Nat.lt_of_lt_of_le hl hb.size
  replace G := G.trans (hb.mono G.size); clear hb
  go_wp2
  go_ret
  exact ⟨rfl, G⟩
set_option maxHeartbeats 1000000 in
set_option maxRecDepth 100000 in
theorem rr_21hi (a : Int) (S : ByteArray) (C1 : Hid (∀ W, Calls Tryz.prog 139 #[.int .i64 21] W fun e w' => e = .returned (.string S) ∧ Below W.heap.size W w')) (C2 : Hid (∀ W, Calls Tryz.prog 140 #[.int .i64 21] W fun e w' => e = .returned (.int .i64 1) ∧ Below W.heap.size W w')) (g2 : ¬ S.toList = []) (h1 : 1 ≤ a) (d1 : decide (1 ≤ a) = true) (h2 : 1000 < a) (d2 : decide (a ≤ 1000) = false) (w : World) :
    Calls Tryz.prog 110 #[.agg #[.int .i64 21, .int .i64 a, .int .i64 0]] w fun e w' => e = .returned (.bool false) ∧ Below w.heap.size w w' := by
  have g1 : S.toList.isEmpty = false := by simpa using g2
  have g3 : (S.toList == []) = false := by simpa using g2
  have G := (Below.refl w.heap.size w).alloc (Nat.le_refl _) (.cells #[.int .i64 21, .int .i64 a, .int .i64 0] 70)
  go_enter Tryz.func110, Tryz.ntmps110
  go_wp2_with fail
  refine (C1.out _).mono ?_; rintro e w1 ⟨rfl, hb⟩
  have k0 := hb.cell (p := ⟨w.heap.size, 0, none⟩) (by simp)
  have k1 := hb.cell (p := ⟨w.heap.size, 1, none⟩) (by simp)
  have k2 := hb.cell (p := ⟨w.heap.size, 2, none⟩) (by simp)
  have hz := hb.size
  simp at k0 k1 k2 hz
  have hl : w.heap.size < w1.heap.size := by omega
  clear hz
  replace G := G.trans (hb.mono G.size); clear hb
  go_wp2_with fail
  refine (C2.out _).mono ?_; rintro e w2 ⟨rfl, hb⟩
  replace k0 := (hb.cell (p := ⟨w.heap.size, 0, none⟩) hl).trans k0
  replace k1 := (hb.cell (p := ⟨w.heap.size, 1, none⟩) hl).trans k1
  replace k2 := (hb.cell (p := ⟨w.heap.size, 2, none⟩) hl).trans k2
  replace hl := Nat.lt_of_lt_of_le hl hb.size
  replace G := G.trans (hb.mono G.size); clear hb
  go_wp2_with fail
  refine (C2.out _).mono ?_; rintro e w3 ⟨rfl, hb⟩
  replace k0 := (hb.cell (p := ⟨w.heap.size, 0, none⟩) hl).trans k0
  replace k1 := (hb.cell (p := ⟨w.heap.size, 1, none⟩) hl).trans k1
  replace k2 := (hb.cell (p := ⟨w.heap.size, 2, none⟩) hl).trans k2
  replace hl := Nat.lt_of_lt_of_le hl hb.size
  replace G := G.trans (hb.mono G.size); clear hb
  go_wp2
  go_ret
  exact ⟨rfl, G⟩
set_option maxHeartbeats 1000000 in
set_option maxRecDepth 100000 in
theorem rr_21ok (a : Int) (S : ByteArray) (C1 : Hid (∀ W, Calls Tryz.prog 139 #[.int .i64 21] W fun e w' => e = .returned (.string S) ∧ Below W.heap.size W w')) (C2 : Hid (∀ W, Calls Tryz.prog 140 #[.int .i64 21] W fun e w' => e = .returned (.int .i64 1) ∧ Below W.heap.size W w')) (g2 : ¬ S.toList = []) (h1 : 1 ≤ a) (d1 : decide (1 ≤ a) = true) (h2 : a ≤ 1000) (d2 : decide (a ≤ 1000) = true) (w : World) :
    Calls Tryz.prog 110 #[.agg #[.int .i64 21, .int .i64 a, .int .i64 0]] w fun e w' => e = .returned (.bool true) ∧ Below w.heap.size w w' := by
  have g1 : S.toList.isEmpty = false := by simpa using g2
  have g3 : (S.toList == []) = false := by simpa using g2
  have G := (Below.refl w.heap.size w).alloc (Nat.le_refl _) (.cells #[.int .i64 21, .int .i64 a, .int .i64 0] 70)
  go_enter Tryz.func110, Tryz.ntmps110
  go_wp2_with fail
  refine (C1.out _).mono ?_; rintro e w1 ⟨rfl, hb⟩
  have k0 := hb.cell (p := ⟨w.heap.size, 0, none⟩) (by simp)
  have k1 := hb.cell (p := ⟨w.heap.size, 1, none⟩) (by simp)
  have k2 := hb.cell (p := ⟨w.heap.size, 2, none⟩) (by simp)
  have hz := hb.size
  simp at k0 k1 k2 hz
  have hl : w.heap.size < w1.heap.size := by omega
  clear hz
  replace G := G.trans (hb.mono G.size); clear hb
  go_wp2_with fail
  refine (C2.out _).mono ?_; rintro e w2 ⟨rfl, hb⟩
  replace k0 := (hb.cell (p := ⟨w.heap.size, 0, none⟩) hl).trans k0
  replace k1 := (hb.cell (p := ⟨w.heap.size, 1, none⟩) hl).trans k1
  replace k2 := (hb.cell (p := ⟨w.heap.size, 2, none⟩) hl).trans k2
  replace hl := Nat.lt_of_lt_of_le hl hb.size
  replace G := G.trans (hb.mono G.size); clear hb
  go_wp2_with fail
  refine (C2.out _).mono ?_; rintro e w3 ⟨rfl, hb⟩
  replace k0 := (hb.cell (p := ⟨w.heap.size, 0, none⟩) hl).trans k0
  replace k1 := (hb.cell (p := ⟨w.heap.size, 1, none⟩) hl).trans k1
  replace k2 := (hb.cell (p := ⟨w.heap.size, 2, none⟩) hl).trans k2
  replace hl := Nat.lt_of_lt_of_le hl hb.size
  replace G := G.trans (hb.mono G.size); clear hb
  go_wp2
  go_ret
  exact ⟨rfl, G⟩
end Go.Proofs.YthncbnalnfbpnaaGreatDoor
end

section
namespace Go.Proofs.YthncbnalnfbpnaaGreatDoor
open Go.ChangeShapes Go.WideShapes Go.RowKit
set_option linter.unusedVariables false

set_option maxHeartbeats 1000000 in
set_option maxRecDepth 100000 in
theorem rr_11lo (a : Int) (S : ByteArray) (C1 : Hid (∀ W, Calls Tryz.prog 139 #[.int .i64 11] W fun e w' => e = .returned (.string S) ∧ Below W.heap.size W w')) (C2 : Hid (∀ W, Calls Tryz.prog 140 #[.int .i64 11] W fun e w' => e = .returned (.int .i64 1) ∧ Below W.heap.size W w')) (g2 : ¬ S.toList = []) (h1 : a < 0) (d1 : decide (0 ≤ a) = false) (w : World) :
    Calls Tryz.prog 110 #[.agg #[.int .i64 11, .int .i64 a, .int .i64 0]] w fun e w' => e = .returned (.bool false) ∧ Below w.heap.size w w' := by
  have g1 : S.toList.isEmpty = false := by simpa using g2
  have g3 : (S.toList == []) = false := by simpa using g2
  have G := (Below.refl w.heap.size w).alloc (Nat.le_refl _) (.cells #[.int .i64 11, .int .i64 a, .int .i64 0] 70)
  go_enter Tryz.func110, Tryz.ntmps110
  go_wp2_with fail
  refine (C1.out _).mono ?_; rintro e w1 ⟨rfl, hb⟩
  have k0 := hb.cell (p := ⟨w.heap.size, 0, none⟩) (by simp)
  have k1 := hb.cell (p := ⟨w.heap.size, 1, none⟩) (by simp)
  have k2 := hb.cell (p := ⟨w.heap.size, 2, none⟩) (by simp)
  have hz := hb.size
  simp at k0 k1 k2 hz
  have hl : w.heap.size < w1.heap.size := by omega
  clear hz
  replace G := G.trans (hb.mono G.size); clear hb
  go_wp2_with fail
  refine (C2.out _).mono ?_; rintro e w2 ⟨rfl, hb⟩
  replace k0 := (hb.cell (p := ⟨w.heap.size, 0, none⟩) hl).trans k0
  replace k1 := (hb.cell (p := ⟨w.heap.size, 1, none⟩) hl).trans k1
  replace k2 := (hb.cell (p := ⟨w.heap.size, 2, none⟩) hl).trans k2
  replace hl := Nat.lt_of_lt_of_le hl hb.size
  replace G := G.trans (hb.mono G.size); clear hb
  go_wp2_with fail
  refine (C2.out _).mono ?_; rintro e w3 ⟨rfl, hb⟩
  replace k0 := (hb.cell (p := ⟨w.heap.size, 0, none⟩) hl).trans k0
  replace k1 := (hb.cell (p := ⟨w.heap.size, 1, none⟩) hl).trans k1
  replace k2 := (hb.cell (p := ⟨w.heap.size, 2, none⟩) hl).trans k2
  replace hl := Nat.lt_of_lt_of_le hl hb.size
  replace G := G.trans (hb.mono G.size); clear hb
  go_wp2
  go_ret
  exact ⟨rfl, G⟩
set_option maxHeartbeats 1000000 in
set_option maxRecDepth 100000 in
theorem rr_11hi (a : Int) (S : ByteArray) (C1 : Hid (∀ W, Calls Tryz.prog 139 #[.int .i64 11] W fun e w' => e = .returned (.string S) ∧ Below W.heap.size W w')) (C2 : Hid (∀ W, Calls Tryz.prog 140 #[.int .i64 11] W fun e w' => e = .returned (.int .i64 1) ∧ Below W.heap.size W w')) (g2 : ¬ S.toList = []) (h1 : 0 ≤ a) (d1 : decide (0 ≤ a) = true) (h2 : 7 < a) (d2 : decide (a ≤ 7) = false) (w : World) :
    Calls Tryz.prog 110 #[.agg #[.int .i64 11, .int .i64 a, .int .i64 0]] w fun e w' => e = .returned (.bool false) ∧ Below w.heap.size w w' := by
  have g1 : S.toList.isEmpty = false := by simpa using g2
  have g3 : (S.toList == []) = false := by simpa using g2
  have G := (Below.refl w.heap.size w).alloc (Nat.le_refl _) (.cells #[.int .i64 11, .int .i64 a, .int .i64 0] 70)
  go_enter Tryz.func110, Tryz.ntmps110
  go_wp2_with fail
  refine (C1.out _).mono ?_; rintro e w1 ⟨rfl, hb⟩
  have k0 := hb.cell (p := ⟨w.heap.size, 0, none⟩) (by simp)
  have k1 := hb.cell (p := ⟨w.heap.size, 1, none⟩) (by simp)
  have k2 := hb.cell (p := ⟨w.heap.size, 2, none⟩) (by simp)
  have hz := hb.size
  simp at k0 k1 k2 hz
  have hl : w.heap.size < w1.heap.size := by omega
  clear hz
  replace G := G.trans (hb.mono G.size); clear hb
  go_wp2_with fail
  refine (C2.out _).mono ?_; rintro e w2 ⟨rfl, hb⟩
  replace k0 := (hb.cell (p := ⟨w.heap.size, 0, none⟩) hl).trans k0
  replace k1 := (hb.cell (p := ⟨w.heap.size, 1, none⟩) hl).trans k1
  replace k2 := (hb.cell (p := ⟨w.heap.size, 2, none⟩) hl).trans k2
  replace hl := Nat.lt_of_lt_of_le hl hb.size
  replace G := G.trans (hb.mono G.size); clear hb
  go_wp2_with fail
  refine (C2.out _).mono ?_; rintro e w3 ⟨rfl, hb⟩
  replace k0 := (hb.cell (p := ⟨w.heap.size, 0, none⟩) hl).trans k0
  replace k1 := (hb.cell (p := ⟨w.heap.size, 1, none⟩) hl).trans k1
  replace k2 := (hb.cell (p := ⟨w.heap.size, 2, none⟩) hl).trans k2
  replace hl := Nat.lt_of_lt_of_le hl hb.size
  replace G := G.trans (hb.mono G.size); clear hb
  go_wp2
  go_ret
  exact ⟨rfl, G⟩
set_option maxHeartbeats 1000000 in
set_option maxRecDepth 100000 in
theorem rr_11ok (a : Int) (S : ByteArray) (C1 : Hid (∀ W, Calls Tryz.prog 139 #[.int .i64 11] W fun e w' => e = .returned (.string S) ∧ Below W.heap.size W w')) (C2 : Hid (∀ W, Calls Tryz.prog 140 #[.int .i64 11] W fun e w' => e = .returned (.int .i64 1) ∧ Below W.heap.size W w')) (g2 : ¬ S.toList = []) (h1 : 0 ≤ a) (d1 : decide (0 ≤ a) = true) (h2 : a ≤ 7) (d2 : decide (a ≤ 7) = true) (w : World) :
    Calls Tryz.prog 110 #[.agg #[.int .i64 11, .int .i64 a, .int .i64 0]] w fun e w' => e = .returned (.bool true) ∧ Below w.heap.size w w' := by
  have g1 : S.toList.isEmpty = false := by simpa using g2
  have g3 : (S.toList == []) = false := by simpa using g2
  have G := (Below.refl w.heap.size w).alloc (Nat.le_refl _) (.cells #[.int .i64 11, .int .i64 a, .int .i64 0] 70)
  go_enter Tryz.func110, Tryz.ntmps110
  go_wp2_with fail
  refine (C1.out _).mono ?_; rintro e w1 ⟨rfl, hb⟩
  have k0 := hb.cell (p := ⟨w.heap.size, 0, none⟩) (by simp)
  have k1 := hb.cell (p := ⟨w.heap.size, 1, none⟩) (by simp)
  have k2 := hb.cell (p := ⟨w.heap.size, 2, none⟩) (by simp)
  have hz := hb.size
  simp at k0 k1 k2 hz
  have hl : w.heap.size < w1.heap.size := by omega
  clear hz
  replace G := G.trans (hb.mono G.size); clear hb
  go_wp2_with fail
  refine (C2.out _).mono ?_; rintro e w2 ⟨rfl, hb⟩
  replace k0 := (hb.cell (p := ⟨w.heap.size, 0, none⟩) hl).trans k0
  replace k1 := (hb.cell (p := ⟨w.heap.size, 1, none⟩) hl).trans k1
  replace k2 := (hb.cell (p := ⟨w.heap.size, 2, none⟩) hl).trans k2
  replace hl := Nat.lt_of_lt_of_le hl hb.size
  replace G := G.trans (hb.mono G.size); clear hb
  go_wp2_with fail
  refine (C2.out _).mono ?_; rintro e w3 ⟨rfl, hb⟩
  replace k0 := (hb.cell (p := ⟨w.heap.size, 0, none⟩) hl).trans k0
  replace k1 := (hb.cell (p := ⟨w.heap.size, 1, none⟩) hl).trans k1
  replace k2 := (hb.cell (p := ⟨w.heap.size, 2, none⟩) hl).trans k2
  replace hl := Nat.lt_of_lt_of_le hl hb.size
  replace G := G.trans (hb.mono G.size); clear hb
  go_wp2
  go_ret
  exact ⟨rfl, G⟩
set_option maxHeartbeats 1000000 in
set_option maxRecDepth 100000 in
theorem rr_12lo (a : Int) (S : ByteArray) (C1 : Hid (∀ W, Calls Tryz.prog 139 #[.int .i64 12] W fun e w' => e = .returned (.string S) ∧ Below W.heap.size W w')) (C2 : Hid (∀ W, Calls Tryz.prog 140 #[.int .i64 12] W fun e w' => e = .returned (.int .i64 1) ∧ Below W.heap.size W w')) (g2 : ¬ S.toList = []) (h1 : a < 0) (d1 : decide (0 ≤ a) = false) (w : World) :
    Calls Tryz.prog 110 #[.agg #[.int .i64 12, .int .i64 a, .int .i64 0]] w fun e w' => e = .returned (.bool false) ∧ Below w.heap.size w w' := by
  have g1 : S.toList.isEmpty = false := by simpa using g2
  have g3 : (S.toList == []) = false := by simpa using g2
  have G := (Below.refl w.heap.size w).alloc (Nat.le_refl _) (.cells #[.int .i64 12, .int .i64 a, .int .i64 0] 70)
  go_enter Tryz.func110, Tryz.ntmps110
  go_wp2_with fail
  refine (C1.out _).mono ?_; rintro e w1 ⟨rfl, hb⟩
  have k0 := hb.cell (p := ⟨w.heap.size, 0, none⟩) (by simp)
  have k1 := hb.cell (p := ⟨w.heap.size, 1, none⟩) (by simp)
  have k2 := hb.cell (p := ⟨w.heap.size, 2, none⟩) (by simp)
  have hz := hb.size
  simp at k0 k1 k2 hz
  have hl : w.heap.size < w1.heap.size := by omega
  clear hz
  replace G := G.trans (hb.mono G.size); clear hb
  go_wp2_with fail
  refine (C2.out _).mono ?_; rintro e w2 ⟨rfl, hb⟩
  replace k0 := (hb.cell (p := ⟨w.heap.size, 0, none⟩) hl).trans k0
  replace k1 := (hb.cell (p := ⟨w.heap.size, 1, none⟩) hl).trans k1
  replace k2 := (hb.cell (p := ⟨w.heap.size, 2, none⟩) hl).trans k2
  replace hl := Nat.lt_of_lt_of_le hl hb.size
  replace G := G.trans (hb.mono G.size); clear hb
  go_wp2_with fail
  refine (C2.out _).mono ?_; rintro e w3 ⟨rfl, hb⟩
  replace k0 := (hb.cell (p := ⟨w.heap.size, 0, none⟩) hl).trans k0
  replace k1 := (hb.cell (p := ⟨w.heap.size, 1, none⟩) hl).trans k1
  replace k2 := (hb.cell (p := ⟨w.heap.size, 2, none⟩) hl).trans k2
  replace hl := Nat.lt_of_lt_of_le hl hb.size
  replace G := G.trans (hb.mono G.size); clear hb
  go_wp2
  go_ret
  exact ⟨rfl, G⟩
set_option maxHeartbeats 1000000 in
set_option maxRecDepth 100000 in
theorem rr_12hi (a : Int) (S : ByteArray) (C1 : Hid (∀ W, Calls Tryz.prog 139 #[.int .i64 12] W fun e w' => e = .returned (.string S) ∧ Below W.heap.size W w')) (C2 : Hid (∀ W, Calls Tryz.prog 140 #[.int .i64 12] W fun e w' => e = .returned (.int .i64 1) ∧ Below W.heap.size W w')) (g2 : ¬ S.toList = []) (h1 : 0 ≤ a) (d1 : decide (0 ≤ a) = true) (h2 : 7 < a) (d2 : decide (a ≤ 7) = false) (w : World) :
    Calls Tryz.prog 110 #[.agg #[.int .i64 12, .int .i64 a, .int .i64 0]] w fun e w' => e = .returned (.bool false) ∧ Below w.heap.size w w' := by
  have g1 : S.toList.isEmpty = false := by simpa using g2
  have g3 : (S.toList == []) = false := by simpa using g2
  have G := (Below.refl w.heap.size w).alloc (Nat.le_refl _) (.cells #[.int .i64 12, .int .i64 a, .int .i64 0] 70)
  go_enter Tryz.func110, Tryz.ntmps110
  go_wp2_with fail
  refine (C1.out _).mono ?_; rintro e w1 ⟨rfl, hb⟩
  have k0 := hb.cell (p := ⟨w.heap.size, 0, none⟩) (by simp)
  have k1 := hb.cell (p := ⟨w.heap.size, 1, none⟩) (by simp)
  have k2 := hb.cell (p := ⟨w.heap.size, 2, none⟩) (by simp)
  have hz := hb.size
  simp at k0 k1 k2 hz
  have hl : w.heap.size < w1.heap.size := by omega
  clear hz
  replace G := G.trans (hb.mono G.size); clear hb
  go_wp2_with fail
  refine (C2.out _).mono ?_; rintro e w2 ⟨rfl, hb⟩
  replace k0 := (hb.cell (p := ⟨w.heap.size, 0, none⟩) hl).trans k0
  replace k1 := (hb.cell (p := ⟨w.heap.size, 1, none⟩) hl).trans k1
  replace k2 := (hb.cell (p := ⟨w.heap.size, 2, none⟩) hl).trans k2
  replace hl := Nat.lt_of_lt_of_le hl hb.size
  replace G := G.trans (hb.mono G.size); clear hb
  go_wp2_with fail
  refine (C2.out _).mono ?_; rintro e w3 ⟨rfl, hb⟩
  replace k0 := (hb.cell (p := ⟨w.heap.size, 0, none⟩) hl).trans k0
  replace k1 := (hb.cell (p := ⟨w.heap.size, 1, none⟩) hl).trans k1
  replace k2 := (hb.cell (p := ⟨w.heap.size, 2, none⟩) hl).trans k2
  replace hl := Nat.lt_of_lt_of_le hl hb.size
  replace G := G.trans (hb.mono G.size); clear hb
  go_wp2
  go_ret
  exact ⟨rfl, G⟩
set_option maxHeartbeats 1000000 in
set_option maxRecDepth 100000 in
theorem rr_12ok (a : Int) (S : ByteArray) (C1 : Hid (∀ W, Calls Tryz.prog 139 #[.int .i64 12] W fun e w' => e = .returned (.string S) ∧ Below W.heap.size W w')) (C2 : Hid (∀ W, Calls Tryz.prog 140 #[.int .i64 12] W fun e w' => e = .returned (.int .i64 1) ∧ Below W.heap.size W w')) (g2 : ¬ S.toList = []) (h1 : 0 ≤ a) (d1 : decide (0 ≤ a) = true) (h2 : a ≤ 7) (d2 : decide (a ≤ 7) = true) (w : World) :
    Calls Tryz.prog 110 #[.agg #[.int .i64 12, .int .i64 a, .int .i64 0]] w fun e w' => e = .returned (.bool true) ∧ Below w.heap.size w w' := by
  have g1 : S.toList.isEmpty = false := by simpa using g2
  have g3 : (S.toList == []) = false := by simpa using g2
  have G := (Below.refl w.heap.size w).alloc (Nat.le_refl _) (.cells #[.int .i64 12, .int .i64 a, .int .i64 0] 70)
  go_enter Tryz.func110, Tryz.ntmps110
  go_wp2_with fail
  refine (C1.out _).mono ?_; rintro e w1 ⟨rfl, hb⟩
  have k0 := hb.cell (p := ⟨w.heap.size, 0, none⟩) (by simp)
  have k1 := hb.cell (p := ⟨w.heap.size, 1, none⟩) (by simp)
  have k2 := hb.cell (p := ⟨w.heap.size, 2, none⟩) (by simp)
  have hz := hb.size
  simp at k0 k1 k2 hz
  have hl : w.heap.size < w1.heap.size := by omega
  clear hz
  replace G := G.trans (hb.mono G.size); clear hb
  go_wp2_with fail
  refine (C2.out _).mono ?_; rintro e w2 ⟨rfl, hb⟩
  replace k0 := (hb.cell (p := ⟨w.heap.size, 0, none⟩) hl).trans k0
  replace k1 := (hb.cell (p := ⟨w.heap.size, 1, none⟩) hl).trans k1
  replace k2 := (hb.cell (p := ⟨w.heap.size, 2, none⟩) hl).trans k2
  replace hl := Nat.lt_of_lt_of_le hl hb.size
  replace G := G.trans (hb.mono G.size); clear hb
  go_wp2_with fail
  refine (C2.out _).mono ?_; rintro e w3 ⟨rfl, hb⟩
  replace k0 := (hb.cell (p := ⟨w.heap.size, 0, none⟩) hl).trans k0
  replace k1 := (hb.cell (p := ⟨w.heap.size, 1, none⟩) hl).trans k1
  replace k2 := (hb.cell (p := ⟨w.heap.size, 2, none⟩) hl).trans k2
  replace hl := Nat.lt_of_lt_of_le hl hb.size
  replace G := G.trans (hb.mono G.size); clear hb
  go_wp2
  go_ret
  exact ⟨rfl, G⟩
set_option maxHeartbeats 1000000 in
set_option maxRecDepth 100000 in
theorem rr_13lo (a : Int) (S : ByteArray) (C1 : Hid (∀ W, Calls Tryz.prog 139 #[.int .i64 13] W fun e w' => e = .returned (.string S) ∧ Below W.heap.size W w')) (C2 : Hid (∀ W, Calls Tryz.prog 140 #[.int .i64 13] W fun e w' => e = .returned (.int .i64 1) ∧ Below W.heap.size W w')) (g2 : ¬ S.toList = []) (h1 : a < 0) (d1 : decide (0 ≤ a) = false) (w : World) :
    Calls Tryz.prog 110 #[.agg #[.int .i64 13, .int .i64 a, .int .i64 0]] w fun e w' => e = .returned (.bool false) ∧ Below w.heap.size w w' := by
  have g1 : S.toList.isEmpty = false := by simpa using g2
  have g3 : (S.toList == []) = false := by simpa using g2
  have G := (Below.refl w.heap.size w).alloc (Nat.le_refl _) (.cells #[.int .i64 13, .int .i64 a, .int .i64 0] 70)
  go_enter Tryz.func110, Tryz.ntmps110
  go_wp2_with fail
  refine (C1.out _).mono ?_; rintro e w1 ⟨rfl, hb⟩
  have k0 := hb.cell (p := ⟨w.heap.size, 0, none⟩) (by simp)
  have k1 := hb.cell (p := ⟨w.heap.size, 1, none⟩) (by simp)
  have k2 := hb.cell (p := ⟨w.heap.size, 2, none⟩) (by simp)
  have hz := hb.size
  simp at k0 k1 k2 hz
  have hl : w.heap.size < w1.heap.size := by omega
  clear hz
  replace G := G.trans (hb.mono G.size); clear hb
  go_wp2_with fail
  refine (C2.out _).mono ?_; rintro e w2 ⟨rfl, hb⟩
  replace k0 := (hb.cell (p := ⟨w.heap.size, 0, none⟩) hl).trans k0
  replace k1 := (hb.cell (p := ⟨w.heap.size, 1, none⟩) hl).trans k1
  replace k2 := (hb.cell (p := ⟨w.heap.size, 2, none⟩) hl).trans k2
  replace hl := Nat.lt_of_lt_of_le hl hb.size
  replace G := G.trans (hb.mono G.size); clear hb
  go_wp2_with fail
  refine (C2.out _).mono ?_; rintro e w3 ⟨rfl, hb⟩
  replace k0 := (hb.cell (p := ⟨w.heap.size, 0, none⟩) hl).trans k0
  replace k1 := (hb.cell (p := ⟨w.heap.size, 1, none⟩) hl).trans k1
  replace k2 := (hb.cell (p := ⟨w.heap.size, 2, none⟩) hl).trans k2
  replace hl := Nat.lt_of_lt_of_le hl hb.size
  replace G := G.trans (hb.mono G.size); clear hb
  go_wp2
  go_ret
  exact ⟨rfl, G⟩
set_option maxHeartbeats 1000000 in
set_option maxRecDepth 100000 in
theorem rr_13hi (a : Int) (S : ByteArray) (C1 : Hid (∀ W, Calls Tryz.prog 139 #[.int .i64 13] W fun e w' => e = .returned (.string S) ∧ Below W.heap.size W w')) (C2 : Hid (∀ W, Calls Tryz.prog 140 #[.int .i64 13] W fun e w' => e = .returned (.int .i64 1) ∧ Below W.heap.size W w')) (g2 : ¬ S.toList = []) (h1 : 0 ≤ a) (d1 : decide (0 ≤ a) = true) (h2 : 7 < a) (d2 : decide (a ≤ 7) = false) (w : World) :
    Calls Tryz.prog 110 #[.agg #[.int .i64 13, .int .i64 a, .int .i64 0]] w fun e w' => e = .returned (.bool false) ∧ Below w.heap.size w w' := by
  have g1 : S.toList.isEmpty = false := by simpa using g2
  have g3 : (S.toList == []) = false := by simpa using g2
  have G := (Below.refl w.heap.size w).alloc (Nat.le_refl _) (.cells #[.int .i64 13, .int .i64 a, .int .i64 0] 70)
  go_enter Tryz.func110, Tryz.ntmps110
  go_wp2_with fail
  refine (C1.out _).mono ?_; rintro e w1 ⟨rfl, hb⟩
  have k0 := hb.cell (p := ⟨w.heap.size, 0, none⟩) (by simp)
  have k1 := hb.cell (p := ⟨w.heap.size, 1, none⟩) (by simp)
  have k2 := hb.cell (p := ⟨w.heap.size, 2, none⟩) (by simp)
  have hz := hb.size
  simp at k0 k1 k2 hz
  have hl : w.heap.size < w1.heap.size := by omega
  clear hz
  replace G := G.trans (hb.mono G.size); clear hb
  go_wp2_with fail
  refine (C2.out _).mono ?_; rintro e w2 ⟨rfl, hb⟩
  replace k0 := (hb.cell (p := ⟨w.heap.size, 0, none⟩) hl).trans k0
  replace k1 := (hb.cell (p := ⟨w.heap.size, 1, none⟩) hl).trans k1
  replace k2 := (hb.cell (p := ⟨w.heap.size, 2, none⟩) hl).trans k2
  replace hl := Nat.lt_of_lt_of_le hl hb.size
  replace G := G.trans (hb.mono G.size); clear hb
  go_wp2_with fail
  refine (C2.out _).mono ?_; rintro e w3 ⟨rfl, hb⟩
  replace k0 := (hb.cell (p := ⟨w.heap.size, 0, none⟩) hl).trans k0
  replace k1 := (hb.cell (p := ⟨w.heap.size, 1, none⟩) hl).trans k1
  replace k2 := (hb.cell (p := ⟨w.heap.size, 2, none⟩) hl).trans k2
  replace hl := Nat.lt_of_lt_of_le hl hb.size
  replace G := G.trans (hb.mono G.size); clear hb
  go_wp2
  go_ret
  exact ⟨rfl, G⟩
set_option maxHeartbeats 1000000 in
set_option maxRecDepth 100000 in
theorem rr_13ok (a : Int) (S : ByteArray) (C1 : Hid (∀ W, Calls Tryz.prog 139 #[.int .i64 13] W fun e w' => e = .returned (.string S) ∧ Below W.heap.size W w')) (C2 : Hid (∀ W, Calls Tryz.prog 140 #[.int .i64 13] W fun e w' => e = .returned (.int .i64 1) ∧ Below W.heap.size W w')) (g2 : ¬ S.toList = []) (h1 : 0 ≤ a) (d1 : decide (0 ≤ a) = true) (h2 : a ≤ 7) (d2 : decide (a ≤ 7) = true) (w : World) :
    Calls Tryz.prog 110 #[.agg #[.int .i64 13, .int .i64 a, .int .i64 0]] w fun e w' => e = .returned (.bool true) ∧ Below w.heap.size w w' := by
  have g1 : S.toList.isEmpty = false := by simpa using g2
  have g3 : (S.toList == []) = false := by simpa using g2
  have G := (Below.refl w.heap.size w).alloc (Nat.le_refl _) (.cells #[.int .i64 13, .int .i64 a, .int .i64 0] 70)
  go_enter Tryz.func110, Tryz.ntmps110
  go_wp2_with fail
  refine (C1.out _).mono ?_; rintro e w1 ⟨rfl, hb⟩
  have k0 := hb.cell (p := ⟨w.heap.size, 0, none⟩) (by simp)
  have k1 := hb.cell (p := ⟨w.heap.size, 1, none⟩) (by simp)
  have k2 := hb.cell (p := ⟨w.heap.size, 2, none⟩) (by simp)
  have hz := hb.size
  simp at k0 k1 k2 hz
  have hl : w.heap.size < w1.heap.size := by omega
  clear hz
  replace G := G.trans (hb.mono G.size); clear hb
  go_wp2_with fail
  refine (C2.out _).mono ?_; rintro e w2 ⟨rfl, hb⟩
  replace k0 := (hb.cell (p := ⟨w.heap.size, 0, none⟩) hl).trans k0
  replace k1 := (hb.cell (p := ⟨w.heap.size, 1, none⟩) hl).trans k1
  replace k2 := (hb.cell (p := ⟨w.heap.size, 2, none⟩) hl).trans k2
  replace hl := Nat.lt_of_lt_of_le hl hb.size
  replace G := G.trans (hb.mono G.size); clear hb
  go_wp2_with fail
  refine (C2.out _).mono ?_; rintro e w3 ⟨rfl, hb⟩
  replace k0 := (hb.cell (p := ⟨w.heap.size, 0, none⟩) hl).trans k0
  replace k1 := (hb.cell (p := ⟨w.heap.size, 1, none⟩) hl).trans k1
  replace k2 := (hb.cell (p := ⟨w.heap.size, 2, none⟩) hl).trans k2
  replace hl := Nat.lt_of_lt_of_le hl hb.size
  replace G := G.trans (hb.mono G.size); clear hb
  go_wp2
  go_ret
  exact ⟨rfl, G⟩
set_option maxHeartbeats 1000000 in
set_option maxRecDepth 100000 in
theorem rr_14lo (a : Int) (S : ByteArray) (C1 : Hid (∀ W, Calls Tryz.prog 139 #[.int .i64 14] W fun e w' => e = .returned (.string S) ∧ Below W.heap.size W w')) (C2 : Hid (∀ W, Calls Tryz.prog 140 #[.int .i64 14] W fun e w' => e = .returned (.int .i64 1) ∧ Below W.heap.size W w')) (g2 : ¬ S.toList = []) (h1 : a < 0) (d1 : decide (0 ≤ a) = false) (w : World) :
    Calls Tryz.prog 110 #[.agg #[.int .i64 14, .int .i64 a, .int .i64 0]] w fun e w' => e = .returned (.bool false) ∧ Below w.heap.size w w' := by
  have g1 : S.toList.isEmpty = false := by simpa using g2
  have g3 : (S.toList == []) = false := by simpa using g2
  have G := (Below.refl w.heap.size w).alloc (Nat.le_refl _) (.cells #[.int .i64 14, .int .i64 a, .int .i64 0] 70)
  go_enter Tryz.func110, Tryz.ntmps110
  go_wp2_with fail
  refine (C1.out _).mono ?_; rintro e w1 ⟨rfl, hb⟩
  have k0 := hb.cell (p := ⟨w.heap.size, 0, none⟩) (by simp)
  have k1 := hb.cell (p := ⟨w.heap.size, 1, none⟩) (by simp)
  have k2 := hb.cell (p := ⟨w.heap.size, 2, none⟩) (by simp)
  have hz := hb.size
  simp at k0 k1 k2 hz
  have hl : w.heap.size < w1.heap.size := by omega
  clear hz
  replace G := G.trans (hb.mono G.size); clear hb
  go_wp2_with fail
  refine (C2.out _).mono ?_; rintro e w2 ⟨rfl, hb⟩
  replace k0 := (hb.cell (p := ⟨w.heap.size, 0, none⟩) hl).trans k0
  replace k1 := (hb.cell (p := ⟨w.heap.size, 1, none⟩) hl).trans k1
  replace k2 := (hb.cell (p := ⟨w.heap.size, 2, none⟩) hl).trans k2
  replace hl := Nat.lt_of_lt_of_le hl hb.size
  replace G := G.trans (hb.mono G.size); clear hb
  go_wp2_with fail
  refine (C2.out _).mono ?_; rintro e w3 ⟨rfl, hb⟩
  replace k0 := (hb.cell (p := ⟨w.heap.size, 0, none⟩) hl).trans k0
  replace k1 := (hb.cell (p := ⟨w.heap.size, 1, none⟩) hl).trans k1
  replace k2 := (hb.cell (p := ⟨w.heap.size, 2, none⟩) hl).trans k2
  replace hl := Nat.lt_of_lt_of_le hl hb.size
  replace G := G.trans (hb.mono G.size); clear hb
  go_wp2
  go_ret
  exact ⟨rfl, G⟩
set_option maxHeartbeats 1000000 in
set_option maxRecDepth 100000 in
theorem rr_14hi (a : Int) (S : ByteArray) (C1 : Hid (∀ W, Calls Tryz.prog 139 #[.int .i64 14] W fun e w' => e = .returned (.string S) ∧ Below W.heap.size W w')) (C2 : Hid (∀ W, Calls Tryz.prog 140 #[.int .i64 14] W fun e w' => e = .returned (.int .i64 1) ∧ Below W.heap.size W w')) (g2 : ¬ S.toList = []) (h1 : 0 ≤ a) (d1 : decide (0 ≤ a) = true) (h2 : 7 < a) (d2 : decide (a ≤ 7) = false) (w : World) :
    Calls Tryz.prog 110 #[.agg #[.int .i64 14, .int .i64 a, .int .i64 0]] w fun e w' => e = .returned (.bool false) ∧ Below w.heap.size w w' := by
  have g1 : S.toList.isEmpty = false := by simpa using g2
  have g3 : (S.toList == []) = false := by simpa using g2
  have G := (Below.refl w.heap.size w).alloc (Nat.le_refl _) (.cells #[.int .i64 14, .int .i64 a, .int .i64 0] 70)
  go_enter Tryz.func110, Tryz.ntmps110
  go_wp2_with fail
  refine (C1.out _).mono ?_; rintro e w1 ⟨rfl, hb⟩
  have k0 := hb.cell (p := ⟨w.heap.size, 0, none⟩) (by simp)
  have k1 := hb.cell (p := ⟨w.heap.size, 1, none⟩) (by simp)
  have k2 := hb.cell (p := ⟨w.heap.size, 2, none⟩) (by simp)
  have hz := hb.size
  simp at k0 k1 k2 hz
  have hl : w.heap.size < w1.heap.size := by omega
  clear hz
  replace G := G.trans (hb.mono G.size); clear hb
  go_wp2_with fail
  refine (C2.out _).mono ?_; rintro e w2 ⟨rfl, hb⟩
  replace k0 := (hb.cell (p := ⟨w.heap.size, 0, none⟩) hl).trans k0
  replace k1 := (hb.cell (p := ⟨w.heap.size, 1, none⟩) hl).trans k1
  replace k2 := (hb.cell (p := ⟨w.heap.size, 2, none⟩) hl).trans k2
  replace hl := Nat.lt_of_lt_of_le hl hb.size
  replace G := G.trans (hb.mono G.size); clear hb
  go_wp2_with fail
  refine (C2.out _).mono ?_; rintro e w3 ⟨rfl, hb⟩
  replace k0 := (hb.cell (p := ⟨w.heap.size, 0, none⟩) hl).trans k0
  replace k1 := (hb.cell (p := ⟨w.heap.size, 1, none⟩) hl).trans k1
  replace k2 := (hb.cell (p := ⟨w.heap.size, 2, none⟩) hl).trans k2
  replace hl := Nat.lt_of_lt_of_le hl hb.size
  replace G := G.trans (hb.mono G.size); clear hb
  go_wp2
  go_ret
  exact ⟨rfl, G⟩
set_option maxHeartbeats 1000000 in
set_option maxRecDepth 100000 in
theorem rr_14ok (a : Int) (S : ByteArray) (C1 : Hid (∀ W, Calls Tryz.prog 139 #[.int .i64 14] W fun e w' => e = .returned (.string S) ∧ Below W.heap.size W w')) (C2 : Hid (∀ W, Calls Tryz.prog 140 #[.int .i64 14] W fun e w' => e = .returned (.int .i64 1) ∧ Below W.heap.size W w')) (g2 : ¬ S.toList = []) (h1 : 0 ≤ a) (d1 : decide (0 ≤ a) = true) (h2 : a ≤ 7) (d2 : decide (a ≤ 7) = true) (w : World) :
    Calls Tryz.prog 110 #[.agg #[.int .i64 14, .int .i64 a, .int .i64 0]] w fun e w' => e = .returned (.bool true) ∧ Below w.heap.size w w' := by
  have g1 : S.toList.isEmpty = false := by simpa using g2
  have g3 : (S.toList == []) = false := by simpa using g2
  have G := (Below.refl w.heap.size w).alloc (Nat.le_refl _) (.cells #[.int .i64 14, .int .i64 a, .int .i64 0] 70)
  go_enter Tryz.func110, Tryz.ntmps110
  go_wp2_with fail
  refine (C1.out _).mono ?_; rintro e w1 ⟨rfl, hb⟩
  have k0 := hb.cell (p := ⟨w.heap.size, 0, none⟩) (by simp)
  have k1 := hb.cell (p := ⟨w.heap.size, 1, none⟩) (by simp)
  have k2 := hb.cell (p := ⟨w.heap.size, 2, none⟩) (by simp)
  have hz := hb.size
  simp at k0 k1 k2 hz
  have hl : w.heap.size < w1.heap.size := by omega
  clear hz
  replace G := G.trans (hb.mono G.size); clear hb
  go_wp2_with fail
  refine (C2.out _).mono ?_; rintro e w2 ⟨rfl, hb⟩
  replace k0 := (hb.cell (p := ⟨w.heap.size, 0, none⟩) hl).trans k0
  replace k1 := (hb.cell (p := ⟨w.heap.size, 1, none⟩) hl).trans k1
  replace k2 := (hb.cell (p := ⟨w.heap.size, 2, none⟩) hl).trans k2
  replace hl := Nat.lt_of_lt_of_le hl hb.size
  replace G := G.trans (hb.mono G.size); clear hb
  go_wp2_with fail
  refine (C2.out _).mono ?_; rintro e w3 ⟨rfl, hb⟩
  replace k0 := (hb.cell (p := ⟨w.heap.size, 0, none⟩) hl).trans k0
  replace k1 := (hb.cell (p := ⟨w.heap.size, 1, none⟩) hl).trans k1
  replace k2 := (hb.cell (p := ⟨w.heap.size, 2, none⟩) hl).trans k2
  replace hl := Nat.lt_of_lt_of_le hl hb.size
  replace G := G.trans (hb.mono G.size); clear hb
  go_wp2
  go_ret
  exact ⟨rfl, G⟩
end Go.Proofs.YthncbnalnfbpnaaGreatDoor
end
