/- What is proved here: the document's own Two and Name answer as the plain functions 'val', 'bad', 'nm' do, for every operation and every two numbers of 64 bits. Conditions: the numbers fit 64 bits. -/
import Derived.Test.YtmdglgijbnidlaaDoorRef
namespace Go.Proofs.YtmdglgijbnidlaaDoor
open Go.ChangeShapes Go.WideShapes Go.ChangeAt Go.RowKit
set_option linter.unusedVariables false

/-- The number of places that a shift goes: b modulo 64, as the document's text reckons it. -/
theorem places (b : Int) : ∃ r : Int, ∃ n : Nat, b.tmod 64 = r ∧ -63 ≤ r ∧ r ≤ 63 ∧ (r + 64).tmod 64 = n ∧ (r + 64) % 64 = n ∧ n < 64 ∧ (b % 64).toNat = n := by
  refine ⟨b.tmod 64, (b % 64).toNat, rfl, ?_, ?_, ?_, ?_, ?_, rfl⟩
  all_goals
    have h1 : (b.tmod 64).natAbs < 64 := by rw [Int.natAbs_tmod]; exact Nat.mod_lt _ (by decide)
    have h2 := Int.mul_tdiv_add_tmod b 64
  · omega
  · omega
  · rw [Int.tmod_eq_emod_of_nonneg (by omega)]; omega
  · omega
  · omega
theorem rtwo1 (a b r : Int) (n : Nat) (ha : fits a) (h1 : b.tmod 64 = r) (h2 : -63 ≤ r) (h3 : r ≤ 63) (h4 : (r + 64).tmod 64 = n) (h5 : (r + 64) % 64 = n) (hn : n < 64) (w : World) : Calls Tryd.prog 12 #[.int .i64 1, .int .i64 a, .int .i64 b] w fun e w' => e = .returned (.tuple #[.int .i64 (wrap64 (a + b)), .bool (false)]) ∧ w = w' := by
  have HA := Lib.hid ha
  clear ha
  go_enter Tryd.func12, Tryd.ntmps12
  go_wp2_with (first
    | (go_at_call 21; refine (div_any _ _ HA.out _).mono ?_; rintro e w' ⟨rfl, rfl⟩)
    | (go_at_call 15; refine (rbool_any _ _).mono ?_; rintro e w' ⟨rfl, rfl⟩)
    | (go_at_call 22; refine (up_any _ HA.out _ hn _).mono ?_; rintro e w' ⟨rfl, rfl⟩)
    | (go_at_call 23; refine (down_any _ HA.out _ hn _).mono ?_; rintro e w' ⟨rfl, rfl⟩))
  go_ret2
  exact ⟨rfl, rfl⟩
theorem rtwo2 (a b r : Int) (n : Nat) (ha : fits a) (h1 : b.tmod 64 = r) (h2 : -63 ≤ r) (h3 : r ≤ 63) (h4 : (r + 64).tmod 64 = n) (h5 : (r + 64) % 64 = n) (hn : n < 64) (w : World) : Calls Tryd.prog 12 #[.int .i64 2, .int .i64 a, .int .i64 b] w fun e w' => e = .returned (.tuple #[.int .i64 (wrap64 (a - b)), .bool (false)]) ∧ w = w' := by
  have HA := Lib.hid ha
  clear ha
  go_enter Tryd.func12, Tryd.ntmps12
  go_wp2_with (first
    | (go_at_call 21; refine (div_any _ _ HA.out _).mono ?_; rintro e w' ⟨rfl, rfl⟩)
    | (go_at_call 15; refine (rbool_any _ _).mono ?_; rintro e w' ⟨rfl, rfl⟩)
    | (go_at_call 22; refine (up_any _ HA.out _ hn _).mono ?_; rintro e w' ⟨rfl, rfl⟩)
    | (go_at_call 23; refine (down_any _ HA.out _ hn _).mono ?_; rintro e w' ⟨rfl, rfl⟩))
  go_ret2
  exact ⟨rfl, rfl⟩
theorem rtwo3 (a b r : Int) (n : Nat) (ha : fits a) (h1 : b.tmod 64 = r) (h2 : -63 ≤ r) (h3 : r ≤ 63) (h4 : (r + 64).tmod 64 = n) (h5 : (r + 64) % 64 = n) (hn : n < 64) (w : World) : Calls Tryd.prog 12 #[.int .i64 3, .int .i64 a, .int .i64 b] w fun e w' => e = .returned (.tuple #[.int .i64 (wrap64 (a * b)), .bool (false)]) ∧ w = w' := by
  have HA := Lib.hid ha
  clear ha
  go_enter Tryd.func12, Tryd.ntmps12
  go_wp2_with (first
    | (go_at_call 21; refine (div_any _ _ HA.out _).mono ?_; rintro e w' ⟨rfl, rfl⟩)
    | (go_at_call 15; refine (rbool_any _ _).mono ?_; rintro e w' ⟨rfl, rfl⟩)
    | (go_at_call 22; refine (up_any _ HA.out _ hn _).mono ?_; rintro e w' ⟨rfl, rfl⟩)
    | (go_at_call 23; refine (down_any _ HA.out _ hn _).mono ?_; rintro e w' ⟨rfl, rfl⟩))
  go_ret2
  exact ⟨rfl, rfl⟩
theorem rtwo4 (a b r : Int) (n : Nat) (ha : fits a) (h1 : b.tmod 64 = r) (h2 : -63 ≤ r) (h3 : r ≤ 63) (h4 : (r + 64).tmod 64 = n) (h5 : (r + 64) % 64 = n) (hn : n < 64) (w : World) : Calls Tryd.prog 12 #[.int .i64 4, .int .i64 a, .int .i64 b] w fun e w' => e = .returned (.tuple #[.int .i64 (val 4 a b), .bool (bad 4 b)]) ∧ w = w' := by
  have HA := Lib.hid ha
  clear ha
  go_enter Tryd.func12, Tryd.ntmps12
  go_wp2_with (first
    | (go_at_call 21; refine (div_any _ _ HA.out _).mono ?_; rintro e w' ⟨rfl, rfl⟩)
    | (go_at_call 15; refine (rbool_any _ _).mono ?_; rintro e w' ⟨rfl, rfl⟩)
    | (go_at_call 22; refine (up_any _ HA.out _ hn _).mono ?_; rintro e w' ⟨rfl, rfl⟩)
    | (go_at_call 23; refine (down_any _ HA.out _ hn _).mono ?_; rintro e w' ⟨rfl, rfl⟩))
  go_ret2
  exact ⟨rfl, rfl⟩
theorem rtwo5 (a b r : Int) (n : Nat) (ha : fits a) (h1 : b.tmod 64 = r) (h2 : -63 ≤ r) (h3 : r ≤ 63) (h4 : (r + 64).tmod 64 = n) (h5 : (r + 64) % 64 = n) (hn : n < 64) (w : World) : Calls Tryd.prog 12 #[.int .i64 5, .int .i64 a, .int .i64 b] w fun e w' => e = .returned (.tuple #[.int .i64 (val 5 a b), .bool (bad 4 b)]) ∧ w = w' := by
  have HA := Lib.hid ha
  clear ha
  go_enter Tryd.func12, Tryd.ntmps12
  go_wp2_with (first
    | (go_at_call 21; refine (div_any _ _ HA.out _).mono ?_; rintro e w' ⟨rfl, rfl⟩)
    | (go_at_call 15; refine (rbool_any _ _).mono ?_; rintro e w' ⟨rfl, rfl⟩)
    | (go_at_call 22; refine (up_any _ HA.out _ hn _).mono ?_; rintro e w' ⟨rfl, rfl⟩)
    | (go_at_call 23; refine (down_any _ HA.out _ hn _).mono ?_; rintro e w' ⟨rfl, rfl⟩))
  go_ret2
  exact ⟨rfl, rfl⟩
theorem rtwo6 (a b r : Int) (n : Nat) (ha : fits a) (h1 : b.tmod 64 = r) (h2 : -63 ≤ r) (h3 : r ≤ 63) (h4 : (r + 64).tmod 64 = n) (h5 : (r + 64) % 64 = n) (hn : n < 64) (w : World) : Calls Tryd.prog 12 #[.int .i64 6, .int .i64 a, .int .i64 b] w fun e w' => e = .returned (.tuple #[.int .i64 (bits .and .i64 a b), .bool (false)]) ∧ w = w' := by
  have HA := Lib.hid ha
  clear ha
  go_enter Tryd.func12, Tryd.ntmps12
  go_wp2_with (first
    | (go_at_call 21; refine (div_any _ _ HA.out _).mono ?_; rintro e w' ⟨rfl, rfl⟩)
    | (go_at_call 15; refine (rbool_any _ _).mono ?_; rintro e w' ⟨rfl, rfl⟩)
    | (go_at_call 22; refine (up_any _ HA.out _ hn _).mono ?_; rintro e w' ⟨rfl, rfl⟩)
    | (go_at_call 23; refine (down_any _ HA.out _ hn _).mono ?_; rintro e w' ⟨rfl, rfl⟩))
  go_ret2
  exact ⟨rfl, rfl⟩
theorem rtwo7 (a b r : Int) (n : Nat) (ha : fits a) (h1 : b.tmod 64 = r) (h2 : -63 ≤ r) (h3 : r ≤ 63) (h4 : (r + 64).tmod 64 = n) (h5 : (r + 64) % 64 = n) (hn : n < 64) (w : World) : Calls Tryd.prog 12 #[.int .i64 7, .int .i64 a, .int .i64 b] w fun e w' => e = .returned (.tuple #[.int .i64 (bits .or .i64 a b), .bool (false)]) ∧ w = w' := by
  have HA := Lib.hid ha
  clear ha
  go_enter Tryd.func12, Tryd.ntmps12
  go_wp2_with (first
    | (go_at_call 21; refine (div_any _ _ HA.out _).mono ?_; rintro e w' ⟨rfl, rfl⟩)
    | (go_at_call 15; refine (rbool_any _ _).mono ?_; rintro e w' ⟨rfl, rfl⟩)
    | (go_at_call 22; refine (up_any _ HA.out _ hn _).mono ?_; rintro e w' ⟨rfl, rfl⟩)
    | (go_at_call 23; refine (down_any _ HA.out _ hn _).mono ?_; rintro e w' ⟨rfl, rfl⟩))
  go_ret2
  exact ⟨rfl, rfl⟩
theorem rtwo8 (a b r : Int) (n : Nat) (ha : fits a) (h1 : b.tmod 64 = r) (h2 : -63 ≤ r) (h3 : r ≤ 63) (h4 : (r + 64).tmod 64 = n) (h5 : (r + 64) % 64 = n) (hn : n < 64) (w : World) : Calls Tryd.prog 12 #[.int .i64 8, .int .i64 a, .int .i64 b] w fun e w' => e = .returned (.tuple #[.int .i64 (bits .xor .i64 a b), .bool (false)]) ∧ w = w' := by
  have HA := Lib.hid ha
  clear ha
  go_enter Tryd.func12, Tryd.ntmps12
  go_wp2_with (first
    | (go_at_call 21; refine (div_any _ _ HA.out _).mono ?_; rintro e w' ⟨rfl, rfl⟩)
    | (go_at_call 15; refine (rbool_any _ _).mono ?_; rintro e w' ⟨rfl, rfl⟩)
    | (go_at_call 22; refine (up_any _ HA.out _ hn _).mono ?_; rintro e w' ⟨rfl, rfl⟩)
    | (go_at_call 23; refine (down_any _ HA.out _ hn _).mono ?_; rintro e w' ⟨rfl, rfl⟩))
  go_ret2
  exact ⟨rfl, rfl⟩
theorem rtwo9 (a b r : Int) (n : Nat) (ha : fits a) (h1 : b.tmod 64 = r) (h2 : -63 ≤ r) (h3 : r ≤ 63) (h4 : (r + 64).tmod 64 = n) (h5 : (r + 64) % 64 = n) (hn : n < 64) (w : World) : Calls Tryd.prog 12 #[.int .i64 9, .int .i64 a, .int .i64 b] w fun e w' => e = .returned (.tuple #[.int .i64 (upv a n), .bool (false)]) ∧ w = w' := by
  have HA := Lib.hid ha
  clear ha
  go_enter Tryd.func12, Tryd.ntmps12
  go_wp2_with (first
    | (go_at_call 21; refine (div_any _ _ HA.out _).mono ?_; rintro e w' ⟨rfl, rfl⟩)
    | (go_at_call 15; refine (rbool_any _ _).mono ?_; rintro e w' ⟨rfl, rfl⟩)
    | (go_at_call 22; refine (up_any _ HA.out _ hn _).mono ?_; rintro e w' ⟨rfl, rfl⟩)
    | (go_at_call 23; refine (down_any _ HA.out _ hn _).mono ?_; rintro e w' ⟨rfl, rfl⟩))
  go_ret2
  exact ⟨rfl, rfl⟩
theorem rtwo10 (a b r : Int) (n : Nat) (ha : fits a) (h1 : b.tmod 64 = r) (h2 : -63 ≤ r) (h3 : r ≤ 63) (h4 : (r + 64).tmod 64 = n) (h5 : (r + 64) % 64 = n) (hn : n < 64) (w : World) : Calls Tryd.prog 12 #[.int .i64 10, .int .i64 a, .int .i64 b] w fun e w' => e = .returned (.tuple #[.int .i64 (dnv a n), .bool (false)]) ∧ w = w' := by
  have HA := Lib.hid ha
  clear ha
  go_enter Tryd.func12, Tryd.ntmps12
  go_wp2_with (first
    | (go_at_call 21; refine (div_any _ _ HA.out _).mono ?_; rintro e w' ⟨rfl, rfl⟩)
    | (go_at_call 15; refine (rbool_any _ _).mono ?_; rintro e w' ⟨rfl, rfl⟩)
    | (go_at_call 22; refine (up_any _ HA.out _ hn _).mono ?_; rintro e w' ⟨rfl, rfl⟩)
    | (go_at_call 23; refine (down_any _ HA.out _ hn _).mono ?_; rintro e w' ⟨rfl, rfl⟩))
  go_ret2
  exact ⟨rfl, rfl⟩
theorem rtwo11 (a b r : Int) (n : Nat) (ha : fits a) (h1 : b.tmod 64 = r) (h2 : -63 ≤ r) (h3 : r ≤ 63) (h4 : (r + 64).tmod 64 = n) (h5 : (r + 64) % 64 = n) (hn : n < 64) (w : World) : Calls Tryd.prog 12 #[.int .i64 11, .int .i64 a, .int .i64 b] w fun e w' => e = .returned (.tuple #[.int .i64 (b2i (decide (a < b))), .bool (false)]) ∧ w = w' := by
  have HA := Lib.hid ha
  clear ha
  go_enter Tryd.func12, Tryd.ntmps12
  go_wp2_with (first
    | (go_at_call 21; refine (div_any _ _ HA.out _).mono ?_; rintro e w' ⟨rfl, rfl⟩)
    | (go_at_call 15; refine (rbool_any _ _).mono ?_; rintro e w' ⟨rfl, rfl⟩)
    | (go_at_call 22; refine (up_any _ HA.out _ hn _).mono ?_; rintro e w' ⟨rfl, rfl⟩)
    | (go_at_call 23; refine (down_any _ HA.out _ hn _).mono ?_; rintro e w' ⟨rfl, rfl⟩))
  go_ret2
  exact ⟨rfl, rfl⟩
theorem rtwo12 (a b r : Int) (n : Nat) (ha : fits a) (h1 : b.tmod 64 = r) (h2 : -63 ≤ r) (h3 : r ≤ 63) (h4 : (r + 64).tmod 64 = n) (h5 : (r + 64) % 64 = n) (hn : n < 64) (w : World) : Calls Tryd.prog 12 #[.int .i64 12, .int .i64 a, .int .i64 b] w fun e w' => e = .returned (.tuple #[.int .i64 (b2i (a == b)), .bool (false)]) ∧ w = w' := by
  have HA := Lib.hid ha
  clear ha
  go_enter Tryd.func12, Tryd.ntmps12
  go_wp2_with (first
    | (go_at_call 21; refine (div_any _ _ HA.out _).mono ?_; rintro e w' ⟨rfl, rfl⟩)
    | (go_at_call 15; refine (rbool_any _ _).mono ?_; rintro e w' ⟨rfl, rfl⟩)
    | (go_at_call 22; refine (up_any _ HA.out _ hn _).mono ?_; rintro e w' ⟨rfl, rfl⟩)
    | (go_at_call 23; refine (down_any _ HA.out _ hn _).mono ?_; rintro e w' ⟨rfl, rfl⟩))
  go_ret2
  exact ⟨rfl, rfl⟩
theorem rtwo0 (op a b r : Int) (n : Nat) (ha : fits a) (g1 : (op == 1) = false) (g2 : (op == 2) = false) (g3 : (op == 3) = false) (g4 : (op == 4) = false) (g5 : (op == 5) = false) (g6 : (op == 6) = false) (g7 : (op == 7) = false) (g8 : (op == 8) = false) (g9 : (op == 9) = false) (g10 : (op == 10) = false) (g11 : (op == 11) = false) (g12 : (op == 12) = false) (h1 : b.tmod 64 = r) (h2 : -63 ≤ r) (h3 : r ≤ 63) (h4 : (r + 64).tmod 64 = n) (h5 : (r + 64) % 64 = n) (hn : n < 64) (w : World) : Calls Tryd.prog 12 #[.int .i64 op, .int .i64 a, .int .i64 b] w fun e w' => e = .returned (.tuple #[.int .i64 0, .bool true]) ∧ w = w' := by
  have HA := Lib.hid ha
  clear ha
  go_enter Tryd.func12, Tryd.ntmps12
  go_wp2_with (first
    | (go_at_call 21; refine (div_any _ _ HA.out _).mono ?_; rintro e w' ⟨rfl, rfl⟩)
    | (go_at_call 15; refine (rbool_any _ _).mono ?_; rintro e w' ⟨rfl, rfl⟩)
    | (go_at_call 22; refine (up_any _ HA.out _ hn _).mono ?_; rintro e w' ⟨rfl, rfl⟩)
    | (go_at_call 23; refine (down_any _ HA.out _ hn _).mono ?_; rintro e w' ⟨rfl, rfl⟩))
  go_ret2
  exact ⟨rfl, rfl⟩

/-- What the document's Two answers. -/
theorem rtwo_any (op a b : Int) (ha : fits a) (w : World) : Calls Tryd.prog 12 #[.int .i64 op, .int .i64 a, .int .i64 b] w fun e w' => e = .returned (.tuple #[.int .i64 (val op a b), .bool (bad op b)]) ∧ w = w' := by
  obtain ⟨r, n, h1, h2, h3, h4, h5, hn, e3⟩ := places b
  by_cases g1 : op = 1
  · subst g1
    have e2 : bad 1 b = false := by simp [bad]
    rw [val1, e2]; exact rtwo1 a b r n ha h1 h2 h3 h4 h5 hn w
  by_cases g2 : op = 2
  · subst g2
    have e2 : bad 2 b = false := by simp [bad]
    rw [val2, e2]; exact rtwo2 a b r n ha h1 h2 h3 h4 h5 hn w
  by_cases g3 : op = 3
  · subst g3
    have e2 : bad 3 b = false := by simp [bad]
    rw [val3, e2]; exact rtwo3 a b r n ha h1 h2 h3 h4 h5 hn w
  by_cases g4 : op = 4
  · subst g4
    exact rtwo4 a b r n ha h1 h2 h3 h4 h5 hn w
  by_cases g5 : op = 5
  · subst g5
    have e2 : bad 5 b = bad 4 b := by simp [bad]
    rw [e2]
    exact rtwo5 a b r n ha h1 h2 h3 h4 h5 hn w
  by_cases g6 : op = 6
  · subst g6
    have e2 : bad 6 b = false := by simp [bad]
    rw [val6, e2]; exact rtwo6 a b r n ha h1 h2 h3 h4 h5 hn w
  by_cases g7 : op = 7
  · subst g7
    have e2 : bad 7 b = false := by simp [bad]
    rw [val7, e2]; exact rtwo7 a b r n ha h1 h2 h3 h4 h5 hn w
  by_cases g8 : op = 8
  · subst g8
    have e2 : bad 8 b = false := by simp [bad]
    rw [val8, e2]; exact rtwo8 a b r n ha h1 h2 h3 h4 h5 hn w
  by_cases g9 : op = 9
  · subst g9
    have e2 : bad 9 b = false := by simp [bad]
    rw [val9, e2, e3]; exact rtwo9 a b r n ha h1 h2 h3 h4 h5 hn w
  by_cases g10 : op = 10
  · subst g10
    have e2 : bad 10 b = false := by simp [bad]
    rw [val10, e2, e3]; exact rtwo10 a b r n ha h1 h2 h3 h4 h5 hn w
  by_cases g11 : op = 11
  · subst g11
    have e2 : bad 11 b = false := by simp [bad]
    have e4 : (if a < b then (1 : Int) else 0) = b2i (decide (a < b)) := by unfold b2i; by_cases h : a < b <;> simp [h]
    rw [val11, e2, e4]; exact rtwo11 a b r n ha h1 h2 h3 h4 h5 hn w
  by_cases g12 : op = 12
  · subst g12
    have e2 : bad 12 b = false := by simp [bad]
    have e4 : (if a = b then (1 : Int) else 0) = b2i (a == b) := by unfold b2i; by_cases h : a = b <;> simp [h]
    rw [val12, e2, e4]; exact rtwo12 a b r n ha h1 h2 h3 h4 h5 hn w
  have e1 : val op a b = 0 := by simp [val, g1, g2, g3, g4, g5, g6, g7, g8, g9, g10, g11, g12]
  have e2 : bad op b = true := by unfold bad; rw [if_neg (by omega)]
  rw [e1, e2]; exact rtwo0 op a b r n ha (by simpa using g1) (by simpa using g2) (by simpa using g3) (by simpa using g4) (by simpa using g5) (by simpa using g6) (by simpa using g7) (by simpa using g8) (by simpa using g9) (by simpa using g10) (by simpa using g11) (by simpa using g12) h1 h2 h3 h4 h5 hn w

/-- What the document's Name answers. -/
theorem rname_low (op : Int) (h1 : op < 1) (w : World) : Calls Tryd.prog 18 #[.int .i64 op] w fun e w' => e = .returned (.string ⟨#[]⟩) ∧ Grown w w' := by
  go_enter Tryd.func18, Tryd.ntmps18
  go_wp2
  go_ret
  exact ⟨rfl, Grown.refl _⟩
theorem rname_high (op : Int) (h1 : 12 < op) (w : World) : Calls Tryd.prog 18 #[.int .i64 op] w fun e w' => e = .returned (.string ⟨#[]⟩) ∧ Grown w w' := by
  go_enter Tryd.func18, Tryd.ntmps18
  go_wp2
  go_ret
  exact ⟨rfl, Grown.refl _⟩
theorem rname1 (w : World) : Calls Tryd.prog 18 #[.int .i64 1] w fun e w' => e = .returned (.string (nameOf 1)) ∧ Grown w w' := by
  go_enter Tryd.func18, Tryd.ntmps18
  go_wp2
  go_ret
  exact ⟨rfl, (Grown.refl _).alloc _ _⟩
theorem rname2 (w : World) : Calls Tryd.prog 18 #[.int .i64 2] w fun e w' => e = .returned (.string (nameOf 2)) ∧ Grown w w' := by
  go_enter Tryd.func18, Tryd.ntmps18
  go_wp2
  go_ret
  exact ⟨rfl, (Grown.refl _).alloc _ _⟩
theorem rname3 (w : World) : Calls Tryd.prog 18 #[.int .i64 3] w fun e w' => e = .returned (.string (nameOf 3)) ∧ Grown w w' := by
  go_enter Tryd.func18, Tryd.ntmps18
  go_wp2
  go_ret
  exact ⟨rfl, (Grown.refl _).alloc _ _⟩
theorem rname4 (w : World) : Calls Tryd.prog 18 #[.int .i64 4] w fun e w' => e = .returned (.string (nameOf 4)) ∧ Grown w w' := by
  go_enter Tryd.func18, Tryd.ntmps18
  go_wp2
  go_ret
  exact ⟨rfl, (Grown.refl _).alloc _ _⟩
theorem rname5 (w : World) : Calls Tryd.prog 18 #[.int .i64 5] w fun e w' => e = .returned (.string (nameOf 5)) ∧ Grown w w' := by
  go_enter Tryd.func18, Tryd.ntmps18
  go_wp2
  go_ret
  exact ⟨rfl, (Grown.refl _).alloc _ _⟩
theorem rname6 (w : World) : Calls Tryd.prog 18 #[.int .i64 6] w fun e w' => e = .returned (.string (nameOf 6)) ∧ Grown w w' := by
  go_enter Tryd.func18, Tryd.ntmps18
  go_wp2
  go_ret
  exact ⟨rfl, (Grown.refl _).alloc _ _⟩
theorem rname7 (w : World) : Calls Tryd.prog 18 #[.int .i64 7] w fun e w' => e = .returned (.string (nameOf 7)) ∧ Grown w w' := by
  go_enter Tryd.func18, Tryd.ntmps18
  go_wp2
  go_ret
  exact ⟨rfl, (Grown.refl _).alloc _ _⟩
theorem rname8 (w : World) : Calls Tryd.prog 18 #[.int .i64 8] w fun e w' => e = .returned (.string (nameOf 8)) ∧ Grown w w' := by
  go_enter Tryd.func18, Tryd.ntmps18
  go_wp2
  go_ret
  exact ⟨rfl, (Grown.refl _).alloc _ _⟩
theorem rname9 (w : World) : Calls Tryd.prog 18 #[.int .i64 9] w fun e w' => e = .returned (.string (nameOf 9)) ∧ Grown w w' := by
  go_enter Tryd.func18, Tryd.ntmps18
  go_wp2
  go_ret
  exact ⟨rfl, (Grown.refl _).alloc _ _⟩
theorem rname10 (w : World) : Calls Tryd.prog 18 #[.int .i64 10] w fun e w' => e = .returned (.string (nameOf 10)) ∧ Grown w w' := by
  go_enter Tryd.func18, Tryd.ntmps18
  go_wp2
  go_ret
  exact ⟨rfl, (Grown.refl _).alloc _ _⟩
theorem rname11 (w : World) : Calls Tryd.prog 18 #[.int .i64 11] w fun e w' => e = .returned (.string (nameOf 11)) ∧ Grown w w' := by
  go_enter Tryd.func18, Tryd.ntmps18
  go_wp2
  go_ret
  exact ⟨rfl, (Grown.refl _).alloc _ _⟩
theorem rname12 (w : World) : Calls Tryd.prog 18 #[.int .i64 12] w fun e w' => e = .returned (.string (nameOf 12)) ∧ Grown w w' := by
  go_enter Tryd.func18, Tryd.ntmps18
  go_wp2
  go_ret
  exact ⟨rfl, (Grown.refl _).alloc _ _⟩
theorem rname_any (op : Int) (w : World) : Calls Tryd.prog 18 #[.int .i64 op] w fun e w' => e = .returned (.string (nm op)) ∧ Grown w w' := by
  by_cases h : 1 ≤ op ∧ op ≤ 12
  · obtain ⟨n, rfl⟩ : ∃ n : Nat, op = n := ⟨op.toNat, by omega⟩
    have e : nm n = nameOf n := by unfold nm; rw [if_pos h]; rfl
    rw [e]
    have h1 : 1 ≤ n := by omega
    have h2 : n ≤ 12 := by omega
    match n, h1, h2 with
    | 1, _, _ => exact rname1 w
    | 2, _, _ => exact rname2 w
    | 3, _, _ => exact rname3 w
    | 4, _, _ => exact rname4 w
    | 5, _, _ => exact rname5 w
    | 6, _, _ => exact rname6 w
    | 7, _, _ => exact rname7 w
    | 8, _, _ => exact rname8 w
    | 9, _, _ => exact rname9 w
    | 10, _, _ => exact rname10 w
    | 11, _, _ => exact rname11 w
    | 12, _, _ => exact rname12 w
  · have e : nm op = ⟨#[]⟩ := by unfold nm; rw [if_neg h]
    rw [e]
    by_cases h1 : op < 1
    · exact rname_low op h1 w
    · exact rname_high op (by omega) w
end Go.Proofs.YtmdglgijbnidlaaDoor
