/- What is proved here: what the document's own answer for layer 1 (Two, Name, Bool, the quotient, doubling and halving) reckons, for every operation and every two numbers of 64 bits. Conditions: the numbers fit 64 bits. -/
import Derived.Test.YtmdglgijbnidlaaDoorKnown
import Derived.Lib.Hide
namespace Go.Proofs.YtmdglgijbnidlaaDoor
open Go.ChangeShapes Go.WideShapes Go.ChangeAt Go.RowKit

theorem rbool_any (b : Bool) (w : World) : Calls Tryd.prog 15 #[.bool b] w fun e w' => e = .returned (.int .i64 (b2i b)) ∧ w = w' := by
  cases b
  · go_enter Tryd.func15, Tryd.ntmps15
    go_wp2
    go_ret
    exact ⟨rfl, rfl⟩
  · go_enter Tryd.func15, Tryd.ntmps15
    go_wp2
    go_ret
    exact ⟨rfl, rfl⟩

/-- A number doubled so often. -/
def upv (a : Int) (k : Nat) : Int := wrap64 (a * 2 ^ k)
theorem upv_succ (a : Int) (k : Nat) : wrap64 (upv a k + upv a k) = upv a (k + 1) := by
  unfold upv
  rw [wrap_add, wrap_add', Int.pow_succ, ← Int.mul_assoc]
  congr 1; omega
theorem up_any (a : Int) (ha : fits a) (n : Nat) (hn : n < 64) (w : World) : Calls Tryd.prog 22 #[.int .i64 a, .int .i64 n] w fun e w' => e = .returned (.int .i64 (upv a n)) ∧ w = w' := by
  have h0 : Hid (upv a 0 = a) := by show upv a 0 = a; unfold upv; unfold fits at ha; rw [Int.pow_zero, Int.mul_one]; unfold wrap64; omega
  clear ha
  go_enter Tryd.func22, Tryd.ntmps22
  go_wp2
  go_loop [0, 5] (fun x i => ∃ k : Nat, k ≤ n ∧ i = .int .i64 k ∧ x = .int .i64 (upv a k)) (fun _ i => n - (intOf i).toNat)
  case atStart => exact ⟨0, Nat.zero_le _, rfl, by rw [h0.out]⟩
  case round =>
    obtain ⟨k, hk, rfl, rfl⟩ := hrel
    by_cases hlt : k < n
    · have hu := Lib.hid (upv_succ a k)
      go_wp2
      go_round
      case rel => exact ⟨k + 1, by omega, by go_num, by rw [hu.out]⟩
      case measure => simp [intOf]; omega
    · go_wp2
      go_ret
      obtain rfl : k = n := by omega
      exact ⟨rfl, rfl⟩

/-- A number halved so often, rounded down. -/
def dnv (a : Int) (k : Nat) : Int := a / 2 ^ k
theorem dnv_fits (a : Int) (ha : fits a) (k : Nat) : fits (dnv a k) := by
  unfold dnv fits at *
  have hp := pow_pos k
  constructor
  · by_cases h : 0 ≤ a
    · have := Int.ediv_nonneg h (Int.le_of_lt hp); omega
    · have h2 : a ≤ a / 2 ^ k := by
        rw [Int.le_ediv_iff_mul_le hp]
        have h3 : (-a) * 1 ≤ (-a) * 2 ^ k := Int.mul_le_mul_of_nonneg_left (by omega) (by omega)
        rw [Int.neg_mul, Int.neg_mul, Int.mul_one] at h3
        omega
      omega
  · by_cases h : 0 ≤ a
    · have h2 : a / 2 ^ k ≤ a := Int.ediv_le_self _ h
      omega
    · have := Int.ediv_neg_of_neg_of_pos (show a < 0 by omega) hp; omega
theorem dnv_succ (a : Int) (k : Nat) : dnv a (k + 1) = dnv a k / 2 := by
  unfold dnv
  rw [Int.pow_succ, Int.ediv_ediv_of_nonneg (Int.le_of_lt (pow_pos _))]
theorem dnv_odd (a : Int) (ha : fits a) (k : Nat) (h : (dnv a k).tmod 2 < 0) : wrap64 ((wrap64 (dnv a k - 1)).tdiv 2) = dnv a (k + 1) := by
  have hf := dnv_fits a ha k
  rw [dnv_succ]
  generalize dnv a k = x at *
  unfold fits at hf
  have h1 : x < 0 := by
    by_cases h0 : 0 ≤ x
    · rw [Int.tmod_eq_emod_of_nonneg h0] at h; omega
    · omega
  have h2 : x % 2 = 1 := by
    have e : x.tmod 2 = -((-x) % 2) := by
      have : (-x).tmod 2 = (-x) % 2 := Int.tmod_eq_emod_of_nonneg (by omega)
      rw [Int.neg_tmod] at this; omega
    rw [e] at h; omega
  have e1 : wrap64 (x - 1) = x - 1 := by unfold wrap64; omega
  have e2 : (x - 1).tdiv 2 = (x - 1) / 2 := by
    have hd : (2 : Int) ∣ x - 1 := by omega
    exact Int.tdiv_eq_ediv_of_dvd hd
  rw [e1, e2]
  unfold wrap64; omega
theorem dnv_even (a : Int) (ha : fits a) (k : Nat) (h : ¬ (dnv a k).tmod 2 < 0) : wrap64 ((wrap64 (dnv a k - (dnv a k).tmod 2)).tdiv 2) = dnv a (k + 1) := by
  have hf := dnv_fits a ha k
  rw [dnv_succ]
  generalize dnv a k = x at *
  unfold fits at hf
  have e : x.tmod 2 = x % 2 := by
    by_cases h0 : 0 ≤ x
    · exact Int.tmod_eq_emod_of_nonneg h0
    · have : (-x).tmod 2 = (-x) % 2 := Int.tmod_eq_emod_of_nonneg (by omega)
      rw [Int.neg_tmod] at this; omega
  have e1 : wrap64 (x - x.tmod 2) = x - x % 2 := by rw [e]; unfold wrap64; omega
  have e2 : (x - x % 2).tdiv 2 = (x - x % 2) / 2 := by
    have hd : (2 : Int) ∣ x - x % 2 := by omega
    exact Int.tdiv_eq_ediv_of_dvd hd
  rw [e1, e2]
  unfold wrap64; omega
theorem down_any (a : Int) (ha : fits a) (n : Nat) (hn : n < 64) (w : World) : Calls Tryd.prog 23 #[.int .i64 a, .int .i64 n] w fun e w' => e = .returned (.int .i64 (dnv a n)) ∧ w = w' := by
  have h0 : Hid (dnv a 0 = a) := by show dnv a 0 = a; unfold dnv; rw [Int.pow_zero, Int.ediv_one]
  have HA := Lib.hid ha
  clear ha
  go_enter Tryd.func23, Tryd.ntmps23
  go_wp2
  go_loop [0, 5] (fun x i => ∃ k : Nat, k ≤ n ∧ i = .int .i64 k ∧ x = .int .i64 (dnv a k)) (fun _ i => n - (intOf i).toNat)
  case atStart => exact ⟨0, Nat.zero_le _, rfl, by rw [h0.out]⟩
  case round =>
    obtain ⟨k, hk, rfl, rfl⟩ := hrel
    by_cases hlt : k < n
    · by_cases hodd : (dnv a k).tmod 2 < 0
      · have hu := Lib.hid (dnv_odd a HA.out k hodd)
        go_wp2
        go_round
        case rel => exact ⟨k + 1, by omega, by go_num, by rw [hu.out]⟩
        case measure => simp [intOf]; omega
      · have hu := Lib.hid (dnv_even a HA.out k hodd)
        go_wp2
        go_round
        case rel => exact ⟨k + 1, by omega, by go_num, by rw [hu.out]⟩
        case measure => simp [intOf]; omega
    · go_wp2
      go_ret
      obtain rfl : k = n := by omega
      exact ⟨rfl, rfl⟩

/-- The quotient, and what is left. -/
theorem div_zero (a : Int) (w : World) : Calls Tryd.prog 21 #[.int .i64 a, .int .i64 0] w fun e w' => e = .returned (.tuple #[.int .i64 0, .int .i64 0, .bool true]) ∧ w = w' := by
  go_enter Tryd.func21, Tryd.ntmps21
  go_wp2
  go_ret3
  exact ⟨rfl, rfl⟩
theorem div_minus (a : Int) (w : World) : Calls Tryd.prog 21 #[.int .i64 a, .int .i64 (-1)] w fun e w' => e = .returned (.tuple #[.int .i64 (wrap64 (-a)), .int .i64 0, .bool false]) ∧ w = w' := by
  go_enter Tryd.func21, Tryd.ntmps21
  go_wp2
  go_ret3
  exact ⟨rfl, rfl⟩
theorem div_else (a b : Int) (h1 : (b == 0) = false) (h2 : (b == -1) = false) (h3 : ¬ b = 0) (w : World) : Calls Tryd.prog 21 #[.int .i64 a, .int .i64 b] w fun e w' => e = .returned (.tuple #[.int .i64 (wrap64 (a.tdiv b)), .int .i64 (wrap64 (a - wrap64 (b * wrap64 (a.tdiv b)))), .bool false]) ∧ w = w' := by
  go_enter Tryd.func21, Tryd.ntmps21
  go_wp2
  go_ret3
  exact ⟨rfl, rfl⟩
theorem div_any (a b : Int) (ha : fits a) (w : World) : Calls Tryd.prog 21 #[.int .i64 a, .int .i64 b] w fun e w' => e = .returned (.tuple #[.int .i64 (val 4 a b), .int .i64 (val 5 a b), .bool (bad 4 b)]) ∧ w = w' := by
  by_cases h0 : b = 0
  · subst h0
    rw [val4, val5, if_pos rfl, if_pos rfl]
    exact div_zero a w
  · have e2 : bad 4 b = false := by simp [bad, h0]
    by_cases h1 : b = -1
    · subst h1
      have e3 : val 4 a (-1) = wrap64 (-a) := by rw [val4, if_neg h0, Int.tdiv_neg, Int.tdiv_one]
      have e4 : val 5 a (-1) = 0 := by rw [val5, if_neg h0, Int.tmod_neg, Int.tmod_one]
      rw [e2, e3, e4]
      exact div_minus a w
    · have e5 : wrap64 (a - wrap64 (b * wrap64 (a.tdiv b))) = a.tmod b := by
        rw [wrap_mul']
        have h6 : wrap64 (a - wrap64 (b * a.tdiv b)) = wrap64 (a - b * a.tdiv b) := by generalize b * a.tdiv b = z; unfold wrap64; omega
        have h7 : a - b * a.tdiv b = a.tmod b := by have := Int.mul_tdiv_add_tmod a b; omega
        have h8 : (a.tmod b).natAbs ≤ a.natAbs := by rw [Int.natAbs_tmod]; exact Nat.mod_le _ _
        rw [h6, h7]
        by_cases hn : 0 ≤ a
        · have := Int.tmod_nonneg b hn
          unfold fits at ha; generalize a.tmod b = m at *; unfold wrap64; omega
        · have h9 : 0 ≤ (-a).tmod b := Int.tmod_nonneg _ (by omega)
          rw [Int.neg_tmod] at h9
          unfold fits at ha; generalize a.tmod b = m at *; unfold wrap64; omega
      have := div_else a b (by simpa using h0) (by simpa using h1) h0 w
      rw [e5] at this
      rw [e2, val4, val5, if_neg h0, if_neg h0]
      exact this
end Go.Proofs.YtmdglgijbnidlaaDoor
