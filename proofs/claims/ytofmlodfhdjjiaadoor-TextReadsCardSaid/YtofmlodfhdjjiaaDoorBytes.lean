/- What is proved here: plain facts on numbers as rows of bytes, seven bits in each, the lowest first: what is put is got, whatever stands behind; rows are short, and all bytes but the last have the high bit. Conditions: none beyond those each theorem states. -/
import Derived.WalkKit
namespace Go.Proofs.YtofmlodfhdjjiaaDoor

/-- A number's turned one. -/
def turn (n : Int) : Nat := if 0 ≤ n then (2 * n).toNat else (-2 * n - 1).toNat
/-- The number of a turned one. -/
def unturn (u : Nat) : Int := if u % 2 = 0 then (u / 2 : Nat) else -((u / 2 : Nat) : Int) - 1
theorem unturn_turn (n : Int) : unturn (turn n) = n := by
  unfold unturn turn
  split <;> split <;> omega
theorem turn_unturn (u : Nat) : turn (unturn u) = u := by
  unfold unturn turn
  split <;> split <;> omega
theorem turn_lt {n : Int} (h1 : -9223372036854775808 ≤ n) (h2 : n ≤ 9223372036854775807) : turn n < 18446744073709551616 := by
  unfold turn; split <;> omega
theorem unturn_fits {u : Nat} (h : u < 18446744073709551616) : -9223372036854775808 ≤ unturn u ∧ unturn u ≤ 9223372036854775807 := by
  unfold unturn; split <;> omega

/-- A turned number's bytes. -/
def enc (u : Nat) : List UInt8 :=
  if u < 128 then [UInt8.ofNat u] else UInt8.ofNat (u % 128 + 128) :: enc (u / 128)
termination_by u
decreasing_by omega
theorem enc_lo {u : Nat} (h : u < 128) : enc u = [UInt8.ofNat u] := by rw [enc, if_pos h]
theorem enc_hi {u : Nat} (h : 128 ≤ u) : enc u = UInt8.ofNat (u % 128 + 128) :: enc (u / 128) := by rw [enc, if_neg (by omega)]

/-- The number that a row of bytes makes, the lowest first, of each its low seven bits. -/
def num7 : List UInt8 → Nat
  | [] => 0
  | c :: l => c.toNat % 128 + 128 * num7 l
theorem num7_enc (u : Nat) : num7 (enc u) = u := by
  induction u using Nat.strongRecOn with
  | ind u ih =>
    by_cases h : u < 128
    · rw [enc_lo h]; simp [num7]; omega
    · rw [enc_hi (by omega)]
      simp only [num7, ih (u / 128) (by omega)]
      simp; omega
theorem enc_pos (u : Nat) : 1 ≤ (enc u).length := by
  by_cases h : u < 128
  · rw [enc_lo h]; simp
  · rw [enc_hi (by omega)]; simp
/-- A row of k bytes has room for 7k bits. -/
theorem enc_len {k : Nat} {u : Nat} (hk : 1 ≤ k) (h : u < 128 ^ k) : (enc u).length ≤ k := by
  induction k generalizing u with
  | zero => omega
  | succ k ih =>
    by_cases h1 : u < 128
    · rw [enc_lo h1]; simp
    · rw [enc_hi (by omega)]
      have hk0 : k ≠ 0 := by intro e; subst e; simp at h; omega
      have h2 : u / 128 < 128 ^ k := by
        rw [Nat.div_lt_iff_lt_mul (by decide)]; rw [Nat.pow_succ] at h; exact h
      have := ih (by omega) h2
      simp; omega
theorem enc_len_lo {k : Nat} {u : Nat} (h : 128 ^ k ≤ u) : k + 1 ≤ (enc u).length := by
  induction k generalizing u with
  | zero => exact enc_pos u
  | succ k ih =>
    have h1 : 128 ≤ u := by
      have : 1 ≤ 128 ^ k := Nat.one_le_pow _ _ (by decide)
      rw [Nat.pow_succ] at h; omega
    rw [enc_hi h1]
    have h2 : 128 ^ k ≤ u / 128 := by
      rw [Nat.le_div_iff_mul_le (by decide)]; rw [Nat.pow_succ] at h; exact h
    have := ih h2
    simp; omega
theorem enc_ten {u : Nat} (h : u < 18446744073709551616) : (enc u).length ≤ 10 :=
  enc_len (by decide) (Nat.lt_trans h (by decide))
theorem enc_mono {u v : Nat} (h : u ≤ v) : (enc u).length ≤ (enc v).length := by
  induction u using Nat.strongRecOn generalizing v with
  | ind u ih =>
    by_cases h1 : u < 128
    · rw [enc_lo h1]; exact enc_pos v
    · rw [enc_hi (show 128 ≤ u by omega), enc_hi (show 128 ≤ v by omega)]
      have := ih (u / 128) (by omega) (v := v / 128) (Nat.div_le_div_right h)
      simp; exact this
/-- How many bytes ahead have the high bit. -/
def run : List UInt8 → Nat
  | [] => 0
  | c :: l => if 128 ≤ c.toNat then run l + 1 else 0
theorem run_enc (u : Nat) (r : List UInt8) : run (enc u ++ r) + 1 = (enc u).length := by
  induction u using Nat.strongRecOn with
  | ind u ih =>
    by_cases h : u < 128
    · rw [enc_lo h]
      have : ¬ 128 ≤ (UInt8.ofNat u).toNat := by simp; omega
      simp only [List.cons_append, List.nil_append, run, if_neg this]; simp
    · rw [enc_hi (by omega)]
      have h2 : 128 ≤ (UInt8.ofNat (u % 128 + 128)).toNat := by simp; omega
      have := ih (u / 128) (by omega)
      simp only [List.cons_append, run, if_pos h2, List.length_cons]; omega
theorem enc_inj {u v : Nat} (h : enc u = enc v) : u = v := by rw [← num7_enc u, h, num7_enc]
/-- None begins with another one's. -/
theorem enc_prefix {u v : Nat} {r : List UInt8} (h : enc u ++ r = enc v) : u = v := by
  have h1 := run_enc u r
  have h2 := run_enc v []
  rw [List.append_nil] at h2
  rw [h] at h1
  have h3 : (enc u).length = (enc v).length := by omega
  have h4 : r = [] := by
    have := congrArg List.length h
    rw [List.length_append] at this
    exact List.length_eq_zero_iff.1 (by omega)
  subst h4
  rw [List.append_nil] at h
  exact enc_inj h
end Go.Proofs.YtofmlodfhdjjiaaDoor
