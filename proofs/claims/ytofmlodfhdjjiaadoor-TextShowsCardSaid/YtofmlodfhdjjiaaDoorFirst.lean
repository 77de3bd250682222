/- What is proved here: contracts of code.Size and code.first. Conditions: numbers fit 64 bits, strings are no longer than Go's. -/
import Derived.Test.YtofmlodfhdjjiaaDoorNums
import Derived.Test.YtofmlodfhdjjiaaDoorLen
import Derived.Deep.LoopGhost
import Derived.WalkSpells
namespace Go.Proofs.YtofmlodfhdjjiaaDoor
open Go.ChangeShapes Go.WideShapes Go.RowKit

/-- How many bytes a number has. -/
def sz (n : Int) : Nat := (enc (turn n)).length
theorem turn_fits {n : Int} (h : Fits n) : turn n < 18446744073709551616 := turn_lt h.1 h.2
theorem sz_bits {n : Int} (h : Fits n) : (sz n : Int) = (max (Lib.bitLen (turn n) : Int) 1 + 6) / 7 := by
  unfold sz; rw [enc_size _ (turn_fits h)]; omega
theorem size_any (n : Int) (hf : Fits n) (w : World) :
    Calls Tryd.prog 69 #[.int .i64 n] w fun e w' => e = .returned (.int .i64 (sz n)) ∧ w = w' := by
  have hs := Lib.hid (sz_bits hf)
  have hb : Lib.bitLen (turn n) ≤ 64 := Lib.bitLen_le _ 64 (by decide) (turn_fits hf)
  have hu : turn n ≤ 18446744073709551615 := by have := turn_fits hf; omega
  obtain ⟨L, hL⟩ : ∃ L, L = Lib.bitLen (turn n) := ⟨_, rfl⟩
  have HL := Lib.hid hL
  rw [← hL] at hb
  clear hL
  go_enter Tryd.func69, Tryd.ntmps69
  go_wp2_with (first
    | (go_at_call 68; refine (turned_any _ hf _).mono ?_; rintro e w' ⟨rfl, rfl⟩)
    | (go_at_call 71; refine (len64_any _ hu _).mono ?_; rintro e w' ⟨rfl, rfl⟩; rw [← HL.out]))
  go_ret
  refine ⟨ret_int ?_, rfl⟩
  rw [hs.out, ← HL.out]
  omega

theorem pow9 {k : Nat} (h : k ≤ 9) : (128 : Nat) ^ k ≤ 9223372036854775808 := by
  have := Nat.pow_le_pow_right (show 0 < 128 by decide) h
  rw [p9] at this; exact this
theorem or_step (U c k : Nat) (hU : U < 128 ^ k) (hk : k ≤ 9) (hc : c * 128 ^ k < 18446744073709551616) :
    bits .or .u64 (U : Int) (IntKind.u64.wrap ((c : Int) * 2 ^ (7 * k))) = ((U + c * 128 ^ k : Nat) : Int) := by
  have e : (2 : Nat) ^ (7 * k) = 128 ^ k := by rw [Nat.pow_mul]
  have e2 : ((c : Int) * 2 ^ (7 * k)) = ((c * 128 ^ k : Nat) : Int) := by
    rw [← e]; simp
  have hU2 := pow9 hk
  rw [e2, IntKind.wrap_u64]
  have e3 : ((c * 128 ^ k : Nat) : Int) % 18446744073709551616 = ((c * 128 ^ k : Nat) : Int) := by omega
  rw [e3, u64_or_nat U (c * 128 ^ k) (by omega) hc, Nat.or_comm, nat_join (7 * k) (c * 128 ^ k) U (by rw [e]; exact Nat.mul_mod_left _ _) (by rw [e]; exact hU), Nat.add_comm]
theorem drop_byte (s : ByteArray) (k : Nat) (h : k < s.size) : s.data.toList.drop k = s[k] :: s.data.toList.drop (k + 1) := by
  rw [List.drop_eq_getElem_cons (by simpa using h)]; rfl
theorem step_more {s : ByteArray} {k U : Nat} (h : k < s.size) (h9 : k < 9) (hm : 128 ≤ s[k].toNat) (HS : Hid (scan 0 0 s.data.toList = scan k U (s.data.toList.drop k))) :
    Hid (scan 0 0 s.data.toList = scan (k + 1) (U + (s[k].toNat - 128) * 128 ^ k) (s.data.toList.drop (k + 1))) := by
  show _ = _
  rw [HS.out, drop_byte s k h, scan_more (by omega) hm]
theorem step_bad {s : ByteArray} {k U : Nat} (h : k < s.size) (hb : (0 < k ∧ s[k].toNat = 0) ∨ (k = 9 ∧ 1 < s[k].toNat)) (HS : Hid (scan 0 0 s.data.toList = scan k U (s.data.toList.drop k))) :
    scan 0 0 s.data.toList = (0, 0, 3) := by
  rw [HS.out, drop_byte s k h, scan_bad hb]
theorem step_last {s : ByteArray} {k U : Nat} (h : k < s.size) (hb : ¬ ((0 < k ∧ s[k].toNat = 0) ∨ (k = 9 ∧ 1 < s[k].toNat))) (hm : s[k].toNat < 128) (HS : Hid (scan 0 0 s.data.toList = scan k U (s.data.toList.drop k))) :
    scan 0 0 s.data.toList = (U + s[k].toNat * 128 ^ k, k + 1, 0) := by
  rw [HS.out, drop_byte s k h, scan_last hb hm]
theorem step_end {s : ByteArray} {k U : Nat} (h : ¬ k < s.size) (HS : Hid (scan 0 0 s.data.toList = scan k U (s.data.toList.drop k))) :
    scan 0 0 s.data.toList = (0, 0, 2) := by
  rw [HS.out, List.drop_eq_nil_of_le (by simpa using h)]; rfl
theorem room_lt {c k : Nat} (hc : c ≤ 127) (hk : k < 9) : c * 128 ^ k < 18446744073709551616 := by
  have h1 : (128 : Nat) ^ (k + 1) ≤ 9223372036854775808 := pow9 (by omega)
  have h2 : c * 128 ^ k ≤ 127 * 128 ^ k := Nat.mul_le_mul_right _ hc
  rw [Nat.pow_succ] at h1
  omega
theorem room_nine {c k : Nat} (hc : c ≤ 1) (hk : k ≤ 9) : c * 128 ^ k < 18446744073709551616 := by
  have h1 := pow9 hk
  have h2 : c * 128 ^ k ≤ 1 * 128 ^ k := Nat.mul_le_mul_right _ hc
  omega
theorem next_lt {U c k : Nat} (hU : U < 128 ^ k) (hc : c ≤ 127) : U + c * 128 ^ k < 128 ^ (k + 1) := by
  have h2 : c * 128 ^ k ≤ 127 * 128 ^ k := Nat.mul_le_mul_right _ hc
  rw [Nat.pow_succ]; omega

theorem ret3 {k1 k2 k3 : IntKind} {a b c a' b' c' : Int} (h1 : a = a') (h2 : b = b') (h3 : c = c') :
    Ending.returned (.tuple #[.int k1 a, .int k2 b, .int k3 c]) = .returned (.tuple #[.int k1 a', .int k2 b', .int k3 c']) := by subst h1 h2 h3; rfl
theorem or_nine (U c k : Nat) (hk : k = 9) (hU : U < 128 ^ k) (hc : c ≤ 1) : bits .or .u64 (U : Int) ((c : Int) * 9223372036854775808) = ((U + c * 128 ^ k : Nat) : Int) := by
  have h := or_step U c k hU (by omega) (room_nine hc (by omega))
  have e : IntKind.u64.wrap ((c : Int) * 2 ^ (7 * k)) = (c : Int) * 9223372036854775808 := by
    subst hk
    rw [IntKind.wrap_u64, show (2 : Int) ^ (7 * 9) = 9223372036854775808 from rfl]
    omega
  rw [e] at h; exact h
theorem or_zero (c : Nat) (hc : c < 256) : bits .or .u64 0 (c : Int) = (c : Int) := by
  have := u64_or_nat 0 c (by decide) (by omega)
  rw [Nat.zero_or] at this; exact this
end Go.Proofs.YtofmlodfhdjjiaaDoor
