/- What is proved here: numbers' bits; the contract of ceil.Active's test. Conditions: those each theorem states. -/
import Derived.Test.YthicoekoeffpaaaCu
namespace Go.Proofs.Ythicoekoeffpaaa
open Go.ChangeShapes Go.WideShapes Go.RowKit

theorem bit_shift (h q : Int) {k : Nat} (hk : k < 64) : (h + 18446744073709551616 * q) / 2 ^ k % 2 = h / 2 ^ k % 2 := by
  have e : (18446744073709551616 : Int) * q = 2 ^ k * (2 * (2 ^ (63 - k) * q)) := by
    have e0 : (18446744073709551616 : Int) = 2 ^ (k + 1 + (63 - k)) := by rw [show k + 1 + (63 - k) = 64 by omega]; decide
    rw [e0, Int.pow_add, Int.pow_succ, Int.mul_assoc, Int.mul_assoc]
  rw [e, Int.add_mul_ediv_left _ _ (by exact Int.ne_of_gt (Int.pow_pos (by decide)))]
  omega
theorem and_one (x : Int) : bits .and .u64 x 1 = x % 2 := by
  unfold bits
  show IntKind.u64.wrap _ = _
  rw [IntKind.wrap_u64]
  have h : (BitVec.ofInt IntKind.u64.bits x &&& BitVec.ofInt IntKind.u64.bits 1).toNat = (BitVec.ofInt 64 x).toNat % 2 := by
    rw [BitVec.toNat_and]
    show _ &&& 1 = _
    exact Nat.and_two_pow_sub_one_eq_mod _ 1
  simp only [h, BitVec.toNat_ofInt]
  simp only [show (2 ^ 64 : Nat) = 18446744073709551616 from rfl]
  omega
theorem bit_word (h : Int) {k : Nat} (hk : k < 64) : (bits .and .u64 (IntKind.u64.wrap h / 2 ^ k) 1 == 1) = bitOf h k := by
  have e0 : IntKind.u64.wrap h = h % 18446744073709551616 := by rw [IntKind.wrap_u64]
  rw [e0, and_one _]
  have e := bit_shift (h % 18446744073709551616) (h / 18446744073709551616) hk
  rw [show h % 18446744073709551616 + 18446744073709551616 * (h / 18446744073709551616) = h by omega] at e
  rw [← e]
  rfl
theorem bit_bv (x : BitVec 64) {k : Nat} (hk : k < 64) : bitOf x.toInt k = x.getLsbD k := by
  have e : x.toInt = (x.toNat : Int) + 18446744073709551616 * (if 2 * x.toNat < 18446744073709551616 then 0 else -1) := by
    rw [BitVec.toInt_eq_toNat_cond]
    simp only [show (2 ^ 64 : Nat) = 18446744073709551616 from rfl]
    split <;> omega
  unfold bitOf
  rw [e, bit_shift _ _ hk]
  unfold BitVec.getLsbD
  rw [Nat.testBit_eq_decide_div_mod_eq]
  have e2 : (x.toNat : Int) / 2 ^ k % 2 = ((x.toNat / 2 ^ k % 2 : Nat) : Int) := by
    rw [Int.natCast_emod, Int.natCast_ediv, Int.natCast_pow]; rfl
  rw [e2]
  rw [decide_eq_decide]
  omega
theorem bits_or_bv (x y : BitVec 64) : bits .or .i64 x.toInt y.toInt = (x ||| y).toInt := by
  have wb : ∀ n : Int, IntKind.i64.wrap n = (BitVec.ofInt 64 n).toInt := by
    intro n
    rw [IntKind.wrap_i64, BitVec.toInt_ofInt]
    unfold Int.bmod
    simp only [show (2 ^ 64 : Nat) = 18446744073709551616 from rfl]
    split <;> omega
  unfold bits
  show IntKind.i64.wrap ((BitVec.ofInt 64 x.toInt ||| BitVec.ofInt 64 y.toInt).toNat : Int) = _
  rw [wb, BitVec.ofInt_toInt, BitVec.ofInt_toInt, BitVec.ofInt_natCast, BitVec.ofNat_toNat, BitVec.setWidth_eq]
theorem bv_of {a : Int} (h1 : -9223372036854775808 ≤ a) (h2 : a ≤ 9223372036854775807) : (BitVec.ofInt 64 a).toInt = a := by
  rw [BitVec.toInt_ofInt]
  unfold Int.bmod
  simp only [show (2 ^ 64 : Nat) = 18446744073709551616 from rfl]
  split <;> omega
/-- The bits of two numbers together. -/
theorem bit_or {a b : Int} (ha1 : -9223372036854775808 ≤ a) (ha2 : a ≤ 9223372036854775807) (hb1 : -9223372036854775808 ≤ b) (hb2 : b ≤ 9223372036854775807) {k : Nat} (hk : k < 64) : bitOf (bits .or .i64 a b) k = (bitOf a k || bitOf b k) := by
  rw [← bv_of ha1 ha2, ← bv_of hb1 hb2, bits_or_bv, bit_bv _ hk, bit_bv _ hk, bit_bv _ hk, BitVec.getLsbD_or]
set_option maxHeartbeats 1000000 in
set_option maxRecDepth 100000 in
theorem hasBit_any (k g : Nat) (h : Int) (w : World) (hg : w.cell? ⟨g, 0, none⟩ = some (.int .i64 h)) (hk : k < 64) :
    Calls Try.prog 32 #[.int .i64 k, .pointer (some ⟨g, 0, none⟩)] w fun e w' => e = .returned (.bool (bitOf h k)) ∧ Below w.heap.size w w' := by
  have i1 : (0 : Int) ≤ (k : Int) := by omega
  have HB := Lib.hid (bit_word h hk)
  go_enter Try.func32, Try.ntmps32
  go_wp2
  go_ret
  exact ⟨by rw [← HB.out]; rfl, Below.refl _ _⟩
end Go.Proofs.Ythicoekoeffpaaa
