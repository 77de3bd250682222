/- What is proved here: plain facts on 64-bit numbers as package num reckons them (sums, products, quotients, bits, shifts). Conditions: none beyond those each theorem states. -/
import Derived.WalkKit
namespace Go.Proofs.YtmdglgijbnidlaaDoor
open Go.RowKit

theorem wrap_bv (n : Int) : wrap64 n = (BitVec.ofInt 64 n).toInt := by
  rw [BitVec.toInt_ofInt]
  unfold wrap64 Int.bmod
  simp only [show (2 ^ 64 : Nat) = 18446744073709551616 from rfl]
  split <;> omega
theorem i64_wrap_bv (n : Int) : IntKind.i64.wrap n = (BitVec.ofInt 64 n).toInt := by
  rw [IntKind.wrap_i64, ← wrap_bv]; unfold wrap64; rfl

/-- A number that fits is a bit row's. -/
theorem bv_of {a : Int} (h1 : -9223372036854775808 ≤ a) (h2 : a ≤ 9223372036854775807) : (BitVec.ofInt 64 a).toInt = a := by
  rw [← wrap_bv]; unfold wrap64; omega

theorem and_mask (b : Int) : bits .and .i64 b 63 = b % 64 := by
  unfold bits
  show IntKind.i64.wrap _ = _
  rw [IntKind.wrap_i64]
  have h : (BitVec.ofInt IntKind.i64.bits b &&& BitVec.ofInt IntKind.i64.bits 63).toNat = (BitVec.ofInt 64 b).toNat % 64 := by
    rw [BitVec.toNat_and]
    show _ &&& 63 = _
    exact Nat.and_two_pow_sub_one_eq_mod _ 6
  simp only [h, BitVec.toNat_ofInt]
  simp only [show (2 ^ 64 : Nat) = 18446744073709551616 from rfl]
  omega

theorem bits_and_bv (x y : BitVec 64) : bits .and .i64 x.toInt y.toInt = (x &&& y).toInt := by
  unfold bits
  show IntKind.i64.wrap ((BitVec.ofInt 64 x.toInt &&& BitVec.ofInt 64 y.toInt).toNat : Int) = _
  rw [i64_wrap_bv, BitVec.ofInt_toInt, BitVec.ofInt_toInt, BitVec.ofInt_natCast, BitVec.ofNat_toNat, BitVec.setWidth_eq]
theorem bits_or_bv (x y : BitVec 64) : bits .or .i64 x.toInt y.toInt = (x ||| y).toInt := by
  unfold bits
  show IntKind.i64.wrap ((BitVec.ofInt 64 x.toInt ||| BitVec.ofInt 64 y.toInt).toNat : Int) = _
  rw [i64_wrap_bv, BitVec.ofInt_toInt, BitVec.ofInt_toInt, BitVec.ofInt_natCast, BitVec.ofNat_toNat, BitVec.setWidth_eq]
theorem bits_xor_bv (x y : BitVec 64) : bits .xor .i64 x.toInt y.toInt = (x ^^^ y).toInt := by
  unfold bits
  show IntKind.i64.wrap ((BitVec.ofInt 64 x.toInt ^^^ BitVec.ofInt 64 y.toInt).toNat : Int) = _
  rw [i64_wrap_bv, BitVec.ofInt_toInt, BitVec.ofInt_toInt, BitVec.ofInt_natCast, BitVec.ofNat_toNat, BitVec.setWidth_eq]

/-- What an operation makes of two numbers. -/
def val (op a b : Int) : Int :=
  if op = 1 then wrap64 (a + b) else if op = 2 then wrap64 (a - b) else if op = 3 then wrap64 (a * b)
  else if op = 4 then (if b = 0 then 0 else wrap64 (a.tdiv b)) else if op = 5 then (if b = 0 then 0 else a.tmod b)
  else if op = 6 then bits .and .i64 a b else if op = 7 then bits .or .i64 a b else if op = 8 then bits .xor .i64 a b
  else if op = 9 then wrap64 (a * 2 ^ (b % 64).toNat) else if op = 10 then a / 2 ^ (b % 64).toNat
  else if op = 11 then (if a < b then 1 else 0) else if op = 12 then (if a = b then 1 else 0) else 0
/-- Whether it is a fault. -/
def bad (op b : Int) : Bool := if 1 ≤ op ∧ op ≤ 12 then (if op = 4 ∨ op = 5 then decide (b = 0) else false) else true

theorem val1 (a b : Int) : val 1 a b = wrap64 (a + b) := by simp [val]
theorem val2 (a b : Int) : val 2 a b = wrap64 (a - b) := by simp [val]
theorem val3 (a b : Int) : val 3 a b = wrap64 (a * b) := by simp [val]
theorem val4 (a b : Int) : val 4 a b = if b = 0 then 0 else wrap64 (a.tdiv b) := by simp [val]
theorem val5 (a b : Int) : val 5 a b = if b = 0 then 0 else a.tmod b := by simp [val]
theorem val6 (a b : Int) : val 6 a b = bits .and .i64 a b := by simp [val]
theorem val7 (a b : Int) : val 7 a b = bits .or .i64 a b := by simp [val]
theorem val8 (a b : Int) : val 8 a b = bits .xor .i64 a b := by simp [val]
theorem val9 (a b : Int) : val 9 a b = wrap64 (a * 2 ^ (b % 64).toNat) := by simp [val]
theorem val10 (a b : Int) : val 10 a b = a / 2 ^ (b % 64).toNat := by simp [val]
theorem val11 (a b : Int) : val 11 a b = if a < b then 1 else 0 := by simp [val]
theorem val12 (a b : Int) : val 12 a b = if a = b then 1 else 0 := by simp [val]

theorem add_bv (x y : BitVec 64) : val 1 x.toInt y.toInt = (x + y).toInt := by
  rw [val1, wrap_bv, BitVec.ofInt_add, BitVec.ofInt_toInt, BitVec.ofInt_toInt]
theorem sub_bv (x y : BitVec 64) : val 2 x.toInt y.toInt = (x - y).toInt := by
  rw [val2, wrap_bv, Int.sub_eq_add_neg, BitVec.ofInt_add, BitVec.ofInt_neg, BitVec.ofInt_toInt, BitVec.ofInt_toInt, BitVec.sub_eq_add_neg]
theorem mul_bv (x y : BitVec 64) : val 3 x.toInt y.toInt = (x * y).toInt := by
  rw [val3, wrap_bv, BitVec.ofInt_mul, BitVec.ofInt_toInt, BitVec.ofInt_toInt]
theorem and_bv (x y : BitVec 64) : val 6 x.toInt y.toInt = (x &&& y).toInt := by rw [val6, bits_and_bv]
theorem or_bv (x y : BitVec 64) : val 7 x.toInt y.toInt = (x ||| y).toInt := by rw [val7, bits_or_bv]
theorem xor_bv (x y : BitVec 64) : val 8 x.toInt y.toInt = (x ^^^ y).toInt := by rw [val8, bits_xor_bv]

theorem or_parts (x y : BitVec 64) : x ||| y = (x &&& y) + (x ^^^ y) := by
  rw [BitVec.add_eq_or_of_and_eq_zero]
  · ext i hi
    simp only [BitVec.getElem_or, BitVec.getElem_and, BitVec.getElem_xor]
    cases x[i] <;> cases y[i] <;> rfl
  · ext i hi
    simp only [BitVec.getElem_and, BitVec.getElem_xor, BitVec.getElem_zero]
    cases x[i] <;> cases y[i] <;> rfl
theorem own_part (x y : BitVec 64) : x = (x &&& y) + (x &&& ~~~y) := by
  rw [BitVec.add_eq_or_of_and_eq_zero]
  · ext i hi
    simp only [BitVec.getElem_or, BitVec.getElem_and, BitVec.getElem_not]
    cases x[i] <;> cases y[i] <;> rfl
  · ext i hi
    simp only [BitVec.getElem_and, BitVec.getElem_not, BitVec.getElem_zero]
    cases x[i] <;> cases y[i] <;> rfl
theorem xor_parts (x y : BitVec 64) : x ^^^ y = (x &&& ~~~y) + (y &&& ~~~x) := by
  rw [BitVec.add_eq_or_of_and_eq_zero]
  · ext i hi
    simp only [BitVec.getElem_or, BitVec.getElem_and, BitVec.getElem_not, BitVec.getElem_xor]
    cases x[i] <;> cases y[i] <;> rfl
  · ext i hi
    simp only [BitVec.getElem_and, BitVec.getElem_not, BitVec.getElem_zero]
    cases x[i] <;> cases y[i] <;> rfl
theorem and_add_or (x y : BitVec 64) : (x &&& y) + (x ||| y) = x + y := by
  have h1 : x + y = ((x &&& y) + (x &&& ~~~y)) + ((y &&& x) + (y &&& ~~~x)) := by rw [← own_part x y, ← own_part y x]
  rw [or_parts, xor_parts, h1, BitVec.and_comm y x]
  ac_rfl
theorem or_sub_and (x y : BitVec 64) : (x ||| y) - (x &&& y) = x ^^^ y := by
  rw [or_parts, BitVec.add_comm, BitVec.add_sub_cancel]

def fits (a : Int) : Prop := -9223372036854775808 ≤ a ∧ a ≤ 9223372036854775807
theorem fits_bv {a : Int} (h : fits a) : ∃ x : BitVec 64, a = x.toInt := ⟨BitVec.ofInt 64 a, (bv_of h.1 h.2).symm⟩
theorem wrap_fits (n : Int) : fits (wrap64 n) := by unfold fits wrap64; omega

theorem val_comm1 {a b : Int} : val 1 a b = val 1 b a := by rw [val1, val1, Int.add_comm]
theorem val_comm3 {a b : Int} : val 3 a b = val 3 b a := by rw [val3, val3, Int.mul_comm]
theorem val_comm12 {a b : Int} : val 12 a b = val 12 b a := by
  rw [val12, val12]; by_cases h : a = b
  · rw [if_pos h, if_pos h.symm]
  · rw [if_neg h, if_neg (fun e => h e.symm)]
theorem val_comm6 {a b : Int} (ha : fits a) (hb : fits b) : val 6 a b = val 6 b a := by
  obtain ⟨x, rfl⟩ := fits_bv ha; obtain ⟨y, rfl⟩ := fits_bv hb; rw [and_bv, and_bv, BitVec.and_comm]
theorem val_comm7 {a b : Int} (ha : fits a) (hb : fits b) : val 7 a b = val 7 b a := by
  obtain ⟨x, rfl⟩ := fits_bv ha; obtain ⟨y, rfl⟩ := fits_bv hb; rw [or_bv, or_bv, BitVec.or_comm]
theorem val_comm8 {a b : Int} (ha : fits a) (hb : fits b) : val 8 a b = val 8 b a := by
  obtain ⟨x, rfl⟩ := fits_bv ha; obtain ⟨y, rfl⟩ := fits_bv hb; rw [xor_bv, xor_bv, BitVec.xor_comm]
theorem both_sum {a b : Int} (ha : fits a) (hb : fits b) : val 1 (val 6 a b) (val 7 a b) = val 1 a b := by
  obtain ⟨x, rfl⟩ := fits_bv ha; obtain ⟨y, rfl⟩ := fits_bv hb
  rw [and_bv, or_bv, add_bv, add_bv, and_add_or]
theorem bits_m {a b : Int} (ha : fits a) (hb : fits b) : val 6 (val 6 a b) a = val 6 a b := by
  obtain ⟨x, rfl⟩ := fits_bv ha; obtain ⟨y, rfl⟩ := fits_bv hb
  rw [and_bv, and_bv]; congr 1; ext i hi; simp only [BitVec.getElem_and]; cases x[i] <;> cases y[i] <;> rfl
theorem bits_p {a b : Int} (ha : fits a) (hb : fits b) : val 7 (val 7 a b) a = val 7 a b := by
  obtain ⟨x, rfl⟩ := fits_bv ha; obtain ⟨y, rfl⟩ := fits_bv hb
  rw [or_bv, or_bv]; congr 1; ext i hi; simp only [BitVec.getElem_or]; cases x[i] <;> cases y[i] <;> rfl
theorem bits_s {a b : Int} (ha : fits a) (hb : fits b) : val 2 (val 7 a b) (val 6 a b) = val 8 a b := by
  obtain ⟨x, rfl⟩ := fits_bv ha; obtain ⟨y, rfl⟩ := fits_bv hb
  rw [or_bv, and_bv, xor_bv, sub_bv, or_sub_and]
theorem bits_d {a b : Int} (ha : fits a) (hb : fits b) : val 6 (val 6 a b) (val 8 a b) = 0 := by
  obtain ⟨x, rfl⟩ := fits_bv ha; obtain ⟨y, rfl⟩ := fits_bv hb
  rw [and_bv, xor_bv, and_bv]
  have : (x &&& y) &&& (x ^^^ y) = 0#64 := by
    ext i hi; simp only [BitVec.getElem_and, BitVec.getElem_xor, BitVec.getElem_zero]; cases x[i] <;> cases y[i] <;> rfl
  rw [this]; rfl

theorem add_assoc' {a b c : Int} : val 1 (val 1 a b) c = val 1 a (val 1 b c) := by
  rw [val1, val1, val1, val1]; unfold wrap64; omega
theorem wrap_mul (x y : Int) : wrap64 (wrap64 x * y) = wrap64 (x * y) := by
  rw [wrap_bv, wrap_bv, wrap_bv, BitVec.ofInt_mul, BitVec.ofInt_toInt, ← BitVec.ofInt_mul]
theorem wrap_mul' (x y : Int) : wrap64 (x * wrap64 y) = wrap64 (x * y) := by rw [Int.mul_comm, wrap_mul, Int.mul_comm]
theorem wrap_add (x y : Int) : wrap64 (wrap64 x + y) = wrap64 (x + y) := by unfold wrap64; omega
theorem wrap_add' (x y : Int) : wrap64 (x + wrap64 y) = wrap64 (x + y) := by unfold wrap64; omega
theorem mul_assoc' {a b c : Int} : val 3 (val 3 a b) c = val 3 a (val 3 b c) := by
  rw [val3, val3, val3, val3, wrap_mul, wrap_mul', Int.mul_assoc]
theorem mul_sum {a b c : Int} : val 3 c (val 1 a b) = val 1 (val 3 a c) (val 3 b c) := by
  rw [val3, val1, val1, val3, val3, wrap_mul', wrap_add, wrap_add', Int.mul_comm, Int.add_mul]

theorem sub_back {a b : Int} (ha : fits a) : val 2 (val 1 a b) b = a := by
  rw [val2, val1]; unfold wrap64; unfold fits at ha; omega
theorem xor_back {a b : Int} (ha : fits a) (hb : fits b) : val 8 (val 8 a b) b = a := by
  obtain ⟨x, rfl⟩ := fits_bv ha; obtain ⟨y, rfl⟩ := fits_bv hb
  rw [xor_bv, xor_bv]; congr 1; ext i hi; simp only [BitVec.getElem_xor]; cases x[i] <;> cases y[i] <;> rfl

theorem pow_pos (n : Nat) : (0 : Int) < 2 ^ n := Int.pow_pos (by decide)
theorem shl_shl {a : Int} {j k : Nat} (h : j + k < 64) : val 9 (val 9 a j) k = val 9 a ((j : Int) + k) := by
  rw [val9, val9, val9, wrap_mul]
  have e1 : ((j : Int) % 64).toNat = j := by omega
  have e2 : ((k : Int) % 64).toNat = k := by omega
  have e3 : (((j : Int) + k) % 64).toNat = j + k := by omega
  rw [e1, e2, e3, Int.pow_add, Int.mul_assoc]
theorem shr_shr {a : Int} {j k : Nat} (h : j + k < 64) : val 10 (val 10 a j) k = val 10 a ((j : Int) + k + 64) := by
  rw [val10, val10, val10]
  have e1 : ((j : Int) % 64).toNat = j := by omega
  have e2 : ((k : Int) % 64).toNat = k := by omega
  have e3 : (((j : Int) + k + 64) % 64).toNat = j + k := by omega
  rw [e1, e2, e3, Int.pow_add, Int.ediv_ediv_of_nonneg (Int.le_of_lt (pow_pos _))]
theorem shr_sign (a : Int) (k : Int) : (val 10 a k < 0) ↔ a < 0 := by
  rw [val10]
  have h := Int.le_ediv_iff_mul_le (a := 0) (b := a) (pow_pos (k % 64).toNat)
  rw [Int.zero_mul] at h
  omega
theorem shr_all {a : Int} (ha : fits a) : val 10 a 63 = 0 ∨ val 10 a 63 = -1 := by
  rw [val10]
  show a / 9223372036854775808 = 0 ∨ a / 9223372036854775808 = -1
  unfold fits at ha; omega
theorem shl_shr {a : Int} {k : Nat} (h1 : -1073741824 < a) (h2 : a < 1073741824) (hk : k < 32) : val 10 (val 9 a k) k = a := by
  rw [val10, val9]
  have e1 : ((k : Int) % 64).toNat = k := by omega
  rw [e1]
  have hp := pow_pos k
  have hq : (2 : Int) ^ k ≤ 2147483648 := by
    have : (2 : Nat) ^ k ≤ 2 ^ 31 := Nat.pow_le_pow_right (by decide) (by omega)
    have h3 : ((2 ^ k : Nat) : Int) ≤ ((2 ^ 31 : Nat) : Int) := Int.ofNat_le.2 this
    simpa using h3
  have b1 : a * 2 ^ k ≤ 1073741824 * 2147483648 :=
    Int.le_trans (Int.mul_le_mul_of_nonneg_right (Int.le_of_lt h2) (Int.le_of_lt hp)) (Int.mul_le_mul_of_nonneg_left hq (by decide))
  have b2 : -(1073741824 * 2147483648) ≤ a * 2 ^ k := by
    have : (-a) * 2 ^ k ≤ 1073741824 * 2147483648 :=
      Int.le_trans (Int.mul_le_mul_of_nonneg_right (by omega) (Int.le_of_lt hp)) (Int.mul_le_mul_of_nonneg_left hq (by decide))
    rw [Int.neg_mul] at this; omega
  have hw : wrap64 (a * 2 ^ k) = a * 2 ^ k := by
    generalize a * 2 ^ k = z at b1 b2 ⊢
    unfold wrap64; omega
  rw [hw, Int.mul_ediv_cancel _ (by omega)]

theorem div_back {a b : Int} (ha : fits a) (hb : ¬ b = 0) : val 1 (val 3 b (val 4 a b)) (val 5 a b) = a := by
  rw [val1, val3, val4, val5, if_neg hb, if_neg hb, wrap_mul', wrap_add]
  have : b * a.tdiv b + a.tmod b = a := Int.mul_tdiv_add_tmod a b
  rw [this]; unfold fits at ha; unfold wrap64; omega
theorem mod_near {a b : Int} (hb : ¬ b = 0) : (val 5 a b).natAbs < b.natAbs := by
  rw [val5, if_neg hb, Int.natAbs_tmod]
  exact Nat.mod_lt _ (by omega)
theorem mod_pos {a b : Int} (h : 0 ≤ a) : 0 ≤ val 5 a b := by
  rw [val5]; split
  · omega
  · exact Int.tmod_nonneg _ h
theorem mod_neg {a b : Int} (h : a ≤ 0) : val 5 a b ≤ 0 := by
  rw [val5]; split
  · omega
  · have h1 : 0 ≤ (-a).tmod b := Int.tmod_nonneg _ (by omega)
    rw [Int.neg_tmod] at h1; omega
end Go.Proofs.YtmdglgijbnidlaaDoor
