/- What is proved here: plain facts on 64-bit numbers as package num reckons them (sums, products, quotients, bits, shifts). Conditions: none beyond those each theorem states. plain facts on which instructions can be. Conditions: none beyond those each theorem states. plain facts on regions of rows of instructions: the stack of open regions ahead of each place, the matches, homes and locks that it gives, and how they hang together. Conditions: those each theorem states. the plain answers of package nest (matches, homes, what is wrong, locks, held blocks) and facts on the bits of held blocks. Conditions: those each theorem states. plain facts on matches, homes and locks of rows whose regions stand in one another: regions that meet stand in one another, homes lead out, blocks that are locked rise. Conditions: those each theorem states. plain facts on rows one behind the other, and on a loop around a row: their regions, jumps and locks. Conditions: those each theorem states. plain facts on what instructions take and give, and on the stacks ahead of the instructions of a row. Conditions: those each theorem states. plain facts on the stacks ahead of the instructions of a row that is whole. Conditions: those each theorem states. plain facts: how stacks flow from an instruction to the next ones, and how deep they get. Conditions: those each theorem states. -/
import Derived.WalkKit
import Derived.Test.YthncbnalnfbpnaaGreatDoorChecked
import Derived.Lib.BitFns
import Derived.Lib.Hide
import Derived.Lib.Small
import Derived.Lib.Walk
import Derived.Laws.BitsAllLaws
import Derived.Outline
import Derived.Deep.LoopGhost
import Derived.WalkSpells
import Derived.Deep.QuietTactic
import Derived.BigQuiet
section
namespace Go.Proofs.YthncbnalnfbpnaaGreatDoor
open Go.RowKit

theorem wrap_bv (n : Int) : wrap64 n = (BitVec.ofInt 64 n).toInt := by
  rw [BitVec.toInt_ofInt]
  unfold wrap64 Int.bmod
  simp only [show (2 ^ 64 : Nat) = 18446744073709551616 from rfl]
  split <;> omega
theorem i64_wrap_bv (n : Int) : IntKind.i64.wrap n = (BitVec.ofInt 64 n).toInt := by
  rw [IntKind.wrap_i64, ← wrap_bv]; unfold wrap64; rfl

/-- A number that fits is a bit row's. -/
theorem bv_of {a : Int} (h1 : -9223372036854775808 ≤ a) (h2 : a ≤ 9223372036854775807) : (BitVec.ofInt 64 a).toInt = a := by
  rw [← wrap_bv]; unfold wrap64; omega

theorem and_mask (b : Int) : bits .and .i64 b 63 = b % 64 := by
  unfold bits
  show IntKind.i64.wrap _ = _
  rw [IntKind.wrap_i64]
  have h : (BitVec.ofInt IntKind.i64.bits b &&& BitVec.ofInt IntKind.i64.bits 63).toNat = (BitVec.ofInt 64 b).toNat % 64 := by
    rw [BitVec.toNat_and]
    show _ &&& 63 = _
    exact Nat.and_two_pow_sub_one_eq_mod _ 6
  simp only [h, BitVec.toNat_ofInt]
  simp only [show (2 ^ 64 : Nat) = 18446744073709551616 from rfl]
  omega

theorem bits_and_bv (x y : BitVec 64) : bits .and .i64 x.toInt y.toInt = (x &&& y).toInt := by
  unfold bits
  show IntKind.i64.wrap ((BitVec.ofInt 64 x.toInt &&& BitVec.ofInt 64 y.toInt).toNat : Int) = _
  rw [i64_wrap_bv, BitVec.ofInt_toInt, BitVec.ofInt_toInt, BitVec.ofInt_natCast, BitVec.ofNat_toNat, BitVec.setWidth_eq]
theorem bits_or_bv (x y : BitVec 64) : bits .or .i64 x.toInt y.toInt = (x ||| y).toInt := by
  unfold bits
  show IntKind.i64.wrap ((BitVec.ofInt 64 x.toInt ||| BitVec.ofInt 64 y.toInt).toNat : Int) = _
  rw [i64_wrap_bv, BitVec.ofInt_toInt, BitVec.ofInt_toInt, BitVec.ofInt_natCast, BitVec.ofNat_toNat, BitVec.setWidth_eq]
theorem bits_xor_bv (x y : BitVec 64) : bits .xor .i64 x.toInt y.toInt = (x ^^^ y).toInt := by
  unfold bits
  show IntKind.i64.wrap ((BitVec.ofInt 64 x.toInt ^^^ BitVec.ofInt 64 y.toInt).toNat : Int) = _
  rw [i64_wrap_bv, BitVec.ofInt_toInt, BitVec.ofInt_toInt, BitVec.ofInt_natCast, BitVec.ofNat_toNat, BitVec.setWidth_eq]

/-- What an operation makes of two numbers. -/
def val (op a b : Int) : Int :=
  if op = 1 then wrap64 (a + b) else if op = 2 then wrap64 (a - b) else if op = 3 then wrap64 (a * b)
  else if op = 4 then (if b = 0 then 0 else wrap64 (a.tdiv b)) else if op = 5 then (if b = 0 then 0 else a.tmod b)
  else if op = 6 then bits .and .i64 a b else if op = 7 then bits .or .i64 a b else if op = 8 then bits .xor .i64 a b
  else if op = 9 then wrap64 (a * 2 ^ (b % 64).toNat) else if op = 10 then a / 2 ^ (b % 64).toNat
  else if op = 11 then (if a < b then 1 else 0) else if op = 12 then (if a = b then 1 else 0) else 0
/-- Whether it is a fault. -/
def bad (op b : Int) : Bool := if 1 ≤ op ∧ op ≤ 12 then (if op = 4 ∨ op = 5 then decide (b = 0) else false) else true

theorem val1 (a b : Int) : val 1 a b = wrap64 (a + b) := by simp [val]
theorem val2 (a b : Int) : val 2 a b = wrap64 (a - b) := by simp [val]
theorem val3 (a b : Int) : val 3 a b = wrap64 (a * b) := by simp [val]
theorem val4 (a b : Int) : val 4 a b = if b = 0 then 0 else wrap64 (a.tdiv b) := by simp [val]
theorem val5 (a b : Int) : val 5 a b = if b = 0 then 0 else a.tmod b := by simp [val]
theorem val6 (a b : Int) : val 6 a b = bits .and .i64 a b := by simp [val]
theorem val7 (a b : Int) : val 7 a b = bits .or .i64 a b := by simp [val]
theorem val8 (a b : Int) : val 8 a b = bits .xor .i64 a b := by simp [val]
theorem val9 (a b : Int) : val 9 a b = wrap64 (a * 2 ^ (b % 64).toNat) := by simp [val]
theorem val10 (a b : Int) : val 10 a b = a / 2 ^ (b % 64).toNat := by simp [val]
theorem val11 (a b : Int) : val 11 a b = if a < b then 1 else 0 := by simp [val]
theorem val12 (a b : Int) : val 12 a b = if a = b then 1 else 0 := by simp [val]

theorem add_bv (x y : BitVec 64) : val 1 x.toInt y.toInt = (x + y).toInt := by
  rw [val1, wrap_bv, BitVec.ofInt_add, BitVec.ofInt_toInt, BitVec.ofInt_toInt]
theorem sub_bv (x y : BitVec 64) : val 2 x.toInt y.toInt = (x - y).toInt := by
  rw [val2, wrap_bv, Int.sub_eq_add_neg, BitVec.ofInt_add, BitVec.ofInt_neg, BitVec.ofInt_toInt, BitVec.ofInt_toInt, BitVec.sub_eq_add_neg]
theorem mul_bv (x y : BitVec 64) : val 3 x.toInt y.toInt = (x * y).toInt := by
  rw [val3, wrap_bv, BitVec.ofInt_mul, BitVec.ofInt_toInt, BitVec.ofInt_toInt]
theorem and_bv (x y : BitVec 64) : val 6 x.toInt y.toInt = (x &&& y).toInt := by rw [val6, bits_and_bv]
theorem or_bv (x y : BitVec 64) : val 7 x.toInt y.toInt = (x ||| y).toInt := by rw [val7, bits_or_bv]
theorem xor_bv (x y : BitVec 64) : val 8 x.toInt y.toInt = (x ^^^ y).toInt := by rw [val8, bits_xor_bv]

theorem or_parts (x y : BitVec 64) : x ||| y = (x &&& y) + (x ^^^ y) := by
  rw [BitVec.add_eq_or_of_and_eq_zero]
  · ext i hi
    simp only [BitVec.getElem_or, BitVec.getElem_and, BitVec.getElem_xor]
    cases x[i] <;> cases y[i] <;> rfl
  · ext i hi
    simp only [BitVec.getElem_and, BitVec.getElem_xor, BitVec.getElem_zero]
    cases x[i] <;> cases y[i] <;> rfl
theorem own_part (x y : BitVec 64) : x = (x &&& y) + (x &&& ~~~y) := by
  rw [BitVec.add_eq_or_of_and_eq_zero]
  · ext i hi
    simp only [BitVec.getElem_or, BitVec.getElem_and, BitVec.getElem_not]
    cases x[i] <;> cases y[i] <;> rfl
  · ext i hi
    simp only [BitVec.getElem_and, BitVec.getElem_not, BitVec.getElem_zero]
    cases x[i] <;> cases y[i] <;> rfl
theorem xor_parts (x y : BitVec 64) : x ^^^ y = (x &&& ~~~y) + (y &&& ~~~x) := by
  rw [BitVec.add_eq_or_of_and_eq_zero]
  · ext i hi
    simp only [BitVec.getElem_or, BitVec.getElem_and, BitVec.getElem_not, BitVec.getElem_xor]
    cases x[i] <;> cases y[i] <;> rfl
  · ext i hi
    simp only [BitVec.getElem_and, BitVec.getElem_not, BitVec.getElem_zero]
    cases x[i] <;> cases y[i] <;> rfl
theorem and_add_or (x y : BitVec 64) : (x &&& y) + (x ||| y) = x + y := by
  have h1 : x + y = ((x &&& y) + (x &&& ~~~y)) + ((y &&& x) + (y &&& ~~~x)) := by rw [← own_part x y, ← own_part y x]
  rw [or_parts, xor_parts, h1, BitVec.and_comm y x]
  ac_rfl
theorem or_sub_and (x y : BitVec 64) : (x ||| y) - (x &&& y) = x ^^^ y := by
  rw [or_parts, BitVec.add_comm, BitVec.add_sub_cancel]

def fits (a : Int) : Prop := -9223372036854775808 ≤ a ∧ a ≤ 9223372036854775807
theorem fits_bv {a : Int} (h : fits a) : ∃ x : BitVec 64, a = x.toInt := ⟨BitVec.ofInt 64 a, (bv_of h.1 h.2).symm⟩
theorem wrap_fits (n : Int) : fits (wrap64 n) := by unfold fits wrap64; omega

theorem val_comm1 {a b : Int} : val 1 a b = val 1 b a := by rw [val1, val1, Int.add_comm]
theorem val_comm3 {a b : Int} : val 3 a b = val 3 b a := by rw [val3, val3, Int.mul_comm]
theorem val_comm12 {a b : Int} : val 12 a b = val 12 b a := by
  rw [val12, val12]; by_cases h : a = b
  · rw [if_pos h, if_pos h.symm]
  · rw [if_neg h, if_neg (fun e => h e.symm)]
theorem val_comm6 {a b : Int} (ha : fits a) (hb : fits b) : val 6 a b = val 6 b a := by
  obtain ⟨x, rfl⟩ := fits_bv ha; obtain ⟨y, rfl⟩ := fits_bv hb; rw [and_bv, and_bv, BitVec.and_comm]
theorem val_comm7 {a b : Int} (ha : fits a) (hb : fits b) : val 7 a b = val 7 b a := by
  obtain ⟨x, rfl⟩ := fits_bv ha; obtain ⟨y, rfl⟩ := fits_bv hb; rw [or_bv, or_bv, BitVec.or_comm]
theorem val_comm8 {a b : Int} (ha : fits a) (hb : fits b) : val 8 a b = val 8 b a := by
  obtain ⟨x, rfl⟩ := fits_bv ha; obtain ⟨y, rfl⟩ := fits_bv hb; rw [xor_bv, xor_bv, BitVec.xor_comm]
theorem both_sum {a b : Int} (ha : fits a) (hb : fits b) : val 1 (val 6 a b) (val 7 a b) = val 1 a b := by
  obtain ⟨x, rfl⟩ := fits_bv ha; obtain ⟨y, rfl⟩ := fits_bv hb
  rw [and_bv, or_bv, add_bv, add_bv, and_add_or]
theorem bits_m {a b : Int} (ha : fits a) (hb : fits b) : val 6 (val 6 a b) a = val 6 a b := by
  obtain ⟨x, rfl⟩ := fits_bv ha; obtain ⟨y, rfl⟩ := fits_bv hb
  rw [and_bv, and_bv]; congr 1; ext i hi; simp only [BitVec.getElem_and]; cases x[i] <;> cases y[i] <;> rfl
theorem bits_p {a b : Int} (ha : fits a) (hb : fits b) : val 7 (val 7 a b) a = val 7 a b := by
  obtain ⟨x, rfl⟩ := fits_bv ha; obtain ⟨y, rfl⟩ := fits_bv hb
  rw [or_bv, or_bv]; congr 1; ext i hi; simp only [BitVec.getElem_or]; cases x[i] <;> cases y[i] <;> rfl
theorem bits_s {a b : Int} (ha : fits a) (hb : fits b) : val 2 (val 7 a b) (val 6 a b) = val 8 a b := by
  obtain ⟨x, rfl⟩ := fits_bv ha; obtain ⟨y, rfl⟩ := fits_bv hb
  rw [or_bv, and_bv, xor_bv, sub_bv, or_sub_and]
theorem bits_d {a b : Int} (ha : fits a) (hb : fits b) : val 6 (val 6 a b) (val 8 a b) = 0 := by
  obtain ⟨x, rfl⟩ := fits_bv ha; obtain ⟨y, rfl⟩ := fits_bv hb
  rw [and_bv, xor_bv, and_bv]
  have : (x &&& y) &&& (x ^^^ y) = 0#64 := by
    ext i hi; simp only [BitVec.getElem_and, BitVec.getElem_xor, BitVec.getElem_zero]; cases x[i] <;> cases y[i] <;> rfl
  rw [this]; rfl

theorem add_assoc' {a b c : Int} : val 1 (val 1 a b) c = val 1 a (val 1 b c) := by
  rw [val1, val1, val1, val1]; unfold wrap64; omega
theorem wrap_mul (x y : Int) : wrap64 (wrap64 x * y) = wrap64 (x * y) := by
  rw [wrap_bv, wrap_bv, wrap_bv, BitVec.ofInt_mul, BitVec.ofInt_toInt, ← BitVec.ofInt_mul]
theorem wrap_mul' (x y : Int) : wrap64 (x * wrap64 y) = wrap64 (x * y) := by rw [Int.mul_comm, wrap_mul, Int.mul_comm]
theorem wrap_add (x y : Int) : wrap64 (wrap64 x + y) = wrap64 (x + y) := by unfold wrap64; omega
theorem wrap_add' (x y : Int) : wrap64 (x + wrap64 y) = wrap64 (x + y) := by unfold wrap64; omega
theorem mul_assoc' {a b c : Int} : val 3 (val 3 a b) c = val 3 a (val 3 b c) := by
  rw [val3, val3, val3, val3, wrap_mul, wrap_mul', Int.mul_assoc]
theorem mul_sum {a b c : Int} : val 3 c (val 1 a b) = val 1 (val 3 a c) (val 3 b c) := by
  rw [val3, val1, val1, val3, val3, wrap_mul', wrap_add, wrap_add', Int.mul_comm, Int.add_mul]

theorem sub_back {a b : Int} (ha : fits a) : val 2 (val 1 a b) b = a := by
  rw [val2, val1]; unfold wrap64; unfold fits at ha; omega
theorem xor_back {a b : Int} (ha : fits a) (hb : fits b) : val 8 (val 8 a b) b = a := by
  obtain ⟨x, rfl⟩ := fits_bv ha; obtain ⟨y, rfl⟩ := fits_bv hb
  rw [xor_bv, xor_bv]; congr 1; ext i hi; simp only [BitVec.getElem_xor]; cases x[i] <;> cases y[i] <;> rfl

theorem pow_pos (n : Nat) : (0 : Int) < 2 ^ n := Int.pow_pos (by decide)
theorem shl_shl {a : Int} {j k : Nat} (h : j + k < 64) : val 9 (val 9 a j) k = val 9 a ((j : Int) + k) := by
  rw [val9, val9, val9, wrap_mul]
  have e1 : ((j : Int) % 64).toNat = j := by omega
  have e2 : ((k : Int) % 64).toNat = k := by omega
  have e3 : (((j : Int) + k) % 64).toNat = j + k := by omega
  rw [e1, e2, e3, Int.pow_add, Int.mul_assoc]
theorem shr_shr {a : Int} {j k : Nat} (h : j + k < 64) : val 10 (val 10 a j) k = val 10 a ((j : Int) + k + 64) := by
  rw [val10, val10, val10]
  have e1 : ((j : Int) % 64).toNat = j := by omega
  have e2 : ((k : Int) % 64).toNat = k := by omega
  have e3 : (((j : Int) + k + 64) % 64).toNat = j + k := by omega
  rw [e1, e2, e3, Int.pow_add, Int.ediv_ediv_of_nonneg (Int.le_of_lt (pow_pos _))]
theorem shr_sign (a : Int) (k : Int) : (val 10 a k < 0) ↔ a < 0 := by
  rw [val10]
  have h := Int.le_ediv_iff_mul_le (a := 0) (b := a) (pow_pos (k % 64).toNat)
  rw [Int.zero_mul] at h
  omega
theorem shr_all {a : Int} (ha : fits a) : val 10 a 63 = 0 ∨ val 10 a 63 = -1 := by
  rw [val10]
  show a / 9223372036854775808 = 0 ∨ a / 9223372036854775808 = -1
  unfold fits at ha; omega
theorem shl_shr {a : Int} {k : Nat} (h1 : -1073741824 < a) (h2 : a < 1073741824) (hk : k < 32) : val 10 (val 9 a k) k = a := by
  rw [val10, val9]
  have e1 : ((k : Int) % 64).toNat = k := by omega
  rw [e1]
  have hp := pow_pos k
  have hq : (2 : Int) ^ k ≤ 2147483648 := by
    have : (2 : Nat) ^ k ≤ 2 ^ 31 := Nat.pow_le_pow_right (by decide) (by omega)
    have h3 : ((2 ^ k : Nat) : Int) ≤ ((2 ^ 31 : Nat) : Int) := Int.ofNat_le.2 this
    simpa using h3
  have b1 : a * 2 ^ k ≤ 1073741824 * 2147483648 :=
    Int.le_trans (Int.mul_le_mul_of_nonneg_right (Int.le_of_lt h2) (Int.le_of_lt hp)) (Int.mul_le_mul_of_nonneg_left hq (by decide))
  have b2 : -(1073741824 * 2147483648) ≤ a * 2 ^ k := by
    have : (-a) * 2 ^ k ≤ 1073741824 * 2147483648 :=
      Int.le_trans (Int.mul_le_mul_of_nonneg_right (by omega) (Int.le_of_lt hp)) (Int.mul_le_mul_of_nonneg_left hq (by decide))
    rw [Int.neg_mul] at this; omega
  have hw : wrap64 (a * 2 ^ k) = a * 2 ^ k := by
    generalize a * 2 ^ k = z at b1 b2 ⊢
    unfold wrap64; omega
  rw [hw, Int.mul_ediv_cancel _ (by omega)]

theorem div_back {a b : Int} (ha : fits a) (hb : ¬ b = 0) : val 1 (val 3 b (val 4 a b)) (val 5 a b) = a := by
  rw [val1, val3, val4, val5, if_neg hb, if_neg hb, wrap_mul', wrap_add]
  have : b * a.tdiv b + a.tmod b = a := Int.mul_tdiv_add_tmod a b
  rw [this]; unfold fits at ha; unfold wrap64; omega
theorem mod_near {a b : Int} (hb : ¬ b = 0) : (val 5 a b).natAbs < b.natAbs := by
  rw [val5, if_neg hb, Int.natAbs_tmod]
  exact Nat.mod_lt _ (by omega)
theorem mod_pos {a b : Int} (h : 0 ≤ a) : 0 ≤ val 5 a b := by
  rw [val5]; split
  · omega
  · exact Int.tmod_nonneg _ h
theorem mod_neg {a b : Int} (h : a ≤ 0) : val 5 a b ≤ 0 := by
  rw [val5]; split
  · omega
  · have h1 : 0 ≤ (-a).tmod b := Int.tmod_nonneg _ (by omega)
    rw [Int.neg_tmod] at h1; omega
end Go.Proofs.YthncbnalnfbpnaaGreatDoor
end

section
namespace Go.Proofs.YthncbnalnfbpnaaGreatDoor

/-- Is a number one of the operations? -/
def kn (o : Int) : Bool := decide (1 ≤ o ∧ o ≤ 25)
/-- How many numbers an operation has. -/
def nargs (o : Int) : Nat :=
  if o = 1 ∨ o = 5 ∨ (11 ≤ o ∧ o ≤ 16) ∨ (19 ≤ o ∧ o ≤ 21) ∨ o = 23 ∨ o = 24 then 1 else if o = 17 ∨ o = 18 then 2 else 0
def argsOf (o : Int) : Int := if kn o then nargs o else -1
/-- Is a number in its room? -/
def pl (a m : Int) : Bool := decide (0 ≤ a ∧ a < m)
def rA (o a : Int) : Bool :=
  if o = 1 then true else if o = 5 then decide (1 ≤ a ∧ a ≤ 12)
  else if (11 ≤ o ∧ o ≤ 14) ∨ o = 17 ∨ o = 18 ∨ o = 23 ∨ o = 24 then pl a 8
  else if o = 15 ∨ o = 16 then pl a 16 else if o = 19 ∨ o = 20 then pl a 200
  else if o = 21 then decide (1 ≤ a ∧ a ≤ 1000) else a == 0
def rB (o b : Int) : Bool := if o = 17 ∨ o = 18 then pl b 8 else b == 0
/-- Can an instruction be? -/
def right (i : Int × Int × Int) : Bool := kn i.1 && (rA i.1 i.2.1 && rB i.1 i.2.2)
theorem kn_iff {o : Int} : kn o = true ↔ 1 ≤ o ∧ o ≤ 25 := by unfold kn; simp
theorem pl_iff {a m : Int} : pl a m = true ↔ 0 ≤ a ∧ a < m := by unfold pl; simp
theorem right_kn {i : Int × Int × Int} (h : right i = true) : 1 ≤ i.1 ∧ i.1 ≤ 25 := by
  unfold right at h; simp only [Bool.and_eq_true] at h; exact kn_iff.1 h.1
theorem rA_small {o a : Int} (h : rA o a = true) (h1 : o ≠ 1) : 0 ≤ a ∧ a ≤ 1000 := by
  unfold rA at h
  rw [if_neg h1] at h
  split at h
  · have := of_decide_eq_true h; omega
  · split at h
    · have := pl_iff.1 h; omega
    · split at h
      · have := pl_iff.1 h; omega
      · split at h
        · have := pl_iff.1 h; omega
        · split at h
          · have := of_decide_eq_true h; omega
          · have := eq_of_beq h; omega
theorem rB_small {o b : Int} (h : rB o b = true) : 0 ≤ b ∧ b ≤ 7 := by
  unfold rB at h
  split at h
  · have := pl_iff.1 h; omega
  · have := eq_of_beq h; omega
theorem nargs_le (o : Int) : nargs o ≤ 2 := by unfold nargs; split; · omega
                                               · split <;> omega
theorem rA_zero {o a : Int} (hk : 1 ≤ o ∧ o ≤ 25) (h : rA o a = true) (hn : nargs o = 0) : a = 0 := by
  unfold nargs at hn
  split at hn
  · omega
  · rename_i h1
    split at hn
    · omega
    · rename_i h2
      unfold rA at h
      rw [if_neg (by omega), if_neg (by omega), if_neg (by omega), if_neg (by omega), if_neg (by omega), if_neg (by omega)] at h
      exact eq_of_beq h
theorem rB_zero {o b : Int} (h : rB o b = true) (hn : nargs o ≤ 1) : b = 0 := by
  unfold rB at h
  split at h
  · rename_i h1
    unfold nargs at hn
    rw [if_neg (by omega), if_pos h1] at hn; omega
  · exact eq_of_beq h
theorem right_parts {i : Int × Int × Int} (h : right i = true) : kn i.1 = true ∧ rA i.1 i.2.1 = true ∧ rB i.1 i.2.2 = true := by
  unfold right at h; simp only [Bool.and_eq_true] at h; exact h
theorem right_none {i : Int × Int × Int} (h : right i = true) (hn : nargs i.1 = 0) : i.2.1 = 0 ∧ i.2.2 = 0 := by
  obtain ⟨h1, h2, h3⟩ := right_parts h
  exact ⟨rA_zero (kn_iff.1 h1) h2 hn, rB_zero h3 (by omega)⟩
theorem right_one {i : Int × Int × Int} (h : right i = true) (hn : nargs i.1 = 1) : i.2.2 = 0 := by
  obtain ⟨h1, h2, h3⟩ := right_parts h
  exact rB_zero h3 (by omega)

end Go.Proofs.YthncbnalnfbpnaaGreatDoor
end

section
namespace Go.Proofs.YthncbnalnfbpnaaGreatDoor

/-- The instruction at a place. -/
def at_ (l : List (Int × Int × Int)) (p : Nat) : Int × Int × Int := l.getD p (0, 0, 0)
def opn (i : Int × Int × Int) : Bool := i.1 == 21 || i.1 == 23
def cls (i : Int × Int × Int) : Bool := i.1 == 22 || i.1 == 24
/-- Does the second one close the region of the first one? -/
def clo (a b : Int × Int × Int) : Bool := (a.1 == 21 && b.1 == 22) || (a.1 == 23 && (b.1 == 24 && a.2.1 == b.2.1))
theorem opn_cls {i : Int × Int × Int} (h : opn i = true) : cls i = false := by
  unfold opn at h; unfold cls; simp at h ⊢; omega
theorem cls_opn {i : Int × Int × Int} (h : cls i = true) : opn i = false := by
  unfold cls at h; unfold opn; simp at h ⊢; omega

/-- The open regions ahead of a place, the last one first. -/
def sk (l : List (Int × Int × Int)) : Nat → List Nat
  | 0 => []
  | k + 1 => if opn (at_ l k) = true then k :: sk l k else if cls (at_ l k) = true then (sk l k).tail else sk l k
/-- Does an instruction, if it closes, close the last region? -/
def gd (l : List (Int × Int × Int)) (k : Nat) : Bool := !cls (at_ l k) || (match sk l k with | [] => false | t :: _ => clo (at_ l t) (at_ l k))
def Good (l : List (Int × Int × Int)) (k : Nat) : Prop := ∀ j, j < k → gd l j = true
/-- The home. -/
def hm (l : List (Int × Int × Int)) (k : Nat) : Int := match sk l k with | [] => -1 | t :: _ => (t : Int)
/-- The match of a place, as told by the first k instructions. -/
def mt (l : List (Int × Int × Int)) : Nat → Nat → Int
  | 0, _ => -1
  | k + 1, p => if cls (at_ l k) = true then (match sk l k with | [] => mt l k p | t :: _ => if p = k then (t : Int) else if p = t then (k : Int) else mt l k p) else mt l k p

theorem sk_opn' {l : List (Int × Int × Int)} {k : Nat} (h : opn (at_ l k) = true) : sk l (k + 1) = k :: sk l k := by simp [sk, h]
theorem sk_cls {l : List (Int × Int × Int)} {k : Nat} (h : cls (at_ l k) = true) : sk l (k + 1) = (sk l k).tail := by simp [sk, h, cls_opn h]
theorem sk_oth {l : List (Int × Int × Int)} {k : Nat} (h : opn (at_ l k) = false) (h2 : cls (at_ l k) = false) : sk l (k + 1) = sk l k := by simp [sk, h, h2]
theorem mt_oth {l : List (Int × Int × Int)} {k p : Nat} (h2 : cls (at_ l k) = false) : mt l (k + 1) p = mt l k p := by simp [mt, h2]
theorem mt_nil {l : List (Int × Int × Int)} {k p : Nat} (h2 : cls (at_ l k) = true) (hs : sk l k = []) : mt l (k + 1) p = mt l k p := by simp [mt, h2, hs]
theorem mt_cons {l : List (Int × Int × Int)} {k p t : Nat} {s : List Nat} (h2 : cls (at_ l k) = true) (hs : sk l k = t :: s) : mt l (k + 1) p = if p = k then (t : Int) else if p = t then (k : Int) else mt l k p := by simp [mt, h2, hs]
theorem hm_nil {l : List (Int × Int × Int)} {k : Nat} (hs : sk l k = []) : hm l k = -1 := by simp [hm, hs]
theorem hm_cons {l : List (Int × Int × Int)} {k t : Nat} {s : List Nat} (hs : sk l k = t :: s) : hm l k = t := by simp [hm, hs]

theorem sk_lt {l : List (Int × Int × Int)} : ∀ {k t : Nat}, t ∈ sk l k → t < k
  | 0, _, h => by simp [sk] at h
  | k + 1, t, h => by
    cases ho : opn (at_ l k)
    · cases hc : cls (at_ l k)
      · rw [sk_oth ho hc] at h; have := sk_lt h; omega
      · rw [sk_cls hc] at h; have := sk_lt (List.mem_of_mem_tail h); omega
    · rw [sk_opn' ho] at h
      rcases List.mem_cons.1 h with h | h
      · omega
      · have := sk_lt h; omega
theorem sk_open {l : List (Int × Int × Int)} : ∀ {k t : Nat}, t ∈ sk l k → opn (at_ l t) = true
  | 0, _, h => by simp [sk] at h
  | k + 1, t, h => by
    cases ho : opn (at_ l k)
    · cases hc : cls (at_ l k)
      · rw [sk_oth ho hc] at h; exact sk_open h
      · rw [sk_cls hc] at h; exact sk_open (List.mem_of_mem_tail h)
    · rw [sk_opn' ho] at h
      rcases List.mem_cons.1 h with h | h
      · rw [h]; exact ho
      · exact sk_open h
/-- Behind the head of a part of the stack lies the stack at that head. -/
theorem sk_chain {l : List (Int × Int × Int)} : ∀ {k t : Nat} {u s : List Nat}, sk l k = u ++ t :: s → s = sk l t
  | 0, _, u, _, h => by cases u <;> simp [sk] at h
  | k + 1, t, u, s, h => by
    cases ho : opn (at_ l k)
    · cases hc : cls (at_ l k)
      · rw [sk_oth ho hc] at h; exact sk_chain h
      · rw [sk_cls hc] at h
        cases hk : sk l k with
        | nil => rw [hk] at h; cases u <;> simp at h
        | cons x r =>
          rw [hk] at h
          exact sk_chain (u := x :: u) (by rw [hk]; simpa using h)
    · rw [sk_opn' ho] at h
      cases u with
      | nil => simp at h; rw [← h.1]; exact h.2.symm
      | cons x u => simp at h; exact sk_chain h.2
theorem sk_head {l : List (Int × Int × Int)} {k t : Nat} {s : List Nat} (h : sk l k = t :: s) : s = sk l t := sk_chain (u := []) h
theorem sk_mem {l : List (Int × Int × Int)} {k t : Nat} (h : t ∈ sk l k) : ∃ u, sk l k = u ++ t :: sk l t := by
  obtain ⟨u, s, e⟩ := List.append_of_mem h
  exact ⟨u, by rw [e, sk_chain e]⟩
theorem sk_trans {l : List (Int × Int × Int)} {k t u : Nat} (h : t ∈ sk l k) (hu : u ∈ sk l t) : u ∈ sk l k := by
  obtain ⟨v, e⟩ := sk_mem h
  rw [e]; simp [hu]
/-- The stack is known by the home. -/
theorem sk_hm {l : List (Int × Int × Int)} {i j : Nat} (h : hm l i = hm l j) : sk l i = sk l j := by
  cases hi : sk l i with
  | nil =>
    cases hj : sk l j with
    | nil => rfl
    | cons t s => rw [hm_nil hi, hm_cons hj] at h; omega
  | cons t s =>
    cases hj : sk l j with
    | nil => rw [hm_cons hi, hm_nil hj] at h; omega
    | cons u r =>
      rw [hm_cons hi, hm_cons hj] at h
      obtain rfl : t = u := by omega
      rw [sk_head hi, sk_head hj]
theorem hm_lt (l : List (Int × Int × Int)) (i : Nat) : -1 ≤ hm l i ∧ hm l i < i := by
  cases hi : sk l i with
  | nil => rw [hm_nil hi]; omega
  | cons t s =>
    have := sk_lt (l := l) (k := i) (t := t) (by rw [hi]; simp)
    rw [hm_cons hi]; omega
/-- The last one of a stack is the greatest. -/
theorem hm_max {l : List (Int × Int × Int)} {i t : Nat} (h : t ∈ sk l i) : (t : Int) ≤ hm l i := by
  cases hi : sk l i with
  | nil => rw [hi] at h; simp at h
  | cons u s =>
    rw [hm_cons hi]
    rw [hi] at h
    rcases List.mem_cons.1 h with h | h
    · omega
    · rw [sk_head hi] at h
      have := sk_lt h; omega

theorem mt_ge {l : List (Int × Int × Int)} : ∀ {k p : Nat}, k ≤ p → mt l k p = -1
  | 0, _, _ => rfl
  | k + 1, p, h => by
    cases hc : cls (at_ l k)
    · rw [mt_oth hc]; exact mt_ge (by omega)
    · cases hs : sk l k with
      | nil => rw [mt_nil hc hs]; exact mt_ge (by omega)
      | cons t s =>
        have := sk_lt (l := l) (k := k) (t := t) (by rw [hs]; simp)
        rw [mt_cons hc hs, if_neg (by omega), if_neg (by omega)]; exact mt_ge (by omega)
/-- An open region is not matched; one that is not open any more is matched behind. -/
theorem mt_mem {l : List (Int × Int × Int)} : ∀ (k : Nat),
    (∀ p, opn (at_ l p) = true → mt l k p = -1 ∨ ((p : Int) < mt l k p ∧ mt l k p < k)) ∧
    ∀ i, i ≤ k → ∀ t, t ∈ sk l i ↔ opn (at_ l t) = true ∧ t < i ∧ (mt l k t = -1 ∨ (i : Int) ≤ mt l k t)
  | 0 => ⟨fun _ _ => Or.inl rfl, fun i hi t => by
      obtain rfl : i = 0 := by omega
      simp [sk]⟩
  | k + 1 => by
    obtain ⟨ihA, ihB⟩ := mt_mem (l := l) k
    have top : ∀ t, t ∈ sk l k → mt l k t = -1 := by
      intro t ht
      have h1 := (ihB k (Nat.le_refl _) t).1 ht
      have h2 := ihA t h1.1
      omega
    cases hc : cls (at_ l k)
    · have hm' : ∀ p, mt l (k + 1) p = mt l k p := fun p => mt_oth hc
      refine ⟨fun p hp => ?_, fun i hi t => ?_⟩
      · rw [hm']; have := ihA p hp; omega
      rw [hm']
      by_cases hik : i ≤ k
      · exact ihB i hik t
      obtain rfl : i = k + 1 := by omega
      cases ho : opn (at_ l k)
      · rw [sk_oth ho hc, ihB k (Nat.le_refl _) t]
        constructor
        · rintro ⟨h1, h2, h3⟩; have := ihA t h1; refine ⟨h1, by omega, ?_⟩; omega
        · rintro ⟨h1, h2, h3⟩
          have := ihA t h1
          have : t ≠ k := by intro e; rw [e, ho] at h1; cases h1
          refine ⟨h1, by omega, ?_⟩; omega
      · rw [sk_opn' ho, List.mem_cons, ihB k (Nat.le_refl _) t]
        have hk := mt_ge (l := l) (Nat.le_refl k)
        constructor
        · rintro (rfl | ⟨h1, h2, h3⟩)
          · exact ⟨ho, by omega, Or.inl hk⟩
          · have := ihA t h1; refine ⟨h1, by omega, ?_⟩; omega
        · rintro ⟨h1, h2, h3⟩
          have := ihA t h1
          by_cases e : t = k
          · exact Or.inl e
          · refine Or.inr ⟨h1, by omega, ?_⟩; omega
    · have hok := cls_opn hc
      cases hs : sk l k with
      | nil =>
        have hm' : ∀ p, mt l (k + 1) p = mt l k p := fun p => mt_nil hc hs
        refine ⟨fun p hp => ?_, fun i hi t => ?_⟩
        · rw [hm']; have := ihA p hp; omega
        rw [hm']
        by_cases hik : i ≤ k
        · exact ihB i hik t
        obtain rfl : i = k + 1 := by omega
        rw [sk_cls hc, hs]
        constructor
        · intro h; simp at h
        · rintro ⟨h1, h2, h3⟩
          have h4 := ihA t h1
          have : t ≠ k := by intro e; rw [e, hok] at h1; cases h1
          have := (ihB k (Nat.le_refl _) t).2 ⟨h1, by omega, by omega⟩
          rw [hs] at this; simp at this
      | cons u s =>
        have hu : u ∈ sk l k := by rw [hs]; simp
        have hul := sk_lt hu
        have hut := top u hu
        have hm' : ∀ p, mt l (k + 1) p = if p = k then (u : Int) else if p = u then (k : Int) else mt l k p := fun p => mt_cons hc hs
        have hm2 : ∀ p, opn (at_ l p) = true → mt l (k + 1) p = if p = u then (k : Int) else mt l k p := by
          intro p hp
          rw [hm', if_neg]
          intro e; rw [e, hok] at hp; cases hp
        refine ⟨fun p hp => ?_, fun i hi t => ?_⟩
        · rw [hm2 p hp]
          have := ihA p hp
          by_cases e : p = u
          · rw [if_pos e]; omega
          · rw [if_neg e]; omega
        by_cases hik : i ≤ k
        · rw [ihB i hik t]
          constructor
          · rintro ⟨h1, h2, h3⟩
            refine ⟨h1, h2, ?_⟩
            rw [hm2 t h1]
            by_cases e : t = u
            · rw [if_pos e]; omega
            · rw [if_neg e]; exact h3
          · rintro ⟨h1, h2, h3⟩
            refine ⟨h1, h2, ?_⟩
            rw [hm2 t h1] at h3
            by_cases e : t = u
            · rw [e]; exact Or.inl hut
            · rw [if_neg e] at h3; exact h3
        obtain rfl : i = k + 1 := by omega
        rw [sk_cls hc, hs, List.tail_cons]
        have hin := ihB k (Nat.le_refl _) t
        rw [hs, List.mem_cons] at hin
        have hsu := sk_head hs
        constructor
        · intro h
          have h4 := hin.1 (Or.inr h)
          have h5 := ihA t h4.1
          have : t ≠ u := by
            intro e; rw [hsu, e] at h; have := sk_lt h; omega
          refine ⟨h4.1, by omega, ?_⟩
          rw [hm2 t h4.1, if_neg this]; omega
        · rintro ⟨h1, h2, h3⟩
          have h5 := ihA t h1
          have h6 : t ≠ k := by intro e; rw [e, hok] at h1; cases h1
          rw [hm2 t h1] at h3
          have h7 : t ≠ u := by intro e; rw [if_pos e] at h3; omega
          rw [if_neg h7] at h3
          exact (hin.2 ⟨h1, by omega, by omega⟩).resolve_left h7
theorem mt_top {l : List (Int × Int × Int)} {k t : Nat} (h : t ∈ sk l k) : mt l k t = -1 := by
  have h1 := ((mt_mem (l := l) k).2 k (Nat.le_refl _) t).1 h
  have h2 := (mt_mem (l := l) k).1 t h1.1
  omega
/-- What closes is matched with what it closes. -/
theorem mt_cls {l : List (Int × Int × Int)} : ∀ {k p : Nat}, Good l k → p < k → cls (at_ l p) = true →
    ∃ t : Nat, sk l p = t :: sk l t ∧ t < p ∧ mt l k p = t ∧ mt l k t = p ∧ clo (at_ l t) (at_ l p) = true
  | 0, _, _, h, _ => by omega
  | k + 1, p, hg, h, hp => by
    by_cases e : p = k
    · subst e
      have h1 := hg p (by omega)
      unfold gd at h1
      cases hs : sk l p with
      | nil => rw [hs, hp] at h1; simp at h1
      | cons t s =>
        have ht : t ∈ sk l p := by rw [hs]; simp
        have hl := sk_lt ht
        rw [hs, hp] at h1
        refine ⟨t, by rw [sk_head hs], hl, ?_, ?_, by simpa using h1⟩
        · rw [mt_cons hp hs, if_pos rfl]
        · rw [mt_cons hp hs, if_neg (by omega), if_pos rfl]
    · obtain ⟨t, h1, h2, h3, h4, h5⟩ := mt_cls (l := l) (k := k) (p := p) (fun j hj => hg j (by omega)) (by omega) hp
      refine ⟨t, h1, h2, ?_, ?_, h5⟩
      · cases hc : cls (at_ l k)
        · rw [mt_oth hc]; exact h3
        · cases hs : sk l k with
          | nil => rw [mt_nil hc hs]; exact h3
          | cons u s =>
            rw [mt_cons hc hs, if_neg e, if_neg]
            · exact h3
            · intro e2
              have := sk_open (l := l) (k := k) (t := u) (by rw [hs]; simp)
              rw [← e2, cls_opn hp] at this; cases this
      · cases hc : cls (at_ l k)
        · rw [mt_oth hc]; exact h4
        · cases hs : sk l k with
          | nil => rw [mt_nil hc hs]; exact h4
          | cons u s =>
            rw [mt_cons hc hs, if_neg (by omega), if_neg]
            · exact h4
            · intro e2
              have := mt_top (l := l) (k := k) (t := u) (by rw [hs]; simp)
              rw [← e2] at this; omega
theorem mt_opn {l : List (Int × Int × Int)} : ∀ {k p : Nat}, opn (at_ l p) = true → mt l k p ≠ -1 →
    ∃ c : Nat, mt l k p = c ∧ p < c ∧ c < k ∧ cls (at_ l c) = true ∧ sk l c = p :: sk l p ∧ mt l k c = p
  | 0, _, _, h => absurd rfl h
  | k + 1, p, hp, h => by
    cases hc : cls (at_ l k)
    · rw [mt_oth hc] at h
      obtain ⟨c, h1, h2, h3, h4, h5, h6⟩ := mt_opn hp h
      exact ⟨c, by rw [mt_oth hc]; exact h1, h2, by omega, h4, h5, by rw [mt_oth hc]; exact h6⟩
    · cases hs : sk l k with
      | nil =>
        rw [mt_nil hc hs] at h
        obtain ⟨c, h1, h2, h3, h4, h5, h6⟩ := mt_opn hp h
        exact ⟨c, by rw [mt_nil hc hs]; exact h1, h2, by omega, h4, h5, by rw [mt_nil hc hs]; exact h6⟩
      | cons u s =>
        have hu : u ∈ sk l k := by rw [hs]; simp
        have hul := sk_lt hu
        have hpk : p ≠ k := by intro e; rw [e, cls_opn hc] at hp; cases hp
        rw [mt_cons hc hs, if_neg hpk] at h
        by_cases e : p = u
        · subst e
          refine ⟨k, by rw [mt_cons hc hs, if_neg hpk, if_pos rfl], hul, by omega, hc, by rw [hs, sk_head hs], by rw [mt_cons hc hs, if_pos rfl]⟩
        · rw [if_neg e] at h
          obtain ⟨c, h1, h2, h3, h4, h5, h6⟩ := mt_opn hp h
          refine ⟨c, by rw [mt_cons hc hs, if_neg hpk, if_neg e]; exact h1, h2, by omega, h4, h5, ?_⟩
          rw [mt_cons hc hs, if_neg (by omega), if_neg]
          · exact h6
          · intro e2
            have := sk_open hu
            rw [← e2, cls_opn h4] at this; cases this
theorem mt_else {l : List (Int × Int × Int)} : ∀ {k p : Nat}, opn (at_ l p) = false → cls (at_ l p) = false → mt l k p = -1
  | 0, _, _, _ => rfl
  | k + 1, p, h1, h2 => by
    cases hc : cls (at_ l k)
    · rw [mt_oth hc]; exact mt_else h1 h2
    · cases hs : sk l k with
      | nil => rw [mt_nil hc hs]; exact mt_else h1 h2
      | cons u s =>
        rw [mt_cons hc hs, if_neg, if_neg]
        · exact mt_else h1 h2
        · intro e
          have := sk_open (l := l) (k := k) (t := u) (by rw [hs]; simp)
          rw [← e, h1] at this; cases this
        · intro e; rw [e, hc] at h2; cases h2

/-- A row whose regions stand in one another. -/
def Sound (l : List (Int × Int × Int)) : Prop := Good l l.length ∧ sk l l.length = []
theorem at_len {l : List (Int × Int × Int)} {p : Nat} (h : l.length ≤ p) : at_ l p = (0, 0, 0) := by
  unfold at_; rw [List.getD_eq_getElem?_getD, List.getElem?_eq_none h]; rfl
theorem opn_len {l : List (Int × Int × Int)} {p : Nat} (h : opn (at_ l p) = true) : p < l.length := by
  by_cases e : p < l.length
  · exact e
  · rw [at_len (by omega)] at h; simp [opn] at h
theorem cls_len {l : List (Int × Int × Int)} {p : Nat} (h : cls (at_ l p) = true) : p < l.length := by
  by_cases e : p < l.length
  · exact e
  · rw [at_len (by omega)] at h; simp [cls] at h
theorem Sound.opn {l : List (Int × Int × Int)} (h : Sound l) {p : Nat} (hp : opn (at_ l p) = true) :
    ∃ c : Nat, mt l l.length p = c ∧ p < c ∧ c < l.length ∧ cls (at_ l c) = true ∧ sk l c = p :: sk l p ∧ mt l l.length c = p := by
  refine mt_opn hp ?_
  intro e
  have := ((mt_mem (l := l) l.length).2 l.length (Nat.le_refl _) p).2 ⟨hp, opn_len hp, Or.inl e⟩
  rw [h.2] at this; simp at this
theorem Sound.cls {l : List (Int × Int × Int)} (h : Sound l) {p : Nat} (hp : cls (at_ l p) = true) :
    ∃ t : Nat, sk l p = t :: sk l t ∧ t < p ∧ mt l l.length p = t ∧ mt l l.length t = p ∧ clo (at_ l t) (at_ l p) = true := mt_cls h.1 (cls_len hp) hp
theorem Sound.within {l : List (Int × Int × Int)} (h : Sound l) {k i : Nat} (hi : i ≤ l.length) : k ∈ sk l i ↔ k < i ∧ (i : Int) ≤ mt l l.length k := by
  rw [(mt_mem (l := l) l.length).2 i hi k]
  constructor
  · rintro ⟨h1, h2, h3⟩
    obtain ⟨c, h4, h5, _⟩ := h.opn h1
    refine ⟨h2, ?_⟩; omega
  · rintro ⟨h1, h2⟩
    refine ⟨?_, h1, Or.inr h2⟩
    cases ho : Go.Proofs.YthncbnalnfbpnaaGreatDoor.opn (at_ l k)
    · cases hc : Go.Proofs.YthncbnalnfbpnaaGreatDoor.cls (at_ l k)
      · rw [mt_else ho hc] at h2; omega
      · obtain ⟨t, _, h5, h6, _⟩ := h.cls hc
        omega
    · rfl
end Go.Proofs.YthncbnalnfbpnaaGreatDoor
end

section
namespace Go.Proofs.YthncbnalnfbpnaaGreatDoor

/-- Can a row be? -/
def can (l : List (Int × Int × Int)) : Bool := decide (1 ≤ l.length ∧ l.length ≤ 200) && l.all right
def sound (l : List (Int × Int × Int)) : Bool := (List.range l.length).all (gd l) && (sk l l.length).isEmpty
theorem sound_iff {l : List (Int × Int × Int)} : sound l = true ↔ Sound l := by
  unfold sound Sound Good
  simp
theorem can_len {l : List (Int × Int × Int)} (h : can l = true) : 1 ≤ l.length ∧ l.length ≤ 200 := by
  unfold can at h; simp at h; omega
theorem can_right {l : List (Int × Int × Int)} (h : can l = true) {p : Nat} (hp : p < l.length) : right (at_ l p) = true := by
  unfold can at h
  simp only [Bool.and_eq_true, List.all_eq_true] at h
  have e : at_ l p = l[p] := by unfold at_; rw [List.getD_eq_getElem?_getD, List.getElem?_eq_getElem hp]; rfl
  rw [e]; exact h.2 _ (List.getElem_mem hp)
theorem can_iff {l : List (Int × Int × Int)} : can l = true ↔ (1 ≤ l.length ∧ l.length ≤ 200) ∧ ∀ p, p < l.length → right (at_ l p) = true := by
  constructor
  · intro h; exact ⟨can_len h, fun p hp => can_right h hp⟩
  · rintro ⟨h1, h2⟩
    unfold can
    simp only [Bool.and_eq_true, List.all_eq_true, decide_eq_true_eq]
    refine ⟨h1, fun x hx => ?_⟩
    obtain ⟨p, hp, e⟩ := List.getElem_of_mem hx
    have := h2 p hp
    unfold at_ at this
    rw [List.getD_eq_getElem?_getD, List.getElem?_eq_getElem hp] at this
    rw [← e]; exact this
/-- Match's error. -/
def mE (l : List (Int × Int × Int)) : Int := if can l = true then (if sound l = true then 0 else 7) else 1
def mL (l : List (Int × Int × Int)) : List Int := (List.range l.length).map (mt l l.length)
def hL (l : List (Int × Int × Int)) : List Int := (List.range l.length).map (hm l)
/-- Is the last one an End, and no other one? -/
def ends (l : List (Int × Int × Int)) : Bool := (List.range l.length).all fun i => ((at_ l i).1 == 25) == (i + 1 == l.length)
/-- Where a jump leads. -/
def led (l : List (Int × Int × Int)) (p : Nat) : Nat := p + 1 + (at_ l p).2.1.toNat
def jmp (i : Int × Int × Int) : Bool := i.1 == 19 || i.1 == 20
def stay (l : List (Int × Int × Int)) (p : Nat) : Bool := !jmp (at_ l p) || (decide (led l p < l.length) && (hm l (led l p) == hm l p))
def jmps (l : List (Int × Int × Int)) : Bool := (List.range l.length).all (stay l)
/-- Whole's error. -/
def wE (l : List (Int × Int × Int)) : Int := if mE l = 0 then (if ends l = true then (if jmps l = true then 0 else 8) else 7) else mE l
/-- The blocks of the locks of a stack, as a number. -/
def hb (l : List (Int × Int × Int)) : List Nat → Nat
  | [] => 0
  | t :: s => if (at_ l t).1 = 23 then hb l s ||| 2 ^ (at_ l t).2.1.toNat else hb l s
def hdL (l : List (Int × Int × Int)) : List Int := (List.range l.length).map fun p => ((hb l (sk l p) : Nat) : Int)
/-- Does an Unlock stand ahead? -/
def unl (l : List (Int × Int × Int)) (p : Nat) : Bool := (List.range p).any fun k => (at_ l k).1 == 24
def inl (l : List (Int × Int × Int)) (s : List Nat) : Bool := s.any fun t => (at_ l t).1 == 21
def ovr (l : List (Int × Int × Int)) (s : List Nat) (a : Int) : Bool := s.any fun t => (at_ l t).1 == 23 && decide (a ≤ (at_ l t).2.1)
def lkd (l : List (Int × Int × Int)) (s : List Nat) (a : Int) : Bool := s.any fun t => (at_ l t).1 == 23 && (at_ l t).2.1 == a
/-- May an instruction not stand where it does? -/
def bd (l : List (Int × Int × Int)) (p : Nat) : Bool :=
  if (at_ l p).1 = 23 then unl l p || (ovr l (sk l p) (at_ l p).2.1 || inl l (sk l p))
  else if (at_ l p).1 = 17 ∨ (at_ l p).1 = 18 then !lkd l (sk l p) (at_ l p).2.1 else false
def bds (l : List (Int × Int × Int)) (k : Nat) : Bool := (List.range k).any (bd l)
/-- Locks' error. -/
def lE (l : List (Int × Int × Int)) : Int := if wE l = 0 then (if bds l l.length = true then 11 else 0) else wE l
/-- The blocks of the first k instructions' locks. -/
def lks (l : List (Int × Int × Int)) (k : Nat) : List Int := ((l.take k).filter fun i => i.1 == 23).map fun i => i.2.1

theorem mL_len (l : List (Int × Int × Int)) : (mL l).length = l.length := by simp [mL]
theorem hL_len (l : List (Int × Int × Int)) : (hL l).length = l.length := by simp [hL]
theorem hdL_len (l : List (Int × Int × Int)) : (hdL l).length = l.length := by simp [hdL]
theorem mL_at {l : List (Int × Int × Int)} {p : Nat} (h : p < l.length) : (mL l).getD p 0 = mt l l.length p := by simp [mL, h]
theorem hL_at {l : List (Int × Int × Int)} {p : Nat} (h : p < l.length) : (hL l).getD p 0 = hm l p := by simp [hL, h]
theorem hdL_at {l : List (Int × Int × Int)} {p : Nat} (h : p < l.length) : (hdL l).getD p 0 = (hb l (sk l p) : Nat) := by simp [hdL, h]

theorem mE_zero {l : List (Int × Int × Int)} (h : mE l = 0) : can l = true ∧ Sound l := by
  unfold mE at h
  cases hc : can l
  · rw [hc] at h; simp at h
  · cases hs : sound l
    · rw [hc, hs] at h; simp at h
    · exact ⟨rfl, sound_iff.1 hs⟩
theorem mE_of {l : List (Int × Int × Int)} (h : can l = true) (h2 : Sound l) : mE l = 0 := by
  unfold mE; rw [h, sound_iff.2 h2]; rfl
theorem wE_zero {l : List (Int × Int × Int)} (h : wE l = 0) : mE l = 0 ∧ ends l = true ∧ jmps l = true := by
  unfold wE at h
  by_cases hm : mE l = 0
  · rw [if_pos hm] at h
    cases he : ends l
    · rw [he] at h; simp at h
    · cases hj : jmps l
      · rw [he, hj] at h; simp at h
      · exact ⟨hm, rfl, rfl⟩
  · rw [if_neg hm] at h; exact absurd h hm
theorem wE_of {l : List (Int × Int × Int)} (h : mE l = 0) (h2 : ends l = true) (h3 : jmps l = true) : wE l = 0 := by
  unfold wE; rw [if_pos h, h2, h3]; rfl
theorem lE_zero {l : List (Int × Int × Int)} (h : lE l = 0) : wE l = 0 ∧ bds l l.length = false := by
  unfold lE at h
  by_cases hm : wE l = 0
  · rw [if_pos hm] at h
    cases hb : bds l l.length
    · exact ⟨hm, rfl⟩
    · rw [hb] at h; simp at h
  · rw [if_neg hm] at h; exact absurd h hm
theorem lE_of {l : List (Int × Int × Int)} (h : wE l = 0) (h2 : bds l l.length = false) : lE l = 0 := by
  unfold lE; rw [if_pos h, h2]; rfl
theorem lE_bad {l : List (Int × Int × Int)} (h : wE l = 0) (h2 : bds l l.length = true) : lE l = 11 := by
  unfold lE; rw [if_pos h, h2]; rfl
theorem ends_iff {l : List (Int × Int × Int)} : ends l = true ↔ ∀ i, i < l.length → ((at_ l i).1 = 25 ↔ i + 1 = l.length) := by
  unfold ends
  simp only [List.all_eq_true, List.mem_range]
  constructor
  · intro h i hi
    have h2 := h i hi
    by_cases e1 : (at_ l i).1 = 25
    · by_cases e2 : i + 1 = l.length
      · simp [e1, e2]
      · simp [e1, e2] at h2
    · by_cases e2 : i + 1 = l.length
      · simp [e1, e2] at h2
      · simp [e1, e2]
  · intro h i hi
    have h2 := h i hi
    by_cases e1 : (at_ l i).1 = 25
    · simp [e1, h2.1 e1]
    · have : ¬ i + 1 = l.length := fun e => e1 (h2.2 e)
      have h3 : ((at_ l i).1 == 25) = false := by simpa using e1
      have h4 : (i + 1 == l.length) = false := by simpa using this
      rw [h3, h4]; rfl
theorem jmps_iff {l : List (Int × Int × Int)} : jmps l = true ↔ ∀ p, p < l.length → jmp (at_ l p) = true → led l p < l.length ∧ hm l (led l p) = hm l p := by
  unfold jmps stay
  simp only [List.all_eq_true, List.mem_range]
  constructor
  · intro h p hp hj
    have := h p hp
    rw [hj] at this
    simpa using this
  · intro h p hp
    cases hj : jmp (at_ l p)
    · simp
    · have := h p hp hj
      simp [this]
theorem bds_iff {l : List (Int × Int × Int)} {k : Nat} : bds l k = true ↔ ∃ p, p < k ∧ bd l p = true := by
  unfold bds; simp
theorem bds_succ (l : List (Int × Int × Int)) (k : Nat) : bds l (k + 1) = (bds l k || bd l k) := by
  unfold bds; rw [List.range_succ, List.any_append]; simp
theorem unl_succ (l : List (Int × Int × Int)) (k : Nat) : unl l (k + 1) = (unl l k || ((at_ l k).1 == 24)) := by
  unfold unl; rw [List.range_succ, List.any_append]; simp
theorem unl_iff {l : List (Int × Int × Int)} {k : Nat} : unl l k = true ↔ ∃ p, p < k ∧ (at_ l p).1 = 24 := by
  unfold unl; simp
theorem take_at {l : List (Int × Int × Int)} {k : Nat} (h : k < l.length) : l.take (k + 1) = l.take k ++ [at_ l k] := by
  rw [List.take_succ_eq_append_getElem h]
  congr 2
  unfold at_; rw [List.getD_eq_getElem?_getD, List.getElem?_eq_getElem h]; rfl
theorem lks_succ {l : List (Int × Int × Int)} {k : Nat} (h : k < l.length) : lks l (k + 1) = if (at_ l k).1 = 23 then lks l k ++ [(at_ l k).2.1] else lks l k := by
  unfold lks
  rw [take_at h, List.filter_append, List.map_append]
  by_cases e : (at_ l k).1 = 23
  · simp [e]
  · simp [e]
theorem lks_len (l : List (Int × Int × Int)) (k : Nat) : (lks l k).length ≤ k := by
  unfold lks
  rw [List.length_map]
  have h1 := List.length_filter_le (fun i : Int × Int × Int => i.1 == 23) (l.take k)
  have h2 := List.length_take_le k l
  omega

theorem right_lock {i : Int × Int × Int} (h : right i = true) (hi : i.1 = 23 ∨ i.1 = 24 ∨ i.1 = 17 ∨ i.1 = 18) : 0 ≤ i.2.1 ∧ i.2.1 < 8 := by
  have h2 := (right_parts h).2.1
  unfold rA at h2
  rw [if_neg (by omega), if_neg (by omega), if_pos (by omega)] at h2
  exact pl_iff.1 h2
theorem right_jump {i : Int × Int × Int} (h : right i = true) (hi : jmp i = true) : 0 ≤ i.2.1 ∧ i.2.1 < 200 := by
  have h2 := (right_parts h).2.1
  unfold jmp at hi
  simp at hi
  unfold rA at h2
  rw [if_neg (by omega), if_neg (by omega), if_neg (by omega), if_neg (by omega), if_pos (by omega)] at h2
  exact pl_iff.1 h2

/-- All locks' blocks of a row are in their room. -/
def Blk8 (l : List (Int × Int × Int)) : Prop := ∀ t, (at_ l t).1 = 23 → 0 ≤ (at_ l t).2.1 ∧ (at_ l t).2.1 < 8
theorem can_blk {l : List (Int × Int × Int)} (h : can l = true) : Blk8 l := by
  intro t ht
  by_cases e : t < l.length
  · exact right_lock (can_right h e) (Or.inl ht)
  · rw [at_len (by omega)] at ht; simp at ht
theorem hb_test (l : List (Int × Int × Int)) (b : Nat) : ∀ s : List Nat, (hb l s).testBit b = s.any fun t => (at_ l t).1 == 23 && (at_ l t).2.1.toNat == b
  | [] => by simp [hb]
  | t :: s => by
    rw [hb, List.any_cons, ← hb_test l b s]
    by_cases h : (at_ l t).1 = 23
    · rw [if_pos h, Nat.testBit_or, Nat.testBit_two_pow, h]
      simp [Bool.or_comm]
      rfl
    · rw [if_neg h]
      simp [h]
theorem hb_lt {l : List (Int × Int × Int)} (h : Blk8 l) : ∀ s : List Nat, hb l s < 256
  | [] => by simp [hb]
  | t :: s => by
    have := hb_lt h s
    rw [hb]
    by_cases e : (at_ l t).1 = 23
    · rw [if_pos e]
      have h2 := h t e
      exact Nat.or_lt_two_pow (n := 8) this (Nat.pow_lt_pow_right (by decide) (by omega))
    · rw [if_neg e]; exact this
theorem hb_and {l : List (Int × Int × Int)} (h : Blk8 l) (s : List Nat) {a : Int} (ha : 0 ≤ a) : (hb l s &&& 2 ^ a.toNat == 0) = !lkd l s a := by
  have e : lkd l s a = (hb l s).testBit a.toNat := by
    rw [hb_test]
    unfold lkd
    congr 1; funext t
    by_cases e : (at_ l t).1 = 23
    · have := h t e
      have h2 : ((at_ l t).1 == 23) = true := by simpa using e
      rw [h2, Bool.true_and, Bool.true_and, Bool.eq_iff_iff, beq_iff_eq, beq_iff_eq]; omega
    · have h2 : ((at_ l t).1 == 23) = false := by simpa using e
      rw [h2]; rfl
  rw [e]
  cases ht : (hb l s).testBit a.toNat
  · have : hb l s &&& 2 ^ a.toNat = 0 := by
      apply Nat.eq_of_testBit_eq
      intro i
      rw [Nat.testBit_and, Nat.testBit_two_pow]
      by_cases hi : a.toNat = i
      · rw [← hi, ht]; simp
      · simp [hi]
    rw [this]; rfl
  · have : hb l s &&& 2 ^ a.toNat ≠ 0 := by
      intro e
      have h2 : (hb l s &&& 2 ^ a.toNat).testBit a.toNat = true := by
        rw [Nat.testBit_and, Nat.testBit_two_pow, ht]; simp
      rw [e] at h2; simp at h2
    simpa using this
theorem hb_shr {l : List (Int × Int × Int)} (h : Blk8 l) (s : List Nat) {a : Int} (ha : 0 ≤ a) : (hb l s / 2 ^ a.toNat != 0) = ovr l s a := by
  have hp : 0 < 2 ^ a.toNat := Nat.pow_pos (by decide)
  cases ho : ovr l s a
  · have : hb l s < 2 ^ a.toNat := by
      apply Nat.lt_pow_two_of_testBit
      intro i hi
      rw [hb_test, List.any_eq_false]
      intro t ht hc
      simp only [Bool.and_eq_true, beq_iff_eq] at hc
      have h2 := h t hc.1
      unfold ovr at ho
      rw [List.any_eq_false] at ho
      apply ho t ht
      simp only [Bool.and_eq_true, beq_iff_eq, decide_eq_true_eq]
      exact ⟨hc.1, by omega⟩
    rw [Nat.div_eq_of_lt this]; rfl
  · unfold ovr at ho
    rw [List.any_eq_true] at ho
    obtain ⟨t, ht, hc⟩ := ho
    simp only [Bool.and_eq_true, beq_iff_eq, decide_eq_true_eq] at hc
    have h2 := h t hc.1
    have h3 : (hb l s).testBit (at_ l t).2.1.toNat = true := by
      rw [hb_test, List.any_eq_true]
      exact ⟨t, ht, by simp [hc.1]⟩
    have h4 := Nat.ge_two_pow_of_testBit h3
    have h5 : 2 ^ a.toNat ≤ 2 ^ (at_ l t).2.1.toNat := Nat.pow_le_pow_right (by decide) (by omega)
    have : hb l s / 2 ^ a.toNat ≠ 0 := by
      intro e
      rw [Nat.div_eq_zero_iff] at e
      omega
    simpa using this
end Go.Proofs.YthncbnalnfbpnaaGreatDoor
end

section
namespace Go.Proofs.YthncbnalnfbpnaaGreatDoor

theorem Sound.nest {L : List (Int × Int × Int)} (h : Sound L) {i k : Nat} (hi : Go.Proofs.YthncbnalnfbpnaaGreatDoor.opn (at_ L i) = true) (hk : k < i) : ¬ ((i : Int) < mt L L.length k ∧ mt L L.length k < mt L L.length i) := by
  rintro ⟨h1, h2⟩
  obtain ⟨c, e1, e2, e3, _⟩ := h.opn hi
  have hin := opn_len hi
  have hki : k ∈ sk L i := (h.within (by omega)).2 ⟨hk, by omega⟩
  obtain ⟨d, f1, f2, f3, _⟩ := h.opn (sk_open hki)
  have hid : i ∈ sk L (d + 1) := (h.within (by omega)).2 ⟨by omega, by omega⟩
  have := (h.within (i := d + 1) (by omega)).1 (sk_trans hid hki)
  omega
theorem Sound.jump {L : List (Int × Int × Int)} (h : Sound L) {i to k : Nat} (hi : i ≤ L.length) (ht : to ≤ L.length) (he : hm L to = hm L i) :
    (decide (k < i) && decide ((i : Int) ≤ mt L L.length k)) = (decide (k < to) && decide ((to : Int) ≤ mt L L.length k)) := by
  rw [Bool.eq_iff_iff, Bool.and_eq_true, Bool.and_eq_true, decide_eq_true_iff, decide_eq_true_iff, decide_eq_true_iff, decide_eq_true_iff, ← h.within hi, ← h.within ht, sk_hm he]
theorem Sound.home {L : List (Int × Int × Int)} (h : Sound L) {i t : Nat} (hi : i ≤ L.length) (he : hm L i = t) : (i : Int) ≤ mt L L.length t := by
  cases hs : sk L i with
  | nil => rw [hm_nil hs] at he; omega
  | cons u s =>
    rw [hm_cons hs] at he
    obtain rfl : u = t := by omega
    exact ((h.within hi).1 (by rw [hs]; simp)).2
theorem Sound.last {L : List (Int × Int × Int)} (h : Sound L) {i k : Nat} (hi : i ≤ L.length) (hk : k < i) (he : (i : Int) ≤ mt L L.length k) : (k : Int) ≤ hm L i :=
  hm_max ((h.within hi).2 ⟨hk, he⟩)

/-- With no Unlock ahead all locks ahead are open. -/
theorem locks_open {L : List (Int × Int × Int)} : ∀ {k : Nat}, Good L k → unl L k = false → ∀ j, j < k → (at_ L j).1 = 23 → j ∈ sk L k
  | 0, _, _, j, hj, _ => by omega
  | k + 1, hg, hu, j, hj, h23 => by
    rw [unl_succ, Bool.or_eq_false_iff] at hu
    have ih := locks_open (L := L) (k := k) (fun i hi => hg i (by omega)) hu.1
    have h24 : (at_ L k).1 ≠ 24 := by simpa using hu.2
    cases ho : opn (at_ L k)
    · have hjk : j ≠ k := by intro e; rw [e] at h23; unfold opn at ho; rw [h23] at ho; simp at ho
      have hm := ih j (by omega) h23
      cases hc : cls (at_ L k)
      · rw [sk_oth ho hc]; exact hm
      · have hgk := hg k (by omega)
        unfold gd at hgk
        rw [sk_cls hc]
        cases hs : sk L k with
        | nil => rw [hs] at hm; simp at hm
        | cons t s =>
          rw [hc, hs] at hgk
          rw [hs] at hm
          rcases List.mem_cons.1 hm with e | e
          · exfalso
            subst e
            simp only [clo, cls, h23] at hgk hc
            simp at hgk hc
            omega
          · exact e
    · rw [sk_opn' ho]
      by_cases e : j = k
      · rw [e]; simp
      · exact List.mem_cons_of_mem _ (ih j (by omega) h23)
theorem mem_lks {L : List (Int × Int × Int)} {b : Int} : ∀ {k : Nat}, k ≤ L.length → (b ∈ lks L k ↔ ∃ j, j < k ∧ (at_ L j).1 = 23 ∧ (at_ L j).2.1 = b)
  | 0, _ => by simp [lks]
  | k + 1, h => by
    have ih := mem_lks (L := L) (b := b) (k := k) (by omega)
    rw [lks_succ (by omega)]
    by_cases e : (at_ L k).1 = 23
    · rw [if_pos e, List.mem_append, ih]
      constructor
      · rintro (⟨j, h1, h2, h3⟩ | h1)
        · exact ⟨j, by omega, h2, h3⟩
        · simp at h1; exact ⟨k, by omega, e, h1.symm⟩
      · rintro ⟨j, h1, h2, h3⟩
        by_cases ej : j = k
        · subst ej; exact Or.inr (by simp [h3])
        · exact Or.inl ⟨j, by omega, h2, h3⟩
    · rw [if_neg e, ih]
      constructor
      · rintro ⟨j, h1, h2, h3⟩; exact ⟨j, by omega, h2, h3⟩
      · rintro ⟨j, h1, h2, h3⟩
        have : j ≠ k := by intro ej; rw [ej] at h2; exact e h2
        exact ⟨j, by omega, h2, h3⟩
theorem lks_rise {L : List (Int × Int × Int)} (hg : Good L L.length) (hb : bds L L.length = false) : ∀ {k : Nat}, k ≤ L.length → (lks L k).Pairwise (· < ·)
  | 0, _ => by simp [lks]
  | k + 1, h => by
    have ih := lks_rise hg hb (k := k) (by omega)
    rw [lks_succ (by omega)]
    by_cases e : (at_ L k).1 = 23
    · rw [if_pos e, List.pairwise_append]
      refine ⟨ih, by simp, ?_⟩
      intro x hx y hy
      simp at hy
      subst hy
      have hbd : bd L k = false := by
        cases hv : bd L k
        · rfl
        · have := bds_iff.2 ⟨k, h, hv⟩
          rw [this] at hb; cases hb
      rw [show bd L k = (unl L k || (ovr L (sk L k) (at_ L k).2.1 || inl L (sk L k))) from by unfold bd; rw [if_pos e], Bool.or_eq_false_iff, Bool.or_eq_false_iff] at hbd
      obtain ⟨j, h1, h2, h3⟩ := (mem_lks (by omega)).1 hx
      have hj := locks_open (fun i hi => hg i (by omega)) hbd.1 j h1 h2
      have ho := hbd.2.1
      unfold ovr at ho
      rw [List.any_eq_false] at ho
      have := ho j hj
      simp [h2] at this
      omega
    · rw [if_neg e]; exact ih
/-- The sum of the powers of 2 of the first k numbers. -/
def smB (B : List Int) : Nat → Nat
  | 0 => 0
  | k + 1 => smB B k + 2 ^ (B.getD k 0).toNat
theorem smB_lt {B : List Int} (hp : B.Pairwise (· < ·)) (h0 : ∀ b ∈ B, 0 ≤ b) : ∀ {k : Nat}, k ≤ B.length → ∀ x : Nat, (∀ i, i < k → B.getD i 0 < x) → smB B k < 2 ^ x
  | 0, _, x, _ => Nat.pow_pos (by decide)
  | k + 1, hk, x, hx => by
    have e : ∀ i, i < B.length → B.getD i 0 ∈ B := by
      intro i hi
      rw [List.getD_eq_getElem?_getD, List.getElem?_eq_getElem hi]; exact List.getElem_mem hi
    have hb0 := h0 _ (e k (by omega))
    have hr : ∀ i, i < k → B.getD i 0 < B.getD k 0 := by
      intro i hi
      have := List.pairwise_iff_getElem.1 hp i k (by omega) (by omega) hi
      rw [List.getD_eq_getElem?_getD, List.getElem?_eq_getElem (by omega), List.getD_eq_getElem?_getD, List.getElem?_eq_getElem (by omega)]
      exact this
    have ih := smB_lt hp h0 (k := k) (by omega) (B.getD k 0).toNat (fun i hi => by have := hr i hi; omega)
    have hxk := hx k (by omega)
    have h2 : 2 ^ ((B.getD k 0).toNat + 1) ≤ 2 ^ x := Nat.pow_le_pow_right (by decide) (by omega)
    rw [Nat.pow_succ] at h2
    rw [smB]; omega
theorem smB_test {B : List Int} (hp : B.Pairwise (· < ·)) (h0 : ∀ b ∈ B, 0 ≤ b) (x : Nat) : ∀ {k : Nat}, k ≤ B.length → ((smB B k).testBit x = true ↔ ∃ i, i < k ∧ B.getD i 0 = x)
  | 0, _ => by simp [smB]
  | k + 1, hk => by
    have e : ∀ i, i < B.length → B.getD i 0 ∈ B := by
      intro i hi
      rw [List.getD_eq_getElem?_getD, List.getElem?_eq_getElem hi]; exact List.getElem_mem hi
    have hb0 := h0 _ (e k (by omega))
    have hr : ∀ i, i < k → B.getD i 0 < B.getD k 0 := by
      intro i hi
      have := List.pairwise_iff_getElem.1 hp i k (by omega) (by omega) hi
      rw [List.getD_eq_getElem?_getD, List.getElem?_eq_getElem (by omega), List.getD_eq_getElem?_getD, List.getElem?_eq_getElem (by omega)]
      exact this
    have hlt := smB_lt hp h0 (k := k) (by omega) (B.getD k 0).toNat (fun i hi => by have := hr i hi; omega)
    have hor := Nat.two_pow_add_eq_or_of_lt hlt 1
    rw [Nat.mul_one] at hor
    rw [smB, Nat.add_comm, hor, Nat.testBit_or, Nat.testBit_two_pow, Bool.or_eq_true, smB_test hp h0 x (k := k) (by omega), decide_eq_true_iff]
    constructor
    · rintro (h | ⟨i, h1, h2⟩)
      · exact ⟨k, by omega, by omega⟩
      · exact ⟨i, by omega, h2⟩
    · rintro ⟨i, h1, h2⟩
      by_cases ei : i = k
      · subst ei; exact Or.inl (by omega)
      · exact Or.inr ⟨i, by omega, h2⟩
theorem lks_room {L : List (Int × Int × Int)} (h : Blk8 L) {k : Nat} (hk : k ≤ L.length) {b : Int} (hb : b ∈ lks L k) : 0 ≤ b ∧ b < 8 := by
  obtain ⟨j, _, h2, h3⟩ := (mem_lks hk).1 hb
  rw [← h3]; exact h j h2
/-- What is held is among what is locked. -/
theorem held_all {L : List (Int × Int × Int)} (h8 : Blk8 L) (hg : Good L L.length) (hbs : bds L L.length = false) {i : Nat} (hi : i ≤ L.length) :
    hb L (sk L i) &&& smB (lks L L.length) (lks L L.length).length = hb L (sk L i) := by
  have hp := lks_rise hg hbs (Nat.le_refl _)
  have h0 : ∀ b ∈ lks L L.length, 0 ≤ b := fun b hm => (lks_room h8 (Nat.le_refl _) hm).1
  apply Nat.eq_of_testBit_eq
  intro x
  rw [Nat.testBit_and]
  cases ht : (hb L (sk L i)).testBit x
  · rfl
  · rw [Bool.true_and, smB_test hp h0 x (Nat.le_refl _)]
    rw [hb_test, List.any_eq_true] at ht
    obtain ⟨t, h1, h2⟩ := ht
    simp only [Bool.and_eq_true, beq_iff_eq] at h2
    have h3 := h8 t h2.1
    have hm : (x : Int) ∈ lks L L.length := (mem_lks (Nat.le_refl _)).2 ⟨t, by have := sk_lt h1; omega, h2.1, by omega⟩
    obtain ⟨j, hj, e⟩ := List.getElem_of_mem hm
    exact ⟨j, hj, by rw [List.getD_eq_getElem?_getD, List.getElem?_eq_getElem hj]; exact e⟩
theorem smB_small {L : List (Int × Int × Int)} (h8 : Blk8 L) (hg : Good L L.length) (hb : bds L L.length = false) {k : Nat} (hk : k ≤ (lks L L.length).length) : smB (lks L L.length) k < 256 := by
  have hp := lks_rise hg hb (Nat.le_refl _)
  have h0 : ∀ b ∈ lks L L.length, 0 ≤ b := fun b hb => (lks_room h8 (Nat.le_refl _) hb).1
  refine smB_lt hp h0 hk 8 (fun i hi => ?_)
  have hm : (lks L L.length).getD i 0 ∈ lks L L.length := by
    rw [List.getD_eq_getElem?_getD, List.getElem?_eq_getElem (by omega)]; exact List.getElem_mem (by omega)
  exact (lks_room h8 (Nat.le_refl _) hm).2
theorem held_end {L : List (Int × Int × Int)} (hs : Sound L) (he : ends L = true) (hl : 1 ≤ L.length) : sk L (L.length - 1) = [] := by
  have h25 := (ends_iff.1 he (L.length - 1) (by omega)).2 (by omega)
  have h2 := hs.2
  have e : L.length = L.length - 1 + 1 := by omega
  rw [e, sk_oth (by unfold opn; rw [h25]; rfl) (by unfold cls; rw [h25]; rfl)] at h2
  exact h2
theorem held_get {L : List (Int × Int × Int)} (hb : bds L L.length = false) {i : Nat} (hi : i < L.length) (hg : (at_ L i).1 = 17 ∨ (at_ L i).1 = 18) : lkd L (sk L i) (at_ L i).2.1 = true := by
  cases hv : lkd L (sk L i) (at_ L i).2.1
  · have : bd L i = true := by unfold bd; rw [if_neg (by omega), if_pos hg, hv]; rfl
    have := bds_iff.2 ⟨i, hi, this⟩
    rw [this] at hb; cases hb
  · rfl
end Go.Proofs.YthncbnalnfbpnaaGreatDoor
end

section
namespace Go.Proofs.YthncbnalnfbpnaaGreatDoor

theorem sk_congr {P A : List (Int × Int × Int)} : ∀ {k : Nat}, (∀ j, j < k → at_ P j = at_ A j) → sk P k = sk A k
  | 0, _ => rfl
  | k + 1, h => by
    have ih := sk_congr (k := k) (fun j hj => h j (by omega))
    simp only [sk, h k (by omega), ih]
theorem gd_congr {P A : List (Int × Int × Int)} {k : Nat} (h : ∀ j, j ≤ k → at_ P j = at_ A j) : gd P k = gd A k := by
  have e := sk_congr (P := P) (A := A) (k := k) (fun j hj => h j (by omega))
  unfold gd
  rw [e, h k (Nat.le_refl _)]
  cases hs : sk A k with
  | nil => rfl
  | cons t s =>
    have := sk_lt (l := A) (k := k) (t := t) (by rw [hs]; simp)
    simp only [h t (by omega)]
/-- The stack of a row that stands behind another one. -/
theorem sk_shift {Q L : List (Int × Int × Int)} {c : Nat} {S0 : List Nat} (h0 : sk Q c = S0) {m : Nat} (ha : ∀ j, j < m → at_ Q (c + j) = at_ L j) (hg : Good L m) : ∀ {j : Nat}, j ≤ m → sk Q (c + j) = (sk L j).map (fun t => c + t) ++ S0
  | 0, _ => by simpa [sk] using h0
  | j + 1, hj => by
    have ih := sk_shift h0 ha hg (j := j) (by omega)
    have e := ha j (by omega)
    rw [show c + (j + 1) = (c + j) + 1 from rfl]
    cases ho : opn (at_ L j)
    · cases hc : cls (at_ L j)
      · rw [sk_oth (by rw [e]; exact ho) (by rw [e]; exact hc), sk_oth ho hc]; exact ih
      · rw [sk_cls (by rw [e]; exact hc), sk_cls hc, ih]
        have hgj := hg j (by omega)
        unfold gd at hgj
        cases hs : sk L j with
        | nil => rw [hc, hs] at hgj; simp at hgj
        | cons t s => simp
    · rw [sk_opn' (by rw [e]; exact ho), sk_opn' ho, ih]; simp
theorem gd_shift {Q L : List (Int × Int × Int)} {c : Nat} {S0 : List Nat} (h0 : sk Q c = S0) {m : Nat} (ha : ∀ j, j < m → at_ Q (c + j) = at_ L j) (hg : Good L m) {j : Nat} (hj : j < m) : gd Q (c + j) = true := by
  have e := ha j hj
  have es := sk_shift h0 ha hg (j := j) (by omega)
  have hgj := hg j hj
  unfold gd at hgj ⊢
  rw [e]
  cases hc : cls (at_ L j)
  · rfl
  · rw [hc] at hgj
    cases hs : sk L j with
    | nil => rw [hs] at hgj; simp at hgj
    | cons t s =>
      rw [hs] at hgj es
      have := sk_lt (l := L) (k := j) (t := t) (by rw [hs]; simp)
      rw [es]
      simp only [List.map_cons, List.cons_append]
      rw [ha t (by omega)]
      exact hgj
theorem at_append {A B : List (Int × Int × Int)} {k : Nat} (h : k < A.length) : at_ (A ++ B) k = at_ A k := by
  unfold at_; rw [List.getD_eq_getElem?_getD, List.getD_eq_getElem?_getD, List.getElem?_append_left h]
theorem at_append2 {A B : List (Int × Int × Int)} (j : Nat) : at_ (A ++ B) (A.length + j) = at_ B j := by
  unfold at_; rw [List.getD_eq_getElem?_getD, List.getD_eq_getElem?_getD, List.getElem?_append_right (by omega)]; congr 2; omega
theorem at_take {A : List (Int × Int × Int)} {k c : Nat} (h : k < c) : at_ (A.take c) k = at_ A k := by
  unfold at_; rw [List.getD_eq_getElem?_getD, List.getD_eq_getElem?_getD, List.getElem?_take_of_lt h]
theorem unl_shift {Q L : List (Int × Int × Int)} {c m : Nat} (ha : ∀ j, j < m → at_ Q (c + j) = at_ L j) : ∀ {j : Nat}, j ≤ m → unl Q (c + j) = (unl Q c || unl L j)
  | 0, _ => by simp [unl]
  | j + 1, hj => by
    rw [show c + (j + 1) = (c + j) + 1 from rfl, unl_succ, unl_succ, unl_shift ha (j := j) (by omega), ha j (by omega), Bool.or_assoc]
theorem unl_congr {P A : List (Int × Int × Int)} : ∀ {k : Nat}, (∀ j, j < k → at_ P j = at_ A j) → unl P k = unl A k
  | 0, _ => rfl
  | k + 1, h => by rw [unl_succ, unl_succ, unl_congr (k := k) (fun j hj => h j (by omega)), h k (by omega)]
theorem any_shift {Q L : List (Int × Int × Int)} {c m : Nat} (ha : ∀ j, j < m → at_ Q (c + j) = at_ L j) {f : Int × Int × Int → Bool} {s : List Nat} (hs : ∀ t ∈ s, t < m) : ((s.map fun t => c + t).any fun t => f (at_ Q t)) = s.any fun t => f (at_ L t) := by
  rw [List.any_map]
  rw [Bool.eq_iff_iff, List.any_eq_true, List.any_eq_true]
  constructor
  · rintro ⟨t, h1, h2⟩; exact ⟨t, h1, by rw [← ha t (hs t h1)]; exact h2⟩
  · rintro ⟨t, h1, h2⟩; exact ⟨t, h1, by show f (at_ Q (c + t)) = true; rw [ha t (hs t h1)]; exact h2⟩
theorem any_congr {P A : List (Int × Int × Int)} {k : Nat} (h : ∀ j, j < k → at_ P j = at_ A j) {f : Int × Int × Int → Bool} {s : List Nat} (hs : ∀ t ∈ s, t < k) : (s.any fun t => f (at_ P t)) = s.any fun t => f (at_ A t) := by
  rw [Bool.eq_iff_iff, List.any_eq_true, List.any_eq_true]
  constructor
  · rintro ⟨t, h1, h2⟩; exact ⟨t, h1, by rw [← h t (hs t h1)]; exact h2⟩
  · rintro ⟨t, h1, h2⟩; exact ⟨t, h1, by rw [h t (hs t h1)]; exact h2⟩
theorem bd_congr {P A : List (Int × Int × Int)} {k : Nat} (h : ∀ j, j ≤ k → at_ P j = at_ A j) : bd P k = bd A k := by
  have h' : ∀ j, j < k → at_ P j = at_ A j := fun j hj => h j (by omega)
  have e := sk_congr h'
  have hs : ∀ t ∈ sk A k, t < k := fun t ht => sk_lt ht
  unfold bd
  rw [h k (Nat.le_refl _), e, unl_congr h']
  have e1 := any_congr h' (f := fun i => i.1 == 21) hs
  have e2 : ∀ a : Int, ((sk A k).any fun t => (at_ P t).1 == 23 && decide (a ≤ (at_ P t).2.1)) = (sk A k).any fun t => (at_ A t).1 == 23 && decide (a ≤ (at_ A t).2.1) := fun a => any_congr h' (f := fun i => i.1 == 23 && decide (a ≤ i.2.1)) hs
  have e3 : ∀ a : Int, ((sk A k).any fun t => (at_ P t).1 == 23 && (at_ P t).2.1 == a) = (sk A k).any fun t => (at_ A t).1 == 23 && (at_ A t).2.1 == a := fun a => any_congr h' (f := fun i => i.1 == 23 && i.2.1 == a) hs
  unfold inl ovr lkd
  rw [e1, e2, e3]
theorem wE_len {L : List (Int × Int × Int)} (h : wE L = 0) : 1 ≤ L.length ∧ L.length ≤ 200 := can_len (mE_zero (wE_zero h).1).1
/-- The last instruction of a whole row. -/
theorem wE_end {L : List (Int × Int × Int)} (h : wE L = 0) : (at_ L (L.length - 1)).1 = 25 := (ends_iff.1 (wE_zero h).2.1 (L.length - 1) (by have := wE_len h; omega)).2 (by have := wE_len h; omega)
theorem bd_end {L : List (Int × Int × Int)} {k : Nat} (h : (at_ L k).1 = 25) : bd L k = false := by unfold bd; rw [if_neg (by omega), if_neg (by omega)]
theorem lks_some {L : List (Int × Int × Int)} : (lks L L.length = [] ↔ ∀ j, (at_ L j).1 ≠ 23) := by
  constructor
  · intro h j hj
    have hl : j < L.length := by
      by_cases e : j < L.length
      · exact e
      · rw [at_len (by omega)] at hj; simp at hj
    have := (mem_lks (L := L) (b := (at_ L j).2.1) (Nat.le_refl _)).2 ⟨j, hl, hj, rfl⟩
    rw [h] at this; simp at this
  · intro h
    cases hl : lks L L.length with
    | nil => rfl
    | cons b r =>
      obtain ⟨j, _, h2, _⟩ := (mem_lks (L := L) (b := b) (Nat.le_refl _)).1 (by rw [hl]; simp)
      exact absurd h2 (h j)
/-- An Unlock stands behind a Lock. -/
theorem unl_lock {L : List (Int × Int × Int)} (hs : Sound L) {p : Nat} (h : (at_ L p).1 = 24) : ∃ t, t < p ∧ (at_ L t).1 = 23 := by
  obtain ⟨t, _, h2, _, _, h5⟩ := hs.cls (p := p) (by unfold cls; rw [h]; rfl)
  refine ⟨t, h2, ?_⟩
  unfold clo at h5
  rw [h] at h5
  simp at h5
  exact h5.1
theorem lock_unl {L : List (Int × Int × Int)} (hs : Sound L) {p : Nat} (h : (at_ L p).1 = 23) : ∃ d, p < d ∧ d < L.length ∧ (at_ L d).1 = 24 := by
  obtain ⟨d, _, h2, h3, h4, h5, _⟩ := hs.opn (p := p) (by unfold opn; rw [h]; rfl)
  refine ⟨d, h2, h3, ?_⟩
  obtain ⟨t, g1, _, _, _, g5⟩ := hs.cls h4
  rw [h5] at g1
  obtain rfl : p = t := by simpa using (List.cons.inj g1).1
  unfold clo at g5
  unfold cls at h4
  rw [h] at g5
  simp at g5
  exact g5.1
theorem lE_cases {L : List (Int × Int × Int)} (h : wE L = 0) (h2 : lE L ≠ 0) : ∃ p, p < L.length ∧ bd L p = true := by
  cases hb : bds L L.length
  · exact absurd (lE_of h hb) h2
  · exact bds_iff.1 hb

section
variable {A B : List (Int × Int × Int)}
/-- Two rows one behind the other, without the End of the first one. -/
def two (A B : List (Int × Int × Int)) : List (Int × Int × Int) := A.take (A.length - 1) ++ B
theorem two_len (hA : 1 ≤ A.length) : (two A B).length = A.length - 1 + B.length := by
  unfold two; rw [List.length_append, List.length_take]; omega
theorem two_fst (hA : 1 ≤ A.length) {k : Nat} (h : k < A.length - 1) : at_ (two A B) k = at_ A k := by
  unfold two
  rw [at_append (by rw [List.length_take]; omega), at_take h]
theorem two_snd (hA : 1 ≤ A.length) (j : Nat) : at_ (two A B) (A.length - 1 + j) = at_ B j := by
  have e : (A.take (A.length - 1)).length = A.length - 1 := by rw [List.length_take]; omega
  have := at_append2 (A := A.take (A.length - 1)) (B := B) j
  rw [e] at this; exact this
theorem two_sk1 (hA : 1 ≤ A.length) {k : Nat} (h : k ≤ A.length - 1) : sk (two A B) k = sk A k := sk_congr fun j hj => two_fst hA (by omega)
theorem two_c (hA : wE A = 0) : sk (two A B) (A.length - 1) = [] := by
  have hl := wE_len hA
  obtain ⟨h1, h2, _⟩ := wE_zero hA
  rw [two_sk1 hl.1 (Nat.le_refl _)]
  exact held_end (mE_zero h1).2 h2 hl.1
theorem two_sk2 (hA : wE A = 0) (hB : wE B = 0) {j : Nat} (hj : j ≤ B.length) : sk (two A B) (A.length - 1 + j) = (sk B j).map fun t => A.length - 1 + t := by
  have hl := wE_len hA
  have := sk_shift (Q := two A B) (L := B) (two_c hA) (m := B.length) (fun j _ => two_snd hl.1 j) (mE_zero (wE_zero hB).1).2.1 hj
  rw [List.append_nil] at this; exact this
theorem two_hm2 (hA : wE A = 0) (hB : wE B = 0) {i j : Nat} (hi : i ≤ B.length) (hj : j ≤ B.length) (h : hm B i = hm B j) : hm (two A B) (A.length - 1 + i) = hm (two A B) (A.length - 1 + j) := by
  unfold hm; rw [two_sk2 hA hB hi, two_sk2 hA hB hj, sk_hm h]
theorem two_hm1 (hA : 1 ≤ A.length) {k : Nat} (h : k ≤ A.length - 1) : hm (two A B) k = hm A k := by unfold hm; rw [two_sk1 hA h]
theorem two_whole (hA : wE A = 0) (hB : wE B = 0) (hn : A.length + B.length ≤ 190) : wE (two A B) = 0 := by
  have hl := wE_len hA
  have hlB := wE_len hB
  obtain ⟨hmA, heA, hjA⟩ := wE_zero hA
  obtain ⟨hmB, heB, hjB⟩ := wE_zero hB
  obtain ⟨hcA, hsA⟩ := mE_zero hmA
  obtain ⟨hcB, hsB⟩ := mE_zero hmB
  have hlen := two_len (B := B) hl.1
  have hcase : ∀ p, p < (two A B).length → p < A.length - 1 ∨ ∃ j, j < B.length ∧ p = A.length - 1 + j := by
    intro p hp
    by_cases e : p < A.length - 1
    · exact Or.inl e
    · exact Or.inr ⟨p - (A.length - 1), by omega, by omega⟩
  refine wE_of (mE_of ?_ ⟨?_, ?_⟩) ?_ ?_
  · refine can_iff.2 ⟨by omega, fun p hp => ?_⟩
    rcases hcase p hp with e | ⟨j, hj, rfl⟩
    · rw [two_fst hl.1 e]; exact can_right hcA (by omega)
    · rw [two_snd hl.1]; exact can_right hcB hj
  · intro p hp
    rcases hcase p hp with e | ⟨j, hj, rfl⟩
    · rw [gd_congr (A := A) (fun i hi => two_fst hl.1 (by omega))]; exact hsA.1 p (by omega)
    · exact gd_shift (two_c hA) (fun j _ => two_snd hl.1 j) hsB.1 hj
  · rw [hlen, two_sk2 hA hB (Nat.le_refl _), hsB.2]; rfl
  · refine ends_iff.2 fun p hp => ?_
    rcases hcase p hp with e | ⟨j, hj, rfl⟩
    · rw [two_fst hl.1 e]
      have := ends_iff.1 heA p (by omega)
      constructor
      · intro h; have := this.1 h; omega
      · intro h; omega
    · rw [two_snd hl.1]
      have := ends_iff.1 heB j hj
      constructor
      · intro h; have := this.1 h; omega
      · intro h; exact this.2 (by omega)
  · refine jmps_iff.2 fun p hp hj => ?_
    rcases hcase p hp with e | ⟨j, hj2, rfl⟩
    · rw [two_fst hl.1 e] at hj
      obtain ⟨h1, h2⟩ := jmps_iff.1 hjA p (by omega) hj
      have hled : led (two A B) p = led A p := by unfold led; rw [two_fst hl.1 e]
      rw [hled]
      refine ⟨by omega, ?_⟩
      rw [two_hm1 hl.1 (by omega), two_hm1 hl.1 (by omega)]; exact h2
    · rw [two_snd hl.1] at hj
      obtain ⟨h1, h2⟩ := jmps_iff.1 hjB j hj2 hj
      have hled : led (two A B) (A.length - 1 + j) = A.length - 1 + led B j := by unfold led; rw [two_snd hl.1]; omega
      rw [hled]
      exact ⟨by omega, two_hm2 hA hB (by omega) (by omega) h2⟩
theorem two_bd1 (hA : 1 ≤ A.length) {k : Nat} (h : k < A.length - 1) : bd (two A B) k = bd A k := bd_congr fun j hj => two_fst hA (by omega)
theorem two_bd2 (hA : wE A = 0) (hB : wE B = 0) {j : Nat} (hj : j < B.length) : bd (two A B) (A.length - 1 + j) = (bd B j || ((at_ B j).1 == 23 && unl A (A.length - 1))) := by
  have hl := wE_len hA
  have ha : ∀ i, i < B.length → at_ (two A B) (A.length - 1 + i) = at_ B i := fun i _ => two_snd hl.1 i
  have hs : ∀ t ∈ sk B j, t < B.length := fun t ht => by have := sk_lt ht; omega
  have eu : unl (two A B) (A.length - 1 + j) = (unl A (A.length - 1) || unl B j) := by
    rw [unl_shift ha (by omega), unl_congr (A := A) (fun i hi => two_fst hl.1 hi)]
  unfold bd
  rw [two_snd hl.1, two_sk2 hA hB (by omega), eu]
  have e1 := any_shift ha (f := fun i => i.1 == 21) hs
  have e2 : ∀ a : Int, (((sk B j).map fun t => A.length - 1 + t).any fun t => (at_ (two A B) t).1 == 23 && decide (a ≤ (at_ (two A B) t).2.1)) = (sk B j).any fun t => (at_ B t).1 == 23 && decide (a ≤ (at_ B t).2.1) := fun a => any_shift ha (f := fun i => i.1 == 23 && decide (a ≤ i.2.1)) hs
  have e3 : ∀ a : Int, (((sk B j).map fun t => A.length - 1 + t).any fun t => (at_ (two A B) t).1 == 23 && (at_ (two A B) t).2.1 == a) = (sk B j).any fun t => (at_ B t).1 == 23 && (at_ B t).2.1 == a := fun a => any_shift ha (f := fun i => i.1 == 23 && i.2.1 == a) hs
  unfold inl ovr lkd
  rw [e1, e2, e3]
  by_cases h : (at_ B j).1 = 23
  · rw [if_pos h, if_pos h, h]
    cases unl A (A.length - 1) <;> cases unl B j <;> simp
  · rw [if_neg h, if_neg h]
    have : ((at_ B j).1 == 23) = false := by simpa using h
    rw [this, Bool.false_and, Bool.or_false]
theorem two_bad (hA : wE A = 0) (hB : wE B = 0) (hn : A.length + B.length ≤ 190) (h : lE A ≠ 0 ∨ lE B ≠ 0) : lE (two A B) = 11 := by
  have hl := wE_len hA
  have hlen := two_len (B := B) hl.1
  refine lE_bad (two_whole hA hB hn) (bds_iff.2 ?_)
  rcases h with h | h
  · obtain ⟨p, hp, hb⟩ := lE_cases hA h
    have : p ≠ A.length - 1 := by
      intro e; rw [e, bd_end (wE_end hA)] at hb; cases hb
    exact ⟨p, by have := wE_len hB; omega, by rw [two_bd1 hl.1 (by omega)]; exact hb⟩
  · obtain ⟨p, hp, hb⟩ := lE_cases hB h
    exact ⟨A.length - 1 + p, by omega, by rw [two_bd2 hA hB hp, hb]; rfl⟩
theorem two_both (hA : wE A = 0) (hB : wE B = 0) (hn : A.length + B.length ≤ 190) (h1 : lks A A.length ≠ []) (h2 : lks B B.length ≠ []) : lE (two A B) = 11 := by
  have hl := wE_len hA
  have hlen := two_len (B := B) hl.1
  refine lE_bad (two_whole hA hB hn) (bds_iff.2 ?_)
  have hu : unl A (A.length - 1) = true := by
    obtain ⟨j, hj⟩ : ∃ j, (at_ A j).1 = 23 := by
      cases hc : lks A A.length with
      | nil => exact absurd hc h1
      | cons b r =>
        obtain ⟨j, _, h2, _⟩ := (mem_lks (L := A) (b := b) (Nat.le_refl _)).1 (by rw [hc]; simp)
        exact ⟨j, h2⟩
    obtain ⟨d, _, hd, h24⟩ := lock_unl (mE_zero (wE_zero hA).1).2 hj
    have : d ≠ A.length - 1 := by intro e; rw [e, wE_end hA] at h24; omega
    exact unl_iff.2 ⟨d, by omega, h24⟩
  obtain ⟨j, hj, h23⟩ : ∃ j, j < B.length ∧ (at_ B j).1 = 23 := by
    cases hc : lks B B.length with
    | nil => exact absurd hc h2
    | cons b r =>
      obtain ⟨j, h1, h2, _⟩ := (mem_lks (L := B) (b := b) (Nat.le_refl _)).1 (by rw [hc]; simp)
      exact ⟨j, h1, h2⟩
  exact ⟨A.length - 1 + j, by omega, by rw [two_bd2 hA hB hj, hu, h23]; simp⟩
theorem two_lks (hA : wE A = 0) : lks (two A B) (two A B).length = lks A A.length ++ lks B B.length := by
  have hl := wE_len hA
  have h25 := wE_end hA
  have e1 : lks A A.length = lks A (A.length - 1) := by
    have := lks_succ (l := A) (k := A.length - 1) (by omega)
    rw [if_neg (by omega)] at this
    rw [← this]; congr 1; omega
  rw [e1]
  unfold lks
  rw [List.take_length, List.take_length]
  unfold two
  rw [List.filter_append, List.map_append]
theorem two_ok (hA : wE A = 0) (hB : wE B = 0) (hn : A.length + B.length ≤ 190) (h1 : lE A = 0) (h2 : lE B = 0) (h : lks A A.length = [] ∨ lks B B.length = []) : lE (two A B) = 0 := by
  have hl := wE_len hA
  have hlen := two_len (B := B) hl.1
  refine lE_of (two_whole hA hB hn) ?_
  have hbA := (lE_zero h1).2
  have hbB := (lE_zero h2).2
  have nb : ∀ {L : List (Int × Int × Int)} {p : Nat}, bds L L.length = false → p < L.length → bd L p = false := by
    intro L p hb hp
    cases hv : bd L p
    · rfl
    · rw [bds_iff.2 ⟨p, hp, hv⟩] at hb; cases hb
  cases hv : bds (two A B) (two A B).length
  · rfl
  · obtain ⟨p, hp, hb⟩ := bds_iff.1 hv
    exfalso
    by_cases e : p < A.length - 1
    · rw [two_bd1 hl.1 e, nb hbA (by omega)] at hb; cases hb
    · obtain ⟨j, rfl⟩ : ∃ j, p = A.length - 1 + j := ⟨p - (A.length - 1), by omega⟩
      have hj : j < B.length := by omega
      rw [two_bd2 hA hB hj, nb hbB hj, Bool.false_or, Bool.and_eq_true, beq_iff_eq] at hb
      rcases h with h | h
      · obtain ⟨q, hq, h24⟩ := unl_iff.1 hb.2
        obtain ⟨t, _, ht⟩ := unl_lock (mE_zero (wE_zero hA).1).2 h24
        exact lks_some.1 h t ht
      · exact lks_some.1 h j hb.1
end
end Go.Proofs.YthncbnalnfbpnaaGreatDoor
end

section
namespace Go.Proofs.YthncbnalnfbpnaaGreatDoor

/-- What an operation takes; what it gives for what it took. -/
def tk (o : Int) : List UInt8 :=
  if o = 2 ∨ o = 3 then [32] else if o = 4 then [32, 32] else if o = 5 then [105, 105]
  else if o = 6 ∨ o = 12 ∨ o = 14 ∨ o = 16 ∨ o = 18 then [105]
  else if o = 7 ∨ o = 10 ∨ o = 20 then [98] else if o = 8 ∨ o = 9 then [98, 98] else []
def gv (o a : Int) (t : List UInt8) : List UInt8 :=
  if o = 1 ∨ o = 6 ∨ o = 10 ∨ o = 11 ∨ o = 13 ∨ o = 15 ∨ o = 17 then [105]
  else if o = 3 then t ++ t else if o = 4 then t.drop 1 ++ t.take 1
  else if o = 5 then (if a = 11 ∨ a = 12 then [98] else [105])
  else if o = 7 ∨ o = 8 ∨ o = 9 then [98] else []
/-- Does one byte fit another one; do all? -/
def fit1 (x y : UInt8) : Bool := if y = 32 then (x == 105 || x == 98) else x == y
def fit : List UInt8 → List UInt8 → Bool
  | [], [] => true
  | x :: t, y :: u => fit1 x y && fit t u
  | _, _ => false
/-- What stands behind an operation, and its error. -/
def bh (o a : Int) (s : List UInt8) : List UInt8 := s.take (s.length - (tk o).length) ++ gv o a (s.drop (s.length - (tk o).length))
def bE (o a : Int) (s : List UInt8) : Int :=
  if s.length < (tk o).length then 9 else if fit (s.drop (s.length - (tk o).length)) (tk o) = true then (if 16 < (bh o a s).length then 9 else 0) else 10
/-- A place is handed a stack. -/
def hand (f : Nat → List UInt8 × Bool × Bool) (q : Nat) (s : List UInt8) : Nat → List UInt8 × Bool × Bool :=
  fun j => if j = q then (s, true, (f q).2.2 || ((f q).2.1 && (f q).1 != s)) else f j
def hands (f : Nat → List UInt8 × Bool × Bool) (l : List Nat) (s : List UInt8) : Nat → List UInt8 × Bool × Bool := l.foldl (fun f q => hand f q s) f
/-- The places that may come next. -/
def nx (l : List (Int × Int × Int)) (p : Nat) : List Nat :=
  if (at_ l p).1 = 25 then [] else if (at_ l p).1 = 19 then [led l p] else if (at_ l p).1 = 20 then [p + 1, led l p] else [p + 1]
/-- What each place was handed by the first k instructions. -/
def sp (l : List (Int × Int × Int)) : Nat → Nat → List UInt8 × Bool × Bool
  | 0 => hand (fun _ => ([], false, false)) 0 []
  | k + 1 => hands (sp l k) (nx l k) (bh (at_ l k).1 (at_ l k).2.1 (sp l k k).1)
/-- The stack ahead of a place. -/
def sf (l : List (Int × Int × Int)) (p : Nat) : List UInt8 := (sp l p p).1
/-- The error at a place. -/
def er (l : List (Int × Int × Int)) (k : Nat) : Int :=
  if (sp l k k).2.1 = false then 8 else if (sp l k k).2.2 = true then 10
  else if (at_ l k).1 = 22 ∧ sf l k ≠ sf l (mt l l.length k).toNat then 10 else bE (at_ l k).1 (at_ l k).2.1 (sf l k)
/-- The first error of the first k places. -/
def fe (l : List (Int × Int × Int)) : Nat → Int
  | 0 => 0
  | k + 1 => if fe l k = 0 then er l k else fe l k
/-- Stacks' error, and what Stacks tells. -/
def tE (l : List (Int × Int × Int)) : Int := if wE l = 0 then fe l l.length else wE l
def tL (l : List (Int × Int × Int)) : List (List UInt8) := (List.range l.length).map (sf l)
def tA (l : List (Int × Int × Int)) : List (List UInt8) := if tE l = 0 then tL l else []
/-- How deep the first k stacks get. -/
def dp (P : List (List UInt8)) : Nat → Nat
  | 0 => 0
  | k + 1 => max (dp P k) (P.getD k []).length
def dA (l : List (Int × Int × Int)) : Nat := if tE l = 0 then dp (tL l) l.length else 0
end Go.Proofs.YthncbnalnfbpnaaGreatDoor
end

section
namespace Go.Proofs.YthncbnalnfbpnaaGreatDoor

theorem nx_gt {l : List (Int × Int × Int)} {p q : Nat} (h : q ∈ nx l p) : p < q := by
  unfold nx at h
  split at h
  · simp at h
  · split at h
    · simp at h; subst h; unfold led; omega
    · split at h
      · simp at h
        rcases h with rfl | rfl
        · omega
        · unfold led; omega
      · simp at h; omega
theorem nx_lt {l : List (Int × Int × Int)} {p q : Nat} (hw : wE l = 0) (hp : p < l.length) (h : q ∈ nx l p) : q < l.length := by
  obtain ⟨_, he, hj⟩ := wE_zero hw
  have he2 := ends_iff.1 he p hp
  have hj2 := jmps_iff.1 hj p hp
  unfold nx at h
  split at h
  · simp at h
  · rename_i h25
    have hp1 : p + 1 < l.length := by
      have : ¬ p + 1 = l.length := fun e => h25 (he2.2 e)
      omega
    split at h
    · rename_i h19
      simp at h; subst h
      exact (hj2 (by unfold jmp; rw [h19]; rfl)).1
    · split at h
      · rename_i h20
        simp at h
        rcases h with rfl | rfl
        · exact hp1
        · exact (hj2 (by unfold jmp; rw [h20]; rfl)).1
      · simp at h; omega
theorem hands_other {f : Nat → List UInt8 × Bool × Bool} {l : List Nat} {s : List UInt8} {j : Nat} (h : j ∉ l) : hands f l s j = f j := by
  unfold hands
  induction l generalizing f with
  | nil => rfl
  | cons q l ih =>
    rw [List.foldl_cons, ih (by intro h2; exact h (by simp [h2]))]
    unfold hand
    rw [if_neg]
    intro e; exact h (by simp [e])
theorem hands_snoc (f : Nat → List UInt8 × Bool × Bool) (l : List Nat) (q : Nat) (s : List UInt8) : hands f (l ++ [q]) s = hand (hands f l s) q s := by
  unfold hands; rw [List.foldl_append]; rfl
theorem sp_succ {l : List (Int × Int × Int)} {k j : Nat} (h : j ≤ k) : sp l (k + 1) j = sp l k j := by
  rw [sp, hands_other]
  intro h2
  have := nx_gt h2; omega
theorem sp_stable {l : List (Int × Int × Int)} {j : Nat} : ∀ {k : Nat}, j ≤ k → sp l k j = sp l j j
  | 0, h => by obtain rfl : j = 0 := by omega
               rfl
  | k + 1, h => by
    by_cases e : j = k + 1
    · rw [e]
    · rw [sp_succ (by omega), sp_stable (by omega)]
theorem fe_succ {l : List (Int × Int × Int)} {k : Nat} (h : fe l k = 0) : fe l (k + 1) = er l k := by rw [fe, if_pos h]
theorem fe_stay {l : List (Int × Int × Int)} {k : Nat} (h : fe l k ≠ 0) : ∀ {m : Nat}, k ≤ m → fe l m = fe l k
  | 0, hm => by obtain rfl : k = 0 := by omega
                rfl
  | m + 1, hm => by
    by_cases e : k = m + 1
    · rw [e]
    · have := fe_stay h (m := m) (by omega)
      rw [fe, this, if_neg h]
theorem fe_zero {l : List (Int × Int × Int)} : ∀ {m k : Nat}, fe l m = 0 → k < m → fe l k = 0 ∧ er l k = 0
  | 0, k, _, h => by omega
  | m + 1, k, h0, h => by
    have hm : fe l m = 0 := by
      by_cases e : fe l m = 0
      · exact e
      · rw [fe, if_neg e] at h0; exact h0
    by_cases e : k = m
    · subst e; rw [fe_succ hm] at h0; exact ⟨hm, h0⟩
    · exact fe_zero hm (by omega)
theorem tE_err {l : List (Int × Int × Int)} {k : Nat} (hw : wE l = 0) (h : fe l k = 0) (he : er l k ≠ 0) (hk : k < l.length) : tE l = er l k := by
  unfold tE
  rw [if_pos hw]
  have h1 := fe_succ h
  rw [fe_stay (k := k + 1) (by rw [h1]; exact he) (by omega), h1]
theorem er_zero {l : List (Int × Int × Int)} {k : Nat} (h : er l k = 0) : (sp l k k).2.1 = true ∧ (sp l k k).2.2 = false ∧ ((at_ l k).1 = 22 → sf l k = sf l (mt l l.length k).toNat) ∧ bE (at_ l k).1 (at_ l k).2.1 (sf l k) = 0 := by
  unfold er at h
  split at h
  · omega
  · rename_i h1
    split at h
    · omega
    · rename_i h2
      split at h
      · omega
      · rename_i h3
        refine ⟨by simpa using h1, by simpa using h2, fun h4 => ?_, h⟩
        by_cases e : sf l k = sf l (mt l l.length k).toNat
        · exact e
        · exact absurd ⟨h4, e⟩ h3
theorem bE_zero {o a : Int} {s : List UInt8} (h : bE o a s = 0) : (tk o).length ≤ s.length ∧ fit (s.drop (s.length - (tk o).length)) (tk o) = true ∧ (bh o a s).length ≤ 16 := by
  unfold bE at h
  split at h
  · omega
  · split at h
    · split at h
      · omega
      · rename_i h1 h2 h3; exact ⟨by omega, h2, by omega⟩
    · omega
/-- No stack is too long. -/
theorem sp_len {l : List (Int × Int × Int)} : ∀ {k : Nat}, fe l k = 0 → ∀ j, (sp l k j).1.length ≤ 16
  | 0, _, j => by
    unfold sp hand
    split <;> simp
  | k + 1, h, j => by
    have h1 := fe_zero h (Nat.lt_succ_self k)
    have hb := (bE_zero (er_zero h1.2).2.2.2).2.2
    have ih := sp_len h1.1
    rw [sp]
    have gen : ∀ (m : List Nat) (f : Nat → List UInt8 × Bool × Bool), (∀ j, (f j).1.length ≤ 16) → ∀ j, (hands f m (bh (at_ l k).1 (at_ l k).2.1 (sp l k k).1) j).1.length ≤ 16 := by
      intro m
      induction m with
      | nil => intro f hf; exact hf
      | cons q m ih2 =>
        intro f hf
        refine ih2 (hand f q _) (fun j => ?_)
        unfold hand
        split
        · exact hb
        · exact hf j
    exact gen _ _ ih j
theorem tL_len (l : List (Int × Int × Int)) : (tL l).length = l.length := by simp [tL]
theorem tL_at {l : List (Int × Int × Int)} {p : Nat} (h : p < l.length) : (tL l).getD p [] = sf l p := by simp [tL, h]
theorem tL_over {l : List (Int × Int × Int)} {p : Nat} (h : l.length ≤ p) : (tL l).getD p [] = [] := by
  rw [List.getD_eq_getElem?_getD, List.getElem?_eq_none (by rw [tL_len]; exact h)]; rfl
/-- A Next has its Loop ahead. -/
theorem mt_next {l : List (Int × Int × Int)} {k : Nat} (hw : wE l = 0) (hk : k < l.length) (h : (at_ l k).1 = 22) : ∃ t : Nat, mt l l.length k = t ∧ t < k := by
  have hs := (mE_zero (wE_zero hw).1).2
  obtain ⟨t, _, h2, h3, _⟩ := mt_cls hs.1 hk (show cls (at_ l k) = true by unfold cls; rw [h]; rfl)
  exact ⟨t, h3, h2⟩
end Go.Proofs.YthncbnalnfbpnaaGreatDoor
end

section
namespace Go.Proofs.YthncbnalnfbpnaaGreatDoor

/-- A place has been handed a stack, or two that differ. -/
def HasS (f : Nat → List UInt8 × Bool × Bool) (q : Nat) (X : List UInt8) : Prop := (f q).2.1 = true ∧ ((f q).1 = X ∨ (f q).2.2 = true)
theorem HasS.hand {f : Nat → List UInt8 × Bool × Bool} {q r : Nat} {X s : List UInt8} (h : HasS f q X) : HasS (hand f r s) q X := by
  unfold HasS Go.Proofs.YthncbnalnfbpnaaGreatDoor.hand at *
  by_cases e : q = r
  · subst e
    simp only [if_true]
    refine ⟨trivial, ?_⟩
    rcases h.2 with h2 | h2
    · by_cases e2 : s = X
      · exact Or.inl e2
      · right
        rw [h.1, h2]
        have : (X != s) = true := by simpa using Ne.symm e2
        rw [this]; simp
    · right; rw [h2]; rfl
  · rw [if_neg e]; exact h
theorem HasS.hands {q : Nat} {X s : List UInt8} : ∀ {l : List Nat} {f : Nat → List UInt8 × Bool × Bool}, HasS f q X → HasS (hands f l s) q X
  | [], _, h => h
  | r :: l, f, h => HasS.hands (l := l) (f := Go.Proofs.YthncbnalnfbpnaaGreatDoor.hand f r s) (HasS.hand h)
theorem hands_hit {q : Nat} {s : List UInt8} : ∀ {l : List Nat} {f : Nat → List UInt8 × Bool × Bool}, q ∈ l → HasS (hands f l s) q s
  | [], _, h => by simp at h
  | r :: l, f, h => by
    by_cases e : q = r
    · subst e
      refine HasS.hands (l := l) (f := hand f q s) ?_
      unfold HasS hand
      simp
    · have h2 : q ∈ l := by
        rcases List.mem_cons.1 h with h | h
        · exact absurd h e
        · exact h
      exact hands_hit (l := l) (f := hand f r s) h2
theorem sp_has {L : List (Int × Int × Int)} {p q : Nat} (h : q ∈ nx L p) : ∀ k, p < k → HasS (sp L k) q (bh (at_ L p).1 (at_ L p).2.1 (sf L p))
  | 0, hk => by omega
  | k + 1, hk => by
    rw [sp]
    by_cases e : p = k
    · subst e; exact hands_hit h
    · exact HasS.hands (sp_has h k (by omega))
/-- An instruction hands what is behind it to each one that may come next. -/
theorem flow {L : List (Int × Int × Int)} {p q : Nat} (h : q ∈ nx L p) (he : er L q = 0) : sf L q = bh (at_ L p).1 (at_ L p).2.1 (sf L p) := by
  have h1 := sp_has h q (nx_gt h)
  have h2 := (er_zero he).2.1
  rcases h1.2 with h3 | h3
  · exact h3
  · rw [h2] at h3; cases h3
theorem tE_zero {L : List (Int × Int × Int)} (h : tE L = 0) : wE L = 0 ∧ ∀ p, p < L.length → er L p = 0 := by
  unfold tE at h
  split at h
  · rename_i h1; exact ⟨h1, fun p hp => (fe_zero h hp).2⟩
  · rename_i h1; exact absurd h h1
theorem sf_zero (L : List (Int × Int × Int)) : sf L 0 = [] := rfl
theorem sf_len {L : List (Int × Int × Int)} (h : tE L = 0) {p : Nat} (hp : p < L.length) : (sf L p).length ≤ 16 := by
  unfold tE at h
  split at h
  · exact sp_len (fe_zero h hp).1 p
  · rename_i h1; exact absurd h h1
theorem nx_falls {L : List (Int × Int × Int)} {p : Nat} (h1 : (at_ L p).1 ≠ 19) (h2 : (at_ L p).1 ≠ 25) : p + 1 ∈ nx L p := by
  unfold nx
  rw [if_neg h2, if_neg h1]
  split <;> simp
theorem nx_leads {L : List (Int × Int × Int)} {p : Nat} (h : (at_ L p).1 = 19 ∨ (at_ L p).1 = 20) : led L p ∈ nx L p := by
  unfold nx
  rw [if_neg (by omega)]
  by_cases e : (at_ L p).1 = 19
  · rw [if_pos e]; simp
  · rw [if_neg e, if_pos (by omega)]; simp
theorem dp_mem (P : List (List UInt8)) : ∀ k, 1 ≤ k → ∃ i, i < k ∧ (P.getD i []).length = dp P k
  | 0, h => by omega
  | 1, _ => ⟨0, by omega, by simp [dp]⟩
  | k + 2, _ => by
    obtain ⟨i, h1, h2⟩ := dp_mem P (k + 1) (by omega)
    by_cases e : dp P (k + 1) ≤ (P.getD (k + 1) []).length
    · refine ⟨k + 1, by omega, ?_⟩
      show _ = max (dp P (k + 1)) (P.getD (k + 1) []).length
      omega
    · refine ⟨i, by omega, ?_⟩
      show _ = max (dp P (k + 1)) (P.getD (k + 1) []).length
      omega
theorem dp_ge (P : List (List UInt8)) : ∀ k i, i < k → (P.getD i []).length ≤ dp P k
  | 0, _, h => by omega
  | k + 1, i, h => by
    show _ ≤ max (dp P k) (P.getD k []).length
    by_cases e : i = k
    · subst e; omega
    · have := dp_ge P k i (by omega); omega
end Go.Proofs.YthncbnalnfbpnaaGreatDoor
end
