/- What is proved here: the contract of bits.Len64. Condition: the number fits 64 bits. -/
import Derived.Test.YtofmlodfhdjjiaaDoorChecked
import Derived.Lib.Strings
import Derived.Lib.Slices
import Derived.Lib.Small
import Derived.Lib.Walk
import Derived.Lib.BitFns
namespace Go.Proofs.YtofmlodfhdjjiaaDoor

/-- How many bits a number has, by a byte of it. -/
theorem bits_way (x y : Int) (K : Nat) (h1 : x ≤ 18446744073709551615) (hy0 : 0 ≤ y) (hy1 : y ≤ 255) (hy : y.toNat = x.toNat / 2 ^ K) (hK : K = 0 ∨ 2 ^ K ≤ x.toNat) :
    (K : Int) + Lib.len8 y = (Lib.bitLen x.toNat : Int) := by
  rw [Lib.len8_of y hy0 hy1, hy]
  rcases hK with rfl | hK
  · simp
  · have := Lib.bitLen_shift K x.toNat hK (by simp only [show (2 : Nat) ^ 64 = 18446744073709551616 from rfl]; omega)
    omega
theorem byte_le (y : Int) (h0 : 0 ≤ y) (h1 : y ≤ 255) : 0 ≤ Lib.len8 y ∧ Lib.len8 y ≤ 8 := by
  rw [Lib.len8_of y h0 h1]
  have := Lib.bitLen_le8' y h0 h1
  omega
set_option maxHeartbeats 4000000 in
set_option maxRecDepth 100000 in
theorem len64_int (x : Int) (w : World) (h0 : 0 ≤ x) (h1 : x ≤ 18446744073709551615) :
    Calls Tryd.prog 71 #[.int .u64 x] w fun e w' => e = .returned (.int .i64 (Lib.bitLen x.toNat : Nat)) ∧ w = w' := by
  go_enter Tryd.func71, Tryd.ntmps71
  go_wp2
  all_goals (go_ret; refine ⟨congrArg Ending.returned (congrArg (Value.int IntKind.i64) ?_), rfl⟩)
  all_goals first
    | (have e : (2 : Nat) ^ 56 = 72057594037927936 := rfl
       have l := byte_le (x / 4294967296 / 65536 / 256 % 256) (by omega) (by omega)
       have s := bits_way x (x / 4294967296 / 65536 / 256 % 256) 56 h1 (by omega) (by omega) (by rw [e]; omega) (Or.inr (by rw [e]; omega))
       omega)
    | (have e : (2 : Nat) ^ 48 = 281474976710656 := rfl
       have l := byte_le (x / 4294967296 / 65536 % 256) (by omega) (by omega)
       have s := bits_way x (x / 4294967296 / 65536 % 256) 48 h1 (by omega) (by omega) (by rw [e]; omega) (Or.inr (by rw [e]; omega))
       omega)
    | (have e : (2 : Nat) ^ 40 = 1099511627776 := rfl
       have l := byte_le (x / 4294967296 / 256 % 256) (by omega) (by omega)
       have s := bits_way x (x / 4294967296 / 256 % 256) 40 h1 (by omega) (by omega) (by rw [e]; omega) (Or.inr (by rw [e]; omega))
       omega)
    | (have e : (2 : Nat) ^ 32 = 4294967296 := rfl
       have l := byte_le (x / 4294967296 % 256) (by omega) (by omega)
       have s := bits_way x (x / 4294967296 % 256) 32 h1 (by omega) (by omega) (by rw [e]; omega) (Or.inr (by rw [e]; omega))
       omega)
    | (have e : (2 : Nat) ^ 24 = 16777216 := rfl
       have l := byte_le (x / 65536 / 256 % 256) (by omega) (by omega)
       have s := bits_way x (x / 65536 / 256 % 256) 24 h1 (by omega) (by omega) (by rw [e]; omega) (Or.inr (by rw [e]; omega))
       omega)
    | (have e : (2 : Nat) ^ 16 = 65536 := rfl
       have l := byte_le (x / 65536 % 256) (by omega) (by omega)
       have s := bits_way x (x / 65536 % 256) 16 h1 (by omega) (by omega) (by rw [e]; omega) (Or.inr (by rw [e]; omega))
       omega)
    | (have e : (2 : Nat) ^ 8 = 256 := rfl
       have l := byte_le (x / 256 % 256) (by omega) (by omega)
       have s := bits_way x (x / 256 % 256) 8 h1 (by omega) (by omega) (by rw [e]; omega) (Or.inr (by rw [e]; omega))
       omega)
    | (have e : (2 : Nat) ^ 0 = 1 := rfl
       have l := byte_le (x % 256) (by omega) (by omega)
       have s := bits_way x (x % 256) 0 h1 (by omega) (by omega) (by rw [e]; omega) (Or.inl rfl)
       omega)
theorem len64_any (u : Nat) (hu : u ≤ 18446744073709551615) (w : World) :
    Calls Tryd.prog 71 #[.int .u64 u] w fun e w' => e = .returned (.int .i64 (Lib.bitLen u : Nat)) ∧ w = w' := by
  have := len64_int u w (by omega) (by omega)
  simpa using this
end Go.Proofs.YtofmlodfhdjjiaaDoor
