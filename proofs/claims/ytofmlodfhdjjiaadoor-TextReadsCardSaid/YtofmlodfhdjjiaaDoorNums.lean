/- What is proved here: contracts of the program's and the document's turned numbers, of bits.Len64 and of code.Size. Conditions: numbers fit 64 bits. -/
import Derived.Test.YtofmlodfhdjjiaaDoorScan
import Derived.Test.YtofmlodfhdjjiaaDoorChecked
import Derived.WalkKit
import Derived.Lib.BitFns
import Derived.Lib.Hide
import Derived.Lib.Small
import Derived.Lib.Walk
import Derived.Laws.BitsAllLaws
import Derived.Outline
namespace Go.Proofs.YtofmlodfhdjjiaaDoor
open Go.ChangeShapes Go.WideShapes Go.RowKit

theorem wrap_bvc (n : Int) : IntKind.i64.wrap n = (BitVec.ofInt 64 n).toInt := by
  rw [IntKind.wrap_i64, BitVec.toInt_ofInt]
  unfold Int.bmod
  simp only [show (2 ^ 64 : Nat) = 18446744073709551616 from rfl]
  split <;> omega
theorem not_i64 (n : Int) (h1 : -9223372036854775808 ≤ n) (h2 : n ≤ 9223372036854775807) : bits .xor .i64 (-1) n = -1 - n := by
  unfold bits
  show IntKind.i64.wrap ((BitVec.ofInt 64 (-1) ^^^ BitVec.ofInt 64 n).toNat : Int) = _
  rw [wrap_bvc, BitVec.ofInt_natCast, BitVec.ofNat_toNat, BitVec.setWidth_eq]
  have e : BitVec.ofInt 64 (-1) = BitVec.allOnes 64 := by decide +kernel
  rw [e, BitVec.allOnes_xor, BitVec.toInt_not]
  have h : (BitVec.ofInt 64 n).toInt = n := by rw [← wrap_bvc, IntKind.wrap_i64]; omega
  have h' : ((BitVec.ofInt 64 n).toNat : Int) = n % 18446744073709551616 := by
    rw [BitVec.toNat_ofInt]; simp only [show (2 ^ 64 : Nat) = 18446744073709551616 from rfl]; omega
  rw [h']
  unfold Int.bmod
  simp only [show (2 ^ 64 : Nat) = 18446744073709551616 from rfl]
  split <;> omega

theorem ret_int {k : IntKind} {a b : Int} (h : a = b) : Ending.returned (.int k a) = .returned (.int k b) := by rw [h]
theorem turn_pos {n : Int} (h : 0 ≤ n) : (turn n : Int) = 2 * n := by unfold turn; rw [if_pos h]; omega
theorem turn_neg {n : Int} (h : n < 0) : (turn n : Int) = 2 * (-1 - n) + 1 := by unfold turn; rw [if_neg (by omega)]; omega
/-- A number fits 64 bits. -/
def Fits (n : Int) : Prop := -9223372036854775808 ≤ n ∧ n ≤ 9223372036854775807

theorem turned_any (n : Int) (hf : Fits n) (w : World) :
    Calls Tryd.prog 68 #[.int .i64 n] w fun e w' => e = .returned (.int .u64 (turn n)) ∧ w = w' := by
  obtain ⟨h1, h2⟩ := hf
  by_cases hn : n < 0
  · have hb := not_i64 n h1 h2
    go_enter Tryd.func68, Tryd.ntmps68
    go_wp2
    go_ret
    exact ⟨ret_int (by rw [turn_neg hn]; simp only [IntKind.wrap_u64]; omega), rfl⟩
  · go_enter Tryd.func68, Tryd.ntmps68
    go_wp2
    go_ret
    exact ⟨ret_int (by rw [turn_pos (by omega)]), rfl⟩
theorem unturn_even {u : Nat} (h : u % 2 = 0) : unturn u = (u : Int) / 2 := by unfold unturn; rw [if_pos h]; omega
theorem unturn_odd {u : Nat} (h : u % 2 = 1) : unturn u = -1 - (u : Int) / 2 := by unfold unturn; rw [if_neg (by omega)]; omega
end Go.Proofs.YtofmlodfhdjjiaaDoor
