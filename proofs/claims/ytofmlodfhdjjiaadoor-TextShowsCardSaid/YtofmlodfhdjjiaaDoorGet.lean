/- What is proved here: the contract of code.Get. Conditions: the string is no longer than Go's. -/
import Derived.Test.YtofmlodfhdjjiaaDoorFirst
namespace Go.Proofs.YtofmlodfhdjjiaaDoor
open Go.ChangeShapes Go.WideShapes Go.RowKit

/-- What stands at a place: the number, the place behind it, what is wrong. -/
def gN (l : List UInt8) (p : Int) : Int := if p < 0 ∨ (l.length : Int) < p then 0 else if (scan 0 0 (l.drop p.toNat)).2.2 = 0 then unturn (scan 0 0 (l.drop p.toNat)).1 else 0
def gT (l : List UInt8) (p : Int) : Int := if p < 0 ∨ (l.length : Int) < p then 0 else if (scan 0 0 (l.drop p.toNat)).2.2 = 0 then p + (scan 0 0 (l.drop p.toNat)).2.1 else 0
def gE (l : List UInt8) (p : Int) : Int := if p < 0 ∨ (l.length : Int) < p then 1 else (scan 0 0 (l.drop p.toNat)).2.2
theorem g_out {l : List UInt8} {p : Int} (h : p < 0 ∨ (l.length : Int) < p) : gN l p = 0 ∧ gT l p = 0 ∧ gE l p = 1 := by
  unfold gN gT gE; rw [if_pos h, if_pos h, if_pos h]; exact ⟨rfl, rfl, rfl⟩
theorem g_in {l : List UInt8} {k : Nat} (h : k ≤ l.length) {u m e : Nat} (hs : scan 0 0 (l.drop k) = (u, m, e)) :
    gN l k = (if e = 0 then unturn u else 0) ∧ gT l k = (if e = 0 then (k : Int) + m else 0) ∧ gE l k = e := by
  unfold gN gT gE
  have h0 : ¬ ((k : Int) < 0 ∨ (l.length : Int) < k) := by omega
  rw [if_neg h0, if_neg h0, if_neg h0, Int.toNat_natCast, hs]
  exact ⟨rfl, rfl, rfl⟩

theorem extract_list (s : ByteArray) (k : Nat) : (s.extract k s.size).data.toList = s.data.toList.drop k := by
  rw [Lib.extract_data, List.take_of_length_le (by rw [List.length_drop, ← Lib.size_eq]; exact Nat.le_refl _)]
end Go.Proofs.YtofmlodfhdjjiaaDoor
