/- What is proved here: contracts of the document's Put and List. Conditions: numbers fit 64 bits; lists are not too long. -/
import Derived.Test.YtofmlodfhdjjiaaDoorUse
namespace Go.Proofs.YtofmlodfhdjjiaaDoor
open Go.ChangeShapes Go.WideShapes Go.RowKit

/-- string([]byte{b}) of a new block. -/
theorem conv_one (v : Int) (b : UInt8) (h : v = b.toNat) : ∃ B : ByteArray, B.data.toList = [b] ∧ B.size = 1 ∧ ∀ W : World,
    (convert 44 9 (.slice (some ⟨W.heap.size, 0, none⟩) 1 1)).run Tryd.prog (W.alloc (.cells #[.int .u8 v] 5)) = .ok (.string B) (W.alloc (.cells #[.int .u8 v] 5)) :=
  ⟨bs [b], bs_data _, bs_size _, fun W =>
    run_convert_bytes_back (W.alloc (.cells #[.int .u8 v] 5)) 44 9 5 ⟨W.heap.size, 0, none⟩ 1 [b] Tryd.underlying44 Tryd.underlying5 Tryd.underlying9 (fun j hj => by
      match j, hj with
      | 0, _ => subst h; simp [Addr.add])⟩
theorem hi_val (u : Nat) : (u : Int) % 128 + 128 = ((hiB u).toNat : Int) := by
  have e2 : (hiB u).toNat = u % 128 + 128 := by unfold hiB; simp; omega
  rw [e2]; omega
theorem lo_val {u : Nat} (h : u < 128) : (u : Int) = ((loB u).toNat : Int) := by
  have e2 : (loB u).toNat = u := by unfold loB; simp; omega
  rw [e2]
end Go.Proofs.YtofmlodfhdjjiaaDoor
