/- What is proved here: plain facts on texts as lists of bytes, and how a slice of strings reads as a list of texts. Conditions: none beyond those each theorem states. -/
import Derived.Test.YtkkoekfdncoifaaDoorOwn
import Derived.Test.YtkkoekfdncoifaaDoorKeep
import Derived.Lib.Strings
namespace Go.Proofs.YtkkoekfdncoifaaDoor
open Go.ChangeShapes Go.WideShapes Go.RowKit

/-- Bytes as a text. -/
def bs (l : List UInt8) : ByteArray := ⟨l.toArray⟩
theorem bs_list (l : List UInt8) : (bs l).data.toList = l := by simp [bs]
theorem bs_of (s : ByteArray) : bs s.data.toList = s := by simp [bs]
theorem bs_size (l : List UInt8) : (bs l).size = l.length := by simp [bs, ByteArray.size]
theorem bs_inj {a b : List UInt8} (h : bs a = bs b) : a = b := by rw [← bs_list a, h, bs_list]
theorem bs_toList (l : List UInt8) : (bs l).toList = l := by rw [Lib.toList_data, bs_list]
theorem bs_append (a b : List UInt8) : bs a ++ bs b = bs (a ++ b) := by
  rw [← bs_of (bs a ++ bs b)]; congr 1
theorem bs_extract (l : List UInt8) (f k : Nat) : (bs l).extract f k = bs ((l.take k).drop f) := by
  rw [← bs_of ((bs l).extract f k), Lib.extract_data, List.drop_take, bs_list]
theorem bs_nil : bs [] = ⟨#[]⟩ := rfl
/-- A slice of strings reads as a list of texts. -/
def RowS (w : World) (a : Option Addr) (n : Nat) (P : List (List UInt8)) : Prop :=
  n = P.length ∧ (0 < n → ∃ b off, a = some ⟨b, off, none⟩ ∧ b < w.heap.size ∧ ∀ i, i < n → w.cell? ⟨b, off + i, none⟩ = some (.string (bs (P.getD i []))))
theorem RowS.below {w w' : World} {a : Option Addr} {n : Nat} {P : List (List UInt8)} (h : RowS w a n P) (hb : Below w.heap.size w w') : RowS w' a n P := by
  refine ⟨h.1, fun hn => ?_⟩
  obtain ⟨b, off, rfl, hlt, hc⟩ := h.2 hn
  exact ⟨b, off, rfl, Nat.lt_of_lt_of_le hlt hb.size, fun i hi => (hb.cell (p := ⟨b, off + i, none⟩) hlt).trans (hc i hi)⟩
theorem RowS.nil (w : World) (a : Option Addr) : RowS w a 0 [] := ⟨rfl, fun h => absurd h (by omega)⟩
def cellsS (P : List (List UInt8)) : List Value := P.map fun p => .string (bs p)
theorem RowS.own {w : World} {base : Nat} {v : Value} {m : Nat} {P : List (List UInt8)} (h : w.ownsRow base 9 1 v m (cellsS P)) : ∃ a c, v = .slice a m c ∧ RowS w a m P := by
  have hml : m = P.length := by have := h.1; simp only [cellsS, List.length_map] at this; omega
  subst hml
  have hl := h.lt
  have hc := fun g => h.cells (g := g)
  rcases h.2 with ⟨hv, h0⟩ | ⟨g, cap, _, hv, _⟩
  · subst hv
    rw [h0]
    exact ⟨none, 0, rfl, h0.symm, fun h => absurd h (by omega)⟩
  · subst hv
    refine ⟨_, _, rfl, rfl, fun _ => ⟨g, 0, rfl, (hl g rfl).2, fun i hi => ?_⟩⟩
    have hx : (cellsS P)[i]? = some (.string (bs (P.getD i []))) := by
      unfold cellsS
      rw [List.getElem?_map, List.getElem?_eq_getElem hi, List.getD_eq_getElem?_getD, List.getElem?_eq_getElem hi]; rfl
    have k1 := hc g rfl _ _ hx
    by_cases h0 : i = 0
    · subst h0; simpa [Addr.add] using k1
    · simpa [Addr.add, h0] using k1
theorem str_info : (Tryd.prog.info? 9).map (fun i => (i.zero, i.size, i.bytes)) = some (some (.string ⟨#[]⟩), 1, 16) := by kernel_rfl
theorem spot_info : (Tryd.prog.info? 46).map (fun i => (i.zero, i.size, i.bytes)) = some (some (.agg #[.string ⟨#[]⟩, .bool false, .bool false]), 3, 24) := by kernel_rfl
end Go.Proofs.YtkkoekfdncoifaaDoor
