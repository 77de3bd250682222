/- What is proved here: how a slice of instructions reads as a list, and the contracts of slices.Equal, op.Same and the document's Same. Conditions: lists are not too long. -/
import Derived.Test.YtkkoekfdncoifaaDoorRight
namespace Go.Proofs.YtkkoekfdncoifaaDoor
open Go.ChangeShapes Go.WideShapes Go.RowKit

/-- A slice of instructions reads as a list. -/
def RowI (w : World) (a : Option Addr) (n : Nat) (L : List (Int × Int × Int)) : Prop :=
  n = L.length ∧ (0 < n → ∃ b off, a = some ⟨b, off, none⟩ ∧ b < w.heap.size ∧ ∀ i, i < n → w.cell? ⟨b, off + i * 3, none⟩ = some (.int .i64 (L.getD i (0, 0, 0)).1) ∧ w.cell? ⟨b, off + i * 3 + 1, none⟩ = some (.int .i64 (L.getD i (0, 0, 0)).2.1) ∧ w.cell? ⟨b, off + i * 3 + 2, none⟩ = some (.int .i64 (L.getD i (0, 0, 0)).2.2))
theorem RowI.below {w w' : World} {a : Option Addr} {n : Nat} {L : List (Int × Int × Int)} (h : RowI w a n L) (hb : Below w.heap.size w w') : RowI w' a n L := by
  refine ⟨h.1, fun hn => ?_⟩
  obtain ⟨b, off, rfl, hlt, hc⟩ := h.2 hn
  refine ⟨b, off, rfl, Nat.lt_of_lt_of_le hlt hb.size, fun i hi => ?_⟩
  obtain ⟨h1, h2, h3⟩ := hc i hi
  exact ⟨(hb.cell (p := ⟨b, off + i * 3, none⟩) hlt).trans h1, (hb.cell (p := ⟨b, off + i * 3 + 1, none⟩) hlt).trans h2, (hb.cell (p := ⟨b, off + i * 3 + 2, none⟩) hlt).trans h3⟩
theorem RowI.nil (w : World) (a : Option Addr) : RowI w a 0 [] := ⟨rfl, fun h => absurd h (by omega)⟩
theorem RowI.at_ {w : World} {a : Option Addr} {n k : Nat} {L : List (Int × Int × Int)} (h : RowI w a n L) (hk : k < n) : ∃ b off o x y, a = some ⟨b, off, none⟩ ∧ b < w.heap.size ∧ L[k]? = some (o, x, y) ∧
    w.cell? ⟨b, off + k * 3, none⟩ = some (.int .i64 o) ∧ w.cell? ⟨b, off + k * 3 + 1, none⟩ = some (.int .i64 x) ∧ w.cell? ⟨b, off + k * 3 + 2, none⟩ = some (.int .i64 y) := by
  obtain ⟨b, off, e, hlt, hc⟩ := h.2 (by omega)
  obtain ⟨h1, h2, h3⟩ := hc k hk
  have hl : k < L.length := by have := h.1; omega
  have hg : L[k]? = some (L.getD k (0, 0, 0)) := by rw [List.getElem?_eq_getElem hl, List.getD_eq_getElem?_getD, List.getElem?_eq_getElem hl]; rfl
  exact ⟨b, off, _, _, _, e, hlt, hg, h1, h2, h3⟩

theorem take_same {α : Type} {L M : List α} {k : Nat} {x : α} (hL : L[k]? = some x) (hM : M[k]? = some x) (h : L.take k = M.take k) : L.take (k + 1) = M.take (k + 1) := by
  rw [List.take_add_one, List.take_add_one, h, hL, hM]

theorem row_ne {L M : List (Int × Int × Int)} {k : Nat} {x y : Int × Int × Int} (hL : L[k]? = some x) (hM : M[k]? = some y) (h : x ≠ y) : decide (L = M) = false := by
  rw [decide_eq_false_iff_not]
  intro e
  rw [e, hM] at hL
  exact h (Option.some.inj hL).symm
theorem row_len {L M : List (Int × Int × Int)} (h : L.length ≠ M.length) : decide (L = M) = false := by
  rw [decide_eq_false_iff_not]
  intro e
  exact h (by rw [e])
end Go.Proofs.YtkkoekfdncoifaaDoor
