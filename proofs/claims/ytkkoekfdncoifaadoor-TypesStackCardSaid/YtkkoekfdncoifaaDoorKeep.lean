/- What is proved here: small facts on memory that a call leaves as it was. Conditions: none beyond those each theorem states. -/
import Derived.Test.YtkkoekfdncoifaaDoorOp
import Derived.Deep.OwnRows
namespace Go.Proofs.YtkkoekfdncoifaaDoor
open Go.ChangeShapes Go.WideShapes Go.RowKit
theorem cell_lt {w : World} {p : Addr} {v : Value} (h : w.cell? p = some v) : p.block < w.heap.size := by
  rcases Nat.lt_or_ge p.block w.heap.size with h1 | h1
  · exact h1
  · unfold World.cell? at h
    rw [Array.getElem?_eq_none h1] at h
    simp at h
theorem keep_below {w W w9 : World} (h : Below w.heap.size w W) (hb : Below W.heap.size W w9) : Below w.heap.size w w9 := h.trans (hb.mono h.size)
theorem below_alloc (w : World) (o : Obj) : Below w.heap.size w (w.alloc o) := (Below.refl _ _).alloc (Nat.le_refl _) o
theorem keep_cell {W w9 : World} {p : Addr} {v : Value} (hb : Below W.heap.size W w9) (h : W.cell? p = some v) : w9.cell? p = some v := (hb.cell (cell_lt h)).trans h
theorem keep_frozen {W w9 : World} {p : Addr} {v : Value} (hb : Below W.heap.size W w9) (h : W.cell? p = some v) (hf : W.frozen? p = false) : w9.frozen? p = false := (hb.frozen (cell_lt h)).trans hf
theorem new_block (w : World) (o : Obj) : (w.alloc o).heap[w.heap.size]? = some o := Go.Deep.blk_alloc_new _ _
end Go.Proofs.YtkkoekfdncoifaaDoor
