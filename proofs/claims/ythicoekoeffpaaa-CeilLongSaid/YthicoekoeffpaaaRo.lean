/- What is proved here: small facts on memory; how slices of ints and rows of uses of blocks lie in memory. Conditions: none beyond those each theorem states. -/
import Derived.Test.YthicoekoeffpaaaProg
import Derived.Test.YthicoekoeffpaaaCl
import Derived.WalkKit
import Derived.Deep.OwnRows
import Derived.Deep.QuietTactic
import Derived.BigQuiet
import Derived.Lib.Hide
import Derived.Lib.Small
import Derived.Lib.Walk
import Derived.Lib.Builder
import Derived.Deep.LoopGhost
import Derived.WalkSpells
namespace Go.Proofs.Ythicoekoeffpaaa
open Go.ChangeShapes Go.WideShapes Go.RowKit

theorem cell_lt {w : World} {p : Addr} {v : Value} (h : w.cell? p = some v) : p.block < w.heap.size := by
  rcases Nat.lt_or_ge p.block w.heap.size with h1 | h1
  · exact h1
  · unfold World.cell? at h
    rw [Array.getElem?_eq_none h1] at h
    simp at h
theorem keep_below {w W w9 : World} (h : Below w.heap.size w W) (hb : Below W.heap.size W w9) : Below w.heap.size w w9 := h.trans (hb.mono h.size)
theorem below_alloc (w : World) (o : Obj) : Below w.heap.size w (w.alloc o) := (Below.refl _ _).alloc (Nat.le_refl _) o
theorem keep_cell {W w9 : World} {p : Addr} {v : Value} (hb : Below W.heap.size W w9) (h : W.cell? p = some v) : w9.cell? p = some v := (hb.cell (cell_lt h)).trans h
theorem keep_frozen {W w9 : World} {p : Addr} {v : Value} (hb : Below W.heap.size W w9) (h : W.cell? p = some v) (hf : W.frozen? p = false) : w9.frozen? p = false := (hb.frozen (cell_lt h)).trans hf
theorem new_block (w : World) (o : Obj) : (w.alloc o).heap[w.heap.size]? = some o := Go.Deep.blk_alloc_new _ _
theorem cells_new (w : World) (cs : Array Value) (t : TypeId) (j : Nat) (v : Value) (h : cs.toList[j]? = some v) : (w.alloc (.cells cs t)).cell? ⟨w.heap.size, j, none⟩ = some v := by
  have := Lib.cell_of_heap (new_block w (.cells cs t)) j
  rw [this]
  simpa using h
theorem take_cons_drop {α : Type} {l : List α} {k : Nat} {x : α} (h : l[k]? = some x) : l.drop k = x :: l.drop (k + 1) := by
  obtain ⟨hk, e⟩ := List.getElem?_eq_some_iff.1 h
  rw [List.drop_eq_getElem_cons hk, e]
theorem take_cat {α : Type} {l : List α} {k : Nat} {x : α} (h : l[k]? = some x) : l.take (k + 1) = l.take k ++ [x] := by
  obtain ⟨hk, e⟩ := List.getElem?_eq_some_iff.1 h
  rw [List.take_succ_eq_append_getElem hk, e]
theorem all_step {α : Type} {f : α → Bool} {l : List α} {k : Nat} {x : α} (h : l[k]? = some x) : (l.drop k).all f = (f x && (l.drop (k + 1)).all f) := by
  rw [take_cons_drop h]; rfl
theorem getD_of {l : List Int} {k : Nat} {x : Int} (h : l[k]? = some x) : l.getD k 0 = x := by rw [List.getD_eq_getElem?_getD, h]; rfl

/-- A slice of ints reads as a list. -/
def Row (w : World) (a : Option Addr) (n : Nat) (l : List Int) : Prop :=
  n = l.length ∧ (0 < n → ∃ b off, a = some ⟨b, off, none⟩ ∧ b < w.heap.size ∧ ∀ i, i < n → w.cell? ⟨b, off + i, none⟩ = some (.int .i64 (l.getD i 0)))
theorem Row.below {w w' : World} {a : Option Addr} {n : Nat} {l : List Int} (h : Row w a n l) (hb : Below w.heap.size w w') : Row w' a n l := by
  refine ⟨h.1, fun hn => ?_⟩
  obtain ⟨b, off, rfl, hlt, hc⟩ := h.2 hn
  exact ⟨b, off, rfl, Nat.lt_of_lt_of_le hlt hb.size, fun i hi => (hb.cell (p := ⟨b, off + i, none⟩) hlt).trans (hc i hi)⟩
theorem Row.item {w : World} {a : Option Addr} {n k : Nat} {l : List Int} (h : Row w a n l) (hk : k < n) : ∃ b off x, a = some ⟨b, off, none⟩ ∧ b < w.heap.size ∧ l[k]? = some x ∧ w.cell? ⟨b, off + k, none⟩ = some (.int .i64 x) := by
  obtain ⟨b, off, e, hlt, hc⟩ := h.2 (by omega)
  have hl : k < l.length := by have := h.1; omega
  refine ⟨b, off, l.getD k 0, e, hlt, ?_, hc k hk⟩
  simp [hl]
theorem Row.nil (w : World) (a : Option Addr) : Row w a 0 [] := ⟨rfl, fun h => absurd h (by omega)⟩
theorem Row.own {w : World} {base : Nat} {v : Value} {m : Nat} {l : List Int} (h : w.ownsRow base 3 1 v m (l.map (Value.int .i64))) : ∃ a n c, v = .slice a n c ∧ Row w a n l := by
  have hml : m = l.length := by have := h.1; simp at this; omega
  subst hml
  have hl := h.lt
  have hc := fun g => h.cells (g := g)
  rcases h.2 with ⟨hv, h0⟩ | ⟨g, cap, _, hv, _⟩
  · subst hv
    exact ⟨none, 0, 0, rfl, by omega, fun h => absurd h (by omega)⟩
  · subst hv
    refine ⟨_, _, _, rfl, rfl, fun _ => ⟨g, 0, rfl, (hl g rfl).2, fun i hi => ?_⟩⟩
    have := hc g rfl i (.int .i64 (l.getD i 0)) (by simp [hi])
    by_cases h0 : i = 0
    · subst h0; simpa [Addr.add] using this
    · simpa [Addr.add, h0] using this
theorem lit_ints (W : World) (cs : Array Value) (l : List Int) (n : Nat) (hn : n = l.length) (h : cs.toList = l.map (Value.int .i64)) (hl : l.length ≤ 1000) : Row (W.alloc (.cells cs 3)) (some ⟨W.heap.size, 0, none⟩) n l := by
  subst hn
  have hs : cs.size = l.length * 1 := by have := congrArg List.length h; simpa using this
  have := World.ownsRow_lit (base := 0) (e := 3) (size := 1) W cs l.length (by omega) (by unfold maxLen; omega) hs
  rw [h] at this
  obtain ⟨a, n, c, hv, hr⟩ := Row.own this
  cases hv
  exact hr
/-- A slice, and the parts of a use. -/
structure Sl where
  (a : Option Addr) (n c : Nat)
def Sl.v (s : Sl) : Value := .slice s.a s.n s.c
structure UsV where
  (pr : Int) (bl le : Sl)
def UsV.cells (t : UsV) : List Value := [.int .i64 t.pr, t.bl.v, t.le.v]
def SlI (w : World) (s : Sl) (l : List Int) : Prop := Row w s.a s.n l ∧ s.n ≤ 140737488355328
def UsV.Is (w : World) (t : UsV) (u : UsP) : Prop := t.pr = u.pr ∧ SlI w t.bl u.bl ∧ SlI w t.le u.le
/-- A row of uses. -/
def RowU (w : World) (a : Option Addr) (n : Nat) (L : List UsP) : Prop :=
  n = L.length ∧ (0 < n → ∃ b off, a = some ⟨b, off, none⟩ ∧ b < w.heap.size ∧ ∀ i, i < n → ∃ (t : UsV) (u : UsP), L[i]? = some u ∧ t.Is w u ∧ ∀ j v, t.cells[j]? = some v → w.cell? ⟨b, off + i * 3 + j, none⟩ = some v)
theorem SlI.below {w w' : World} {s : Sl} {l : List Int} (h : SlI w s l) (hb : Below w.heap.size w w') : SlI w' s l := ⟨h.1.below hb, h.2⟩
theorem UsV.Is.below {w w' : World} {t : UsV} {u : UsP} (h : t.Is w u) (hb : Below w.heap.size w w') : t.Is w' u := ⟨h.1, h.2.1.below hb, h.2.2.below hb⟩
theorem RowU.below {w w' : World} {a : Option Addr} {n : Nat} {L : List UsP} (h : RowU w a n L) (hb : Below w.heap.size w w') : RowU w' a n L := by
  refine ⟨h.1, fun hn => ?_⟩
  obtain ⟨b, off, e, hlt, hc⟩ := h.2 hn
  refine ⟨b, off, e, Nat.lt_of_lt_of_le hlt hb.size, fun i hi => ?_⟩
  obtain ⟨t, u, h0, h1, h2⟩ := hc i hi
  exact ⟨t, u, h0, h1.below hb, fun j v hj => keep_cell hb (h2 j v hj)⟩
theorem RowU.nil (w : World) (a : Option Addr) : RowU w a 0 [] := ⟨rfl, fun h => absurd h (by omega)⟩
theorem RowU.item {w W : World} {a : Option Addr} {n k : Nat} {L : List UsP} (h : RowU w a n L) (hb : Below w.heap.size w W) (hk : k < n) :
    ∃ b off u xa xn xc la ln lc, a = some ⟨b, off, none⟩ ∧ b < w.heap.size ∧ L[k]? = some u ∧ (Row w xa xn u.bl ∧ xn ≤ 140737488355328) ∧ (Row w la ln u.le ∧ ln ≤ 140737488355328) ∧
      W.cell? ⟨b, off + k * 3, none⟩ = some (.int .i64 u.pr) ∧ W.cell? ⟨b, off + k * 3 + 1, none⟩ = some (.slice xa xn xc) ∧ W.cell? ⟨b, off + k * 3 + 2, none⟩ = some (.slice la ln lc) := by
  obtain ⟨b, off, e, hlt, hc⟩ := h.2 (by omega)
  obtain ⟨t, u, h0, ⟨k1, k2, k3⟩, h2⟩ := hc k hk
  have c1 := keep_cell hb (h2 0 _ rfl)
  rw [k1] at c1
  exact ⟨b, off, u, _, _, _, _, _, _, e, hlt, h0, k2, k3, c1, keep_cell hb (h2 1 _ rfl), keep_cell hb (h2 2 _ rfl)⟩
end Go.Proofs.Ythicoekoeffpaaa
