/- What is proved here: small facts on memory; how rows of tasks' numbers lie in memory, and such rows that a call owns. Conditions: none beyond those each theorem states. -/
import Derived.Test.YtiibbeigkopkeaaNr
import Derived.Test.YtiibbeigkopkeaaRs3
import Derived.Lib.Builder
import Derived.Lib.SlFresh
import Derived.Maps.AppendAt
import Derived.OneCell
namespace Go.Proofs.Ytiibbeigkopkeaa
open Go.ChangeShapes Go.WideShapes Go.RowKit

theorem keep_cell {W w9 : World} {p : Addr} {v : Value} (hb : Below W.heap.size W w9) (h : W.cell? p = some v) : w9.cell? p = some v := (hb.cell (cell_lt h)).trans h
theorem new_block (w : World) (o : Obj) : (w.alloc o).heap[w.heap.size]? = some o := Go.Deep.blk_alloc_new _ _
theorem cells_new (w : World) (cs : Array Value) (t : TypeId) (j : Nat) (v : Value) (h : cs.toList[j]? = some v) : (w.alloc (.cells cs t)).cell? ⟨w.heap.size, j, none⟩ = some v := by
  have := Lib.cell_of_heap (new_block w (.cells cs t)) j
  rw [this]
  simpa using h
theorem take_cons_drop {α : Type} {l : List α} {k : Nat} {x : α} (h : l[k]? = some x) : l.drop k = x :: l.drop (k + 1) := by
  obtain ⟨hk, e⟩ := List.getElem?_eq_some_iff.1 h
  rw [List.drop_eq_getElem_cons hk, e]
theorem take_cat {α : Type} {l : List α} {k : Nat} {x : α} (h : l[k]? = some x) : l.take (k + 1) = l.take k ++ [x] := by
  obtain ⟨hk, e⟩ := List.getElem?_eq_some_iff.1 h
  rw [List.take_succ_eq_append_getElem hk, e]
theorem all_step {α : Type} {f : α → Bool} {l : List α} {k : Nat} {x : α} (h : l[k]? = some x) : (l.drop k).all f = (f x && (l.drop (k + 1)).all f) := by
  rw [take_cons_drop h]; rfl
theorem getD_of {l : List Int} {k : Nat} {x : Int} (h : l[k]? = some x) : l.getD k 0 = x := by rw [List.getD_eq_getElem?_getD, h]; rfl
theorem Row.item {w : World} {a : Option Addr} {n k : Nat} {l : List Int} (h : Row w a n l) (hk : k < n) : ∃ b off x, a = some ⟨b, off, none⟩ ∧ b < w.heap.size ∧ l[k]? = some x ∧ w.cell? ⟨b, off + k, none⟩ = some (.int .i64 x) := by
  obtain ⟨b, off, e, hlt, hc⟩ := h.2 (by omega)
  have hl : k < l.length := by have := h.1; omega
  refine ⟨b, off, l.getD k 0, e, hlt, ?_, hc k hk⟩
  simp [hl]
theorem add_plain' (b off j : Nat) : (⟨b, off, none⟩ : Addr).add j = ⟨b, off + j, none⟩ := by
  unfold Addr.add
  split
  · simp
  · rfl
theorem info_parts {i : Option TypeInfo} {z : Value} {s b : Nat} (h : i.map (fun i => (i.zero, i.size, i.bytes)) = some (some z, s, b)) : ∃ j, i = some j ∧ j.zero = some z ∧ j.size = s ∧ j.bytes = b := by
  obtain ⟨j, hj, e⟩ := Option.map_eq_some_iff.1 h
  simp only [Prod.mk.injEq] at e
  exact ⟨j, hj, e.1, e.2.1, e.2.2⟩
theorem own_keep {w w' : World} {base e size : Nat} {v : Value} {m : Nat} {xs : List Value} (h : w.ownsRow base e size v m xs) (hb : Below w.heap.size w w') : w'.ownsRow base e size v m xs :=
  h.kept (row := none) ⟨hb.os, hb.tape, hb.output, hb.size, fun i hi _ => hb.block i hi⟩ (by
    cases h : v.ownBlock with
    | none => exact Or.inl rfl
    | some _ => exact Or.inr (by simp))
theorem int_info : (Try.prog.info? 3).map (fun i => (i.zero, i.size, i.bytes)) = some (some (.int .i64 0), 1, 8) := by kernel_rfl
/-- A block of cells, beside what was there. -/
def One (w : World) (b : Nat) (cs : List Value) (W : World) : Prop := Below w.heap.size w W ∧ ∀ j v, cs[j]? = some v → W.cell? ⟨b, j, none⟩ = some v
theorem One.keep {w W W' : World} {b : Nat} {cs : List Value} (h : One w b cs W) (hb : Below W.heap.size W W') : One w b cs W' := ⟨keep_below h.1 hb, fun j v hj => keep_cell hb (h.2 j v hj)⟩
theorem One.new (w : World) (cs : Array Value) (t : TypeId) : One w w.heap.size cs.toList (w.alloc (.cells cs t)) := ⟨below_alloc _ _, cells_new w cs t⟩
/-- A row's cells. -/
def rtC (r : RtR) : List Value := [.int .i64 r.C, .int .i64 r.B, .int .i64 r.T, .int .i64 r.D, .int .i64 r.J, .int .i64 r.P]
/-- Rows, one behind the other. -/
def RowS (w : World) (a : Option Addr) (n : Nat) (L : List RtR) : Prop :=
  n = L.length ∧ (0 < n → ∃ b off, a = some ⟨b, off, none⟩ ∧ b < w.heap.size ∧ ∀ i, i < n → ∃ r, L[i]? = some r ∧ ∀ j v, (rtC r)[j]? = some v → w.cell? ⟨b, off + i * 6 + j, none⟩ = some v)
theorem RowS.below {w w' : World} {a : Option Addr} {n : Nat} {L : List RtR} (h : RowS w a n L) (hb : Below w.heap.size w w') : RowS w' a n L := by
  refine ⟨h.1, fun hn => ?_⟩
  obtain ⟨b, off, e, hlt, hc⟩ := h.2 hn
  refine ⟨b, off, e, Nat.lt_of_lt_of_le hlt hb.size, fun i hi => ?_⟩
  obtain ⟨r, h0, h2⟩ := hc i hi
  exact ⟨r, h0, fun j v hj => keep_cell hb (h2 j v hj)⟩
theorem RowS.nil (w : World) (a : Option Addr) : RowS w a 0 [] := ⟨rfl, fun h => absurd h (by omega)⟩
theorem RowS.item {w W : World} {a : Option Addr} {n k : Nat} {L : List RtR} (h : RowS w a n L) (hb : Below w.heap.size w W) (hk : k < n) :
    ∃ b off r, a = some ⟨b, off, none⟩ ∧ b < w.heap.size ∧ L[k]? = some r ∧
      W.cell? ⟨b, off + k * 6, none⟩ = some (.int .i64 r.C) ∧ W.cell? ⟨b, off + k * 6 + 1, none⟩ = some (.int .i64 r.B) ∧ W.cell? ⟨b, off + k * 6 + 2, none⟩ = some (.int .i64 r.T) ∧
      W.cell? ⟨b, off + k * 6 + 3, none⟩ = some (.int .i64 r.D) ∧ W.cell? ⟨b, off + k * 6 + 4, none⟩ = some (.int .i64 r.J) ∧ W.cell? ⟨b, off + k * 6 + 5, none⟩ = some (.int .i64 r.P) := by
  obtain ⟨b, off, e, hlt, hc⟩ := h.2 (by omega)
  obtain ⟨r, h0, h2⟩ := hc k hk
  exact ⟨b, off, r, e, hlt, h0, keep_cell hb (h2 0 _ rfl), keep_cell hb (h2 1 _ rfl), keep_cell hb (h2 2 _ rfl), keep_cell hb (h2 3 _ rfl), keep_cell hb (h2 4 _ rfl), keep_cell hb (h2 5 _ rfl)⟩
/-- Rows' cells, one behind the other. -/
def rsC (L : List RtR) : List Value := L.flatMap rtC
theorem rsC_snoc (L : List RtR) (r : RtR) : rsC (L ++ [r]) = rsC L ++ rtC r := by simp [rsC]
theorem rsC_one (r : RtR) : rsC [r] = rtC r := by simp [rsC]
theorem rsC_len (L : List RtR) : (rsC L).length = L.length * 6 := by
  induction L with
  | nil => rfl
  | cons x l ih => simp only [rsC, List.flatMap_cons, List.length_append, List.length_cons, rtC, List.length_nil] at ih ⊢; omega
theorem rsC_at (L : List RtR) (i j : Nat) (r : RtR) (h : L[i]? = some r) (hj : j < 6) : (rsC L)[i * 6 + j]? = (rtC r)[j]? := by
  induction L generalizing i with
  | nil => simp at h
  | cons x l ih =>
    have e : rsC (x :: l) = rtC x ++ rsC l := rfl
    rw [e]
    rcases i with _ | i
    · simp at h
      subst h
      rw [List.getElem?_append_left (by show 0 * 6 + j < 6; omega)]
      rw [show 0 * 6 + j = j by omega]
    · rw [List.getElem?_append_right (by show 6 ≤ (i + 1) * 6 + j; omega)]
      rw [show (i + 1) * 6 + j - (rtC x).length = i * 6 + j by show (i + 1) * 6 + j - 6 = _; omega]
      exact ih i (by simpa using h)
theorem rtC_cell (r : RtR) : ∀ u ∈ rtC r, u.oneCell' = true := by
  intro u hu
  simp [rtC] at hu
  rcases hu with rfl | rfl | rfl | rfl | rfl | rfl <;> rfl
theorem rsC_cell (L : List RtR) : ∀ u ∈ rsC L, u.oneCell' = true := by
  intro u hu
  unfold rsC at hu
  rw [List.mem_flatMap] at hu
  obtain ⟨r, _, hr⟩ := hu
  exact rtC_cell r u hr
theorem RowS.own {w : World} {base e : Nat} {v : Value} {m : Nat} {L : List RtR} (h : w.ownsRow base e 6 v m (rsC L)) : ∃ a c, v = .slice a m c ∧ m = L.length ∧ RowS w a m L := by
  have hl := h.1
  rw [rsC_len] at hl
  have hm : m = L.length := by omega
  rcases h.2 with ⟨h1, h2⟩ | ⟨g, cap, cur, h1, h2, h3, h4⟩
  · subst h2
    exact ⟨none, 0, h1, hm, ⟨hm, fun h => absurd h (by omega)⟩⟩
  · subst h1
    have hlt := h.lt g rfl
    refine ⟨_, cap, rfl, hm, ⟨hm, fun _ => ⟨g, 0, rfl, hlt.2, fun i hi2 => ?_⟩⟩⟩
    have hiv : i < L.length := by omega
    refine ⟨L[i], List.getElem?_eq_getElem hiv, fun j x hj => ?_⟩
    have hj6 : j < 6 := (List.getElem?_eq_some_iff.1 hj).1
    have := rsC_at L i j _ (List.getElem?_eq_getElem hiv) hj6
    rw [show 0 + i * 6 + j = i * 6 + j by omega, h.cellAt (i * 6 + j) (by omega), this]
    exact hj
/-- The cells of rows that came in. -/
theorem RowS.raw {w : World} {a : Option Addr} {n : Nat} {L : List RtR} (h : RowS w a n L) : n = 0 ∨ ∃ b off, a = some ⟨b, off, none⟩ ∧ b < w.heap.size ∧ ∀ j v, (rsC L)[j]? = some v → w.cell? ⟨b, off + j, none⟩ = some v := by
  by_cases h0 : 0 < n
  · obtain ⟨b, off, e, hlt, hc⟩ := h.2 h0
    refine Or.inr ⟨b, off, e, hlt, fun j v hj => ?_⟩
    have hjl : j < L.length * 6 := by rw [← rsC_len]; exact (List.getElem?_eq_some_iff.1 hj).1
    obtain ⟨i, r, hi, h6, rfl⟩ : ∃ i r, i < L.length ∧ r < 6 ∧ j = i * 6 + r := ⟨j / 6, j % 6, by omega, by omega, by omega⟩
    obtain ⟨x, hx, hcs⟩ := hc i (by rw [h.1]; exact hi)
    rw [rsC_at L i r x hx h6] at hj
    rw [← Nat.add_assoc]
    exact hcs r v hj
  · exact Or.inl (by omega)
/-- Nothing is appended to an own row. -/
theorem run_append_none {P : Program} (w : World) (t ty e : TypeId) (i : TypeInfo) (ht : P.underlying t = some (.slice e)) (hi : P.info? e = some i) (g n cap c : Nat) (hnc : n ≤ cap) :
    (Builtin.append_ #[t, t] ty #[.slice (some ⟨g, 0, none⟩) n cap, .slice none 0 c]).run P w = .ok (.slice (some ⟨g, 0, none⟩) n cap) w := by
  simp [Builtin.append_, run_underlying ht, sizeOf, typeInfo, hi, Builtin.lenOf, hnc, run_firstCells_none, storeCells]
theorem rrow_info : (Try.prog.info? 47).map (fun i => (i.zero, i.size, i.bytes)) = some (some (.agg #[.int .i64 0, .int .i64 0, .int .i64 0, .int .i64 0, .int .i64 0, .int .i64 0]), 6, 48) := by kernel_rfl
theorem row_info : (Try.prog.info? 41).map (fun i => (i.zero, i.size, i.bytes)) = some (some (.agg #[.int .i64 0, .int .i64 0, .int .i64 0, .int .i64 0, .int .i64 0, .int .i64 0]), 6, 48) := by kernel_rfl
end Go.Proofs.Ytiibbeigkopkeaa
