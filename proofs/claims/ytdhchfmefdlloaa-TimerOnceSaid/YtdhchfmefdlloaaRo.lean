/- What is proved here: small facts on memory; how slices of ints, and rows of releases, lie in memory. Conditions: none beyond those each theorem states. -/
import Derived.Test.YtdhchfmefdlloaaProg
import Derived.Test.YtdhchfmefdlloaaTi
import Derived.WalkKit
import Derived.Deep.OwnRows
import Derived.Deep.QuietTactic
import Derived.BigQuiet
import Derived.Lib.Hide
import Derived.Lib.Small
import Derived.Lib.Walk
import Derived.Lib.Builder
import Derived.Deep.LoopGhost
import Derived.WalkSpells
import Derived.Lib.SlFresh
import Derived.Maps.AppendAt
import Derived.OneCell
namespace Go.Proofs.Ytdhchfmefdlloaa
open Go.ChangeShapes Go.WideShapes Go.RowKit

theorem cell_lt {w : World} {p : Addr} {v : Value} (h : w.cell? p = some v) : p.block < w.heap.size := by
  rcases Nat.lt_or_ge p.block w.heap.size with h1 | h1
  · exact h1
  · unfold World.cell? at h
    rw [Array.getElem?_eq_none h1] at h
    simp at h
theorem keep_below {w W w9 : World} (h : Below w.heap.size w W) (hb : Below W.heap.size W w9) : Below w.heap.size w w9 := h.trans (hb.mono h.size)
theorem below_alloc (w : World) (o : Obj) : Below w.heap.size w (w.alloc o) := (Below.refl _ _).alloc (Nat.le_refl _) o
theorem keep_cell {W w9 : World} {p : Addr} {v : Value} (hb : Below W.heap.size W w9) (h : W.cell? p = some v) : w9.cell? p = some v := (hb.cell (cell_lt h)).trans h
theorem keep_frozen {W w9 : World} {p : Addr} {v : Value} (hb : Below W.heap.size W w9) (h : W.cell? p = some v) (hf : W.frozen? p = false) : w9.frozen? p = false := (hb.frozen (cell_lt h)).trans hf
theorem new_block (w : World) (o : Obj) : (w.alloc o).heap[w.heap.size]? = some o := Go.Deep.blk_alloc_new _ _
theorem cells_new (w : World) (cs : Array Value) (t : TypeId) (j : Nat) (v : Value) (h : cs.toList[j]? = some v) : (w.alloc (.cells cs t)).cell? ⟨w.heap.size, j, none⟩ = some v := by
  have := Lib.cell_of_heap (new_block w (.cells cs t)) j
  rw [this]
  simpa using h
theorem take_cons_drop {α : Type} {l : List α} {k : Nat} {x : α} (h : l[k]? = some x) : l.drop k = x :: l.drop (k + 1) := by
  obtain ⟨hk, e⟩ := List.getElem?_eq_some_iff.1 h
  rw [List.drop_eq_getElem_cons hk, e]
theorem take_cat {α : Type} {l : List α} {k : Nat} {x : α} (h : l[k]? = some x) : l.take (k + 1) = l.take k ++ [x] := by
  obtain ⟨hk, e⟩ := List.getElem?_eq_some_iff.1 h
  rw [List.take_succ_eq_append_getElem hk, e]
theorem all_step {α : Type} {f : α → Bool} {l : List α} {k : Nat} {x : α} (h : l[k]? = some x) : (l.drop k).all f = (f x && (l.drop (k + 1)).all f) := by
  rw [take_cons_drop h]; rfl
theorem getD_of {l : List Int} {k : Nat} {x : Int} (h : l[k]? = some x) : l.getD k 0 = x := by rw [List.getD_eq_getElem?_getD, h]; rfl

/-- A slice of ints reads as a list. -/
def Row (w : World) (a : Option Addr) (n : Nat) (l : List Int) : Prop :=
  n = l.length ∧ (0 < n → ∃ b off, a = some ⟨b, off, none⟩ ∧ b < w.heap.size ∧ ∀ i, i < n → w.cell? ⟨b, off + i, none⟩ = some (.int .i64 (l.getD i 0)))
theorem Row.below {w w' : World} {a : Option Addr} {n : Nat} {l : List Int} (h : Row w a n l) (hb : Below w.heap.size w w') : Row w' a n l := by
  refine ⟨h.1, fun hn => ?_⟩
  obtain ⟨b, off, rfl, hlt, hc⟩ := h.2 hn
  exact ⟨b, off, rfl, Nat.lt_of_lt_of_le hlt hb.size, fun i hi => (hb.cell (p := ⟨b, off + i, none⟩) hlt).trans (hc i hi)⟩
theorem Row.item {w : World} {a : Option Addr} {n k : Nat} {l : List Int} (h : Row w a n l) (hk : k < n) : ∃ b off x, a = some ⟨b, off, none⟩ ∧ b < w.heap.size ∧ l[k]? = some x ∧ w.cell? ⟨b, off + k, none⟩ = some (.int .i64 x) := by
  obtain ⟨b, off, e, hlt, hc⟩ := h.2 (by omega)
  have hl : k < l.length := by have := h.1; omega
  refine ⟨b, off, l.getD k 0, e, hlt, ?_, hc k hk⟩
  simp [hl]
theorem Row.nil (w : World) (a : Option Addr) : Row w a 0 [] := ⟨rfl, fun h => absurd h (by omega)⟩
theorem Row.own {w : World} {base : Nat} {v : Value} {m : Nat} {l : List Int} (h : w.ownsRow base 3 1 v m (l.map (Value.int .i64))) : ∃ a n c, v = .slice a n c ∧ Row w a n l := by
  have hml : m = l.length := by have := h.1; simp at this; omega
  subst hml
  have hl := h.lt
  have hc := fun g => h.cells (g := g)
  rcases h.2 with ⟨hv, h0⟩ | ⟨g, cap, _, hv, _⟩
  · subst hv
    exact ⟨none, 0, 0, rfl, by omega, fun h => absurd h (by omega)⟩
  · subst hv
    refine ⟨_, _, _, rfl, rfl, fun _ => ⟨g, 0, rfl, (hl g rfl).2, fun i hi => ?_⟩⟩
    have := hc g rfl i (.int .i64 (l.getD i 0)) (by simp [hi])
    by_cases h0 : i = 0
    · subst h0; simpa [Addr.add] using this
    · simpa [Addr.add, h0] using this
theorem lit_ints (W : World) (cs : Array Value) (l : List Int) (n : Nat) (hn : n = l.length) (h : cs.toList = l.map (Value.int .i64)) (hl : l.length ≤ 1000) : Row (W.alloc (.cells cs 3)) (some ⟨W.heap.size, 0, none⟩) n l := by
  subst hn
  have hs : cs.size = l.length * 1 := by have := congrArg List.length h; simpa using this
  have := World.ownsRow_lit (base := 0) (e := 3) (size := 1) W cs l.length (by omega) (by unfold maxLen; omega) hs
  rw [h] at this
  obtain ⟨a, n, c, hv, hr⟩ := Row.own this
  cases hv
  exact hr
theorem add_plain' (b off j : Nat) : (⟨b, off, none⟩ : Addr).add j = ⟨b, off + j, none⟩ := by
  unfold Addr.add
  split
  · simp
  · rfl
theorem info_parts {i : Option TypeInfo} {z : Value} {s b : Nat} (h : i.map (fun i => (i.zero, i.size, i.bytes)) = some (some z, s, b)) : ∃ j, i = some j ∧ j.zero = some z ∧ j.size = s ∧ j.bytes = b := by
  obtain ⟨j, hj, e⟩ := Option.map_eq_some_iff.1 h
  simp only [Prod.mk.injEq] at e
  exact ⟨j, hj, e.1, e.2.1, e.2.2⟩
theorem own_keep {w w' : World} {base e size : Nat} {v : Value} {m : Nat} {xs : List Value} (h : w.ownsRow base e size v m xs) (hb : Below w.heap.size w w') : w'.ownsRow base e size v m xs :=
  h.kept (row := none) ⟨hb.os, hb.tape, hb.output, hb.size, fun i hi _ => hb.block i hi⟩ (by
    cases h : v.ownBlock with
    | none => exact Or.inl rfl
    | some _ => exact Or.inr (by simp))
theorem int_info : (Try.prog.info? 3).map (fun i => (i.zero, i.size, i.bytes)) = some (some (.int .i64 0), 1, 8) := by kernel_rfl
/-- Releases, one behind the other. -/
def RowP (w : World) (a : Option Addr) (n : Nat) (l : List (Int × Int)) : Prop :=
  n = l.length ∧ (0 < n → ∃ b off, a = some ⟨b, off, none⟩ ∧ b < w.heap.size ∧ ∀ i, i < n → ∃ x, l[i]? = some x ∧ w.cell? ⟨b, off + i * 2, none⟩ = some (.int .i64 x.1) ∧ w.cell? ⟨b, off + i * 2 + 1, none⟩ = some (.int .i64 x.2))
theorem RowP.below {w w' : World} {a : Option Addr} {n : Nat} {l : List (Int × Int)} (h : RowP w a n l) (hb : Below w.heap.size w w') : RowP w' a n l := by
  refine ⟨h.1, fun hn => ?_⟩
  obtain ⟨b, off, e, hlt, hc⟩ := h.2 hn
  refine ⟨b, off, e, Nat.lt_of_lt_of_le hlt hb.size, fun i hi => ?_⟩
  obtain ⟨x, h0, h1, h2⟩ := hc i hi
  exact ⟨x, h0, keep_cell hb h1, keep_cell hb h2⟩
theorem RowP.item {w W : World} {a : Option Addr} {n k : Nat} {l : List (Int × Int)} (h : RowP w a n l) (hb : Below w.heap.size w W) (hk : k < n) :
    ∃ b off x, a = some ⟨b, off, none⟩ ∧ b < w.heap.size ∧ l[k]? = some x ∧ W.cell? ⟨b, off + k * 2, none⟩ = some (.int .i64 x.1) ∧ W.cell? ⟨b, off + k * 2 + 1, none⟩ = some (.int .i64 x.2) := by
  obtain ⟨b, off, e, hlt, hc⟩ := h.2 (by omega)
  obtain ⟨x, h0, h1, h2⟩ := hc k hk
  exact ⟨b, off, x, e, hlt, h0, keep_cell hb h1, keep_cell hb h2⟩
theorem RowP.nil (w : World) (a : Option Addr) : RowP w a 0 [] := ⟨rfl, fun h => absurd h (by omega)⟩
theorem RowP.own {w : World} {base e : Nat} {v : Value} {m : Nat} {l : List (Int × Int)} (h : w.ownsRow base e 2 v m (duC l)) : ∃ a c, v = .slice a m c ∧ m = l.length ∧ RowP w a m l := by
  have hl := h.1
  rw [duC_len] at hl
  have hm : m = l.length := by omega
  rcases h.2 with ⟨h1, h2⟩ | ⟨g, cap, cur, h1, h2, h3, h4⟩
  · subst h2
    exact ⟨none, 0, h1, hm, ⟨hm, fun h => absurd h (by omega)⟩⟩
  · subst h1
    have hlt := h.lt g rfl
    refine ⟨_, cap, rfl, hm, ⟨hm, fun _ => ⟨g, 0, rfl, hlt.2, fun i hi2 => ?_⟩⟩⟩
    have hiv : i < l.length := by omega
    have e0 := duC_at l i 0 _ (List.getElem?_eq_getElem hiv) (by omega)
    have e1 := duC_at l i 1 _ (List.getElem?_eq_getElem hiv) (by omega)
    refine ⟨l[i], List.getElem?_eq_getElem hiv, ?_, ?_⟩
    · rw [show 0 + i * 2 = i * 2 + 0 by omega, h.cellAt (i * 2 + 0) (by omega), e0]; rfl
    · rw [show 0 + i * 2 + 1 = i * 2 + 1 by omega, h.cellAt (i * 2 + 1) (by omega), e1]; rfl
/-- The cells of a row. -/
theorem RowP.raw {w : World} {a : Option Addr} {n : Nat} {l : List (Int × Int)} (h : RowP w a n l) : n = 0 ∨ ∃ b off, a = some ⟨b, off, none⟩ ∧ b < w.heap.size ∧ ∀ j v, (duC l)[j]? = some v → w.cell? ⟨b, off + j, none⟩ = some v := by
  by_cases h0 : 0 < n
  · obtain ⟨b, off, e, hlt, hc⟩ := h.2 h0
    refine Or.inr ⟨b, off, e, hlt, fun j v hj => ?_⟩
    have hj2 : j < l.length * 2 := by rw [← duC_len]; exact (List.getElem?_eq_some_iff.1 hj).1
    obtain ⟨x, hx, h1, h2⟩ := hc (j / 2) (by have := h.1; omega)
    have hd := duC_at l (j / 2) (j % 2) x hx (by omega)
    rw [show j / 2 * 2 + j % 2 = j by omega, hj] at hd
    rcases (show j % 2 = 0 ∨ j % 2 = 1 by omega) with e0 | e0
    · rw [e0] at hd
      have hv : v = .int .i64 x.1 := Option.some.inj hd
      rw [hv, show off + j = off + j / 2 * 2 by omega]
      exact h1
    · rw [e0] at hd
      have hv : v = .int .i64 x.2 := Option.some.inj hd
      rw [hv, show off + j = off + j / 2 * 2 + 1 by omega]
      exact h2
  · exact Or.inl (by omega)
/-- Rows that are read stay while only blocks of F turn. -/
theorem Row.trn {F : Nat → Prop} {w w' : World} {a : Option Addr} {n : Nat} {l : List Int} (h : Row w a n l) (hb : Trn F w w') (hn : 0 < n → ∀ b off, a = some ⟨b, off, none⟩ → ¬ F b) : Row w' a n l := by
  refine ⟨h.1, fun h0 => ?_⟩
  obtain ⟨b, off, e, hlt, hc⟩ := h.2 h0
  exact ⟨b, off, e, Nat.lt_of_lt_of_le hlt hb.size, fun i hi => (World.cell?_of_block (a := ⟨b, off + i, none⟩) (hb.block b hlt (hn h0 b off e))).trans (hc i hi)⟩
theorem RowP.trn {F : Nat → Prop} {w w' : World} {a : Option Addr} {n : Nat} {l : List (Int × Int)} (h : RowP w a n l) (hb : Trn F w w') (hn : 0 < n → ∀ b off, a = some ⟨b, off, none⟩ → ¬ F b) : RowP w' a n l := by
  refine ⟨h.1, fun h0 => ?_⟩
  obtain ⟨b, off, e, hlt, hc⟩ := h.2 h0
  refine ⟨b, off, e, Nat.lt_of_lt_of_le hlt hb.size, fun i hi => ?_⟩
  obtain ⟨x, hx, h1, h2⟩ := hc i hi
  exact ⟨x, hx, (World.cell?_of_block (a := ⟨b, off + i * 2, none⟩) (hb.block b hlt (hn h0 b off e))).trans h1, (World.cell?_of_block (a := ⟨b, off + i * 2 + 1, none⟩) (hb.block b hlt (hn h0 b off e))).trans h2⟩
end Go.Proofs.Ytdhchfmefdlloaa
