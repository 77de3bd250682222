/- What is proved here: rows of uses that a call makes, with rows of its own in them; plain facts on locks that are twice as long. Conditions: none beyond those each theorem states. -/
import Derived.Test.YthicoekoeffpaaaKw
import Derived.Test.YthicoekoeffpaaaPl
import Derived.Test.YthicoekoeffpaaaRe
import Derived.Test.YthicoekoeffpaaaR3
import Derived.Maps.AppendAt
import Derived.OneCell
namespace Go.Proofs.Ythicoekoeffpaaa
open Go.ChangeShapes Go.WideShapes Go.RowKit Go.Maps

theorem Row.frame {w w' : World} {a : Option Addr} {n : Nat} {l : List Int} (h : Row w a n l) (hs : w.heap.size ≤ w'.heap.size) (hb : 0 < n → ∀ p, a = some p → w'.heap[p.block]? = w.heap[p.block]?) : Row w' a n l := by
  refine ⟨h.1, fun hn => ?_⟩
  obtain ⟨b, off, e, hlt, hc⟩ := h.2 hn
  exact ⟨b, off, e, Nat.lt_of_lt_of_le hlt hs, fun i hi => (World.cell?_of_block (a := ⟨b, off + i, none⟩) (hb hn ⟨b, off, none⟩ e)).trans (hc i hi)⟩
/-- No slice of a use lies in a block. -/
def Off (t : UsV) (g : Option Nat) : Prop := (0 < t.bl.n → ∀ p, t.bl.a = some p → g ≠ some p.block) ∧ (0 < t.le.n → ∀ p, t.le.a = some p → g ≠ some p.block)
theorem row_lt {w : World} {a : Option Addr} {n : Nat} {l : List Int} (h : Row w a n l) (hn : 0 < n) {p : Addr} (hp : a = some p) : p.block < w.heap.size := by
  obtain ⟨b, off, e, hlt, _⟩ := h.2 hn
  rw [hp] at e
  cases e
  exact hlt
/-- A row of uses that a call makes. -/
structure Tw (w2 W : World) (v : Value) (k : Nat) (VV : List UsV) (L : List UsP) : Prop where
  bel : Below w2.heap.size w2 W
  own : W.ownsRow w2.heap.size 37 3 v k (usC VV)
  is : UssIs W VV L
  dis : ∀ t ∈ VV, Off t v.ownBlock
theorem Tw.nil (w2 : World) : Tw w2 w2 (.slice none 0 0) 0 [] [] := ⟨Below.refl _ _, World.ownsRow_nil _ _ _ _, UssIs.nil _, fun t h => by simp at h⟩
theorem Tw.keep {w2 W W' : World} {v : Value} {k : Nat} {VV : List UsV} {L : List UsP} (h : Tw w2 W v k VV L) (hb : Below W.heap.size W W') : Tw w2 W' v k VV L :=
  ⟨keep_below h.bel hb, own_keep h.own hb, h.is.below hb, h.dis⟩
theorem Tw.step {w2 W W' : World} {v v' : Value} {k : Nat} {VV : List UsV} {L : List UsP} {t : UsV} {u : UsP} (h : Tw w2 W v k VV L) (hown : W'.ownsRow w2.heap.size 37 3 v' (k + 1) (usC VV ++ t.cells)) (hg : W.grownBy W' v.ownBlock)
    (hat : v'.ownBlock = v.ownBlock ∨ v'.ownBlock = some W.heap.size) (ht : t.Is W u) (hd : Off t v.ownBlock) : Tw w2 W' v' (k + 1) (VV ++ [t]) (L ++ [u]) := by
  have rows : ∀ t u, t.Is W u → Off t v.ownBlock → t.Is W' u ∧ Off t v'.ownBlock := by
    intro t u ht hd
    obtain ⟨h1, ⟨h2, h2m⟩, ⟨h3, h3m⟩⟩ := ht
    have fr : ∀ {a : Option Addr} {n : Nat} {l : List Int}, Row W a n l → (0 < n → ∀ p, a = some p → v.ownBlock ≠ some p.block) → Row W' a n l ∧ (0 < n → ∀ p, a = some p → v'.ownBlock ≠ some p.block) := by
      intro a n l hr hof
      refine ⟨hr.frame hg.size fun hn p hp => hg.block p.block (row_lt hr hn hp) (fun e => hof hn p hp e.symm), fun hn p hp e => ?_⟩
      rcases hat with e2 | e2
      · rw [e2] at e; exact hof hn p hp e
      · rw [e2] at e
        have := row_lt hr hn hp
        have := Option.some.inj e
        omega
    exact ⟨⟨h1, ⟨(fr h2 hd.1).1, h2m⟩, ⟨(fr h3 hd.2).1, h3m⟩⟩, (fr h2 hd.1).2, (fr h3 hd.2).2⟩
  refine ⟨h.bel.grown hg h.bel.size (fun g hg => (h.own.lt g hg).1), by rw [usC_snoc]; exact hown, ?_, ?_⟩
  · have h1 : UssIs W' VV L := ⟨h.is.1, fun i t' hi => by
      obtain ⟨u', k1, k2⟩ := h.is.2 i t' hi
      exact ⟨u', k1, (rows t' u' k2 (h.dis t' (List.mem_of_getElem? hi))).1⟩⟩
    exact h1.snoc (rows t u ht hd).1
  · intro t' ht'
    rcases List.mem_append.1 ht' with h1 | h1
    · obtain ⟨i, hi, rfl⟩ := List.getElem_of_mem h1
      obtain ⟨u', k1, k2⟩ := h.is.2 i _ (List.getElem?_eq_getElem hi)
      exact (rows _ u' k2 (h.dis _ h1)).2
    · simp at h1; subst h1; exact (rows t' u ht hd).2
/-- A use under way, with its locks' row. -/
structure Inn (W0 W : World) (bu : Nat) (pr : Int) (s : Sl) (lv : Value) (q : Nat) (ys : List Int) : Prop where
  bel : Below W0.heap.size W0 W
  row : W.rowIs bu 37 3 (fun j => ([.int .i64 pr, s.v, lv] : List Value).getD j undef)
  own : W.ownsRow (bu + 1) 3 1 lv q (ys.map (Value.int .i64))
  ge : W0.heap.size ≤ bu
section
variable {W0 W W' : World} {bu q : Nat} {pr y : Int} {s : Sl} {lv lv' : Value} {ys : List Int}
theorem Inn.alloc (h : Inn W0 W bu pr s lv q ys) (o : Obj) : Inn W0 (W.alloc o) bu pr s lv q ys := ⟨h.bel.alloc h.bel.size o, h.row.alloc o, h.own.alloc o, h.ge⟩
theorem Inn.keep (h : Inn W0 W bu pr s lv q ys) (hb : Below W.heap.size W W') : Inn W0 W' bu pr s lv q ys := ⟨keep_below h.bel hb, rowIs_below h.row hb, own_keep h.own hb, h.ge⟩
theorem Inn.cell (h : Inn W0 W bu pr s lv q ys) (j : Nat) (v : Value) (hj : ([.int .i64 pr, s.v, lv] : List Value)[j]? = some v) : W.cell? ⟨bu, j, none⟩ = some v := by
  have h3 : j < 3 := (List.getElem?_eq_some_iff.1 hj).1
  rw [h.row.cell h3, List.getD_eq_getElem?_getD, hj]; rfl
end
/-- The same behind the append, ahead of the store. -/
structure Mid (W0 W : World) (bu : Nat) (pr : Int) (s : Sl) (lv lv' : Value) (q : Nat) (ys : List Int) : Prop where
  bel : Below W0.heap.size W0 W
  row : W.rowIs bu 37 3 (fun j => ([.int .i64 pr, s.v, lv] : List Value).getD j undef)
  own : W.ownsRow (bu + 1) 3 1 lv' q (ys.map (Value.int .i64))
  ge : W0.heap.size ≤ bu
theorem Inn.step {W0 W W' : World} {bu q : Nat} {pr y : Int} {s : Sl} {lv lv' : Value} {ys : List Int} (h : Inn W0 W bu pr s lv q ys) (hown : W'.ownsRow (bu + 1) 3 1 lv' (q + 1) (ys.map (Value.int .i64) ++ [.int .i64 y])) (hg : W.grownBy W' lv.ownBlock) :
    Mid W0 W' bu pr s lv lv' (q + 1) (ys ++ [y]) := by
  have hb := h.row.lt
  refine ⟨h.bel.grown hg h.bel.size (fun g e => by have := (h.own.lt g e).1; have := h.ge; omega), h.row.of_block (hg.block _ hb (fun e => by have := (h.own.lt _ e.symm).1; omega)), by rw [List.map_append]; exact hown, h.ge⟩
theorem Mid.cell {W0 W : World} {bu q : Nat} {pr : Int} {s : Sl} {lv lv' : Value} {ys : List Int} (h : Mid W0 W bu pr s lv lv' q ys) (j : Nat) (v : Value) (hj : ([.int .i64 pr, s.v, lv] : List Value)[j]? = some v) : W.cell? ⟨bu, j, none⟩ = some v := by
  have h3 : j < 3 := (List.getElem?_eq_some_iff.1 hj).1
  rw [h.row.cell h3, List.getD_eq_getElem?_getD, hj]; rfl
theorem Mid.store {W0 W : World} {bu q : Nat} {pr : Int} {s : Sl} {lv lv' : Value} {ys : List Int} (h : Mid W0 W bu pr s lv lv' q ys) : Inn W0 (W.setCell ⟨bu, 2, none⟩ lv') bu pr s lv' q ys :=
  ⟨h.bel.setCell (p := ⟨bu, 2, none⟩) h.ge _, (h.row.set 2 lv').congr (fun j hj => by
    rcases (show j = 0 ∨ j = 1 ∨ j = 2 by omega) with rfl | rfl | rfl <;> rfl), ownsRow_setCell_other h.own (a := ⟨bu, 2, none⟩) (fun e => by have := (h.own.lt _ e).1; show False; have h9 : bu + 1 ≤ bu := this; omega) lv', h.ge⟩
/-- A use that is laid into a new block. -/
theorem stored_new {W0 V : World} {pr : Int} {xa : Option Addr} {xn xc : Nat} (hb : Below W0.heap.size W0 V) (hr : V.rowIs W0.heap.size 37 3 (fun j => ([.int .i64 0, .slice none 0 0, .slice none 0 0] : List Value).getD j undef)) :
    Inn W0 (((V.setCell ⟨W0.heap.size, 0, none⟩ (.int .i64 pr)).setCell ⟨W0.heap.size, 1, none⟩ (.slice xa xn xc)).setCell ⟨W0.heap.size, 2, none⟩ (.slice none 0 0)) W0.heap.size pr ⟨xa, xn, xc⟩ (.slice none 0 0) 0 [] := by
  refine ⟨((hb.setCell (p := ⟨W0.heap.size, 0, none⟩) (Nat.le_refl _) _).setCell (p := ⟨W0.heap.size, 1, none⟩) (Nat.le_refl _) _).setCell (p := ⟨W0.heap.size, 2, none⟩) (Nat.le_refl _) _, (((hr.set 0 _).set 1 _).set 2 _).congr (fun j hj => ?_), World.ownsRow_nil _ _ _ _, Nat.le_refl _⟩
  rcases (show j = 0 ∨ j = 1 ∨ j = 2 by omega) with rfl | rfl | rfl <;> rfl
/-- A row of ints that a call owns, as a slice. -/
theorem own_slice {W : World} {base q : Nat} {lv : Value} {ys : List Int} (h : W.ownsRow base 3 1 lv q (ys.map (Value.int .i64))) : ∃ a n c, lv = .slice a n c ∧ Row W a n ys ∧ n = q ∧ ∀ p, a = some p → lv.ownBlock = some p.block ∧ base ≤ p.block := by
  obtain ⟨a, n, c, e, hr⟩ := Row.own h
  have hl := h.lt
  rcases h.2 with ⟨e2, h0⟩ | ⟨g, cap, cur, e2, _⟩
  · rw [e] at e2
    cases e2
    exact ⟨none, 0, 0, e, hr, h0.symm, fun p hp => by cases hp⟩
  · rw [e] at e2
    cases e2
    have e3 : lv.ownBlock = some g := by rw [e]; rfl
    exact ⟨some ⟨g, 0, none⟩, q, c, e, hr, rfl, fun p hp => by cases hp; exact ⟨e3, (hl g e3).1⟩⟩
theorem twL_at {L : List UsP} {k : Nat} {u : UsP} (h : L[k]? = some u) : (L.take (k + 1)).map twU = (L.take k).map twU ++ [twU u] := by rw [take_cat h, List.map_append]; rfl
theorem waits_twice {L : List UsP} {i : Nat} {x y : Int} (hx : (waitL (L.map twU))[i]? = some x) (hy : (waitL L)[i]? = some y) : x = 2 * y := by
  unfold waitL at hx hy
  rw [List.map_map, List.getElem?_map] at hx
  rw [List.getElem?_map] at hy
  obtain ⟨v, hv, rfl⟩ := Option.map_eq_some_iff.1 hx
  obtain ⟨v', hv', rfl⟩ := Option.map_eq_some_iff.1 hy
  rw [hv] at hv'
  obtain rfl := Option.some.inj hv'
  exact waB_twice L _
theorem waits_most {L : List UsP} {i : Nat} {y M : Int} (h0 : 0 ≤ M) (hM : ∀ u ∈ L, ∀ x ∈ u.le, x ≤ M) (hy : (waitL L)[i]? = some y) : y ≤ M := by
  unfold waitL at hy
  rw [List.getElem?_map] at hy
  obtain ⟨v', _, rfl⟩ := Option.map_eq_some_iff.1 hy
  exact waB_le h0 hM
theorem okL_none {B : Int} {L : List UsP} (h : okL B L = true) (h2 : okL B (L.map twU) = false) : L ≠ [] := by
  intro e
  subst e
  rw [List.map_nil, h] at h2
  cases h2
end Go.Proofs.Ythicoekoeffpaaa
