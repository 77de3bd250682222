/- What is proved here: the walk of the law AdmitWider. Condition: the tables hold what their initialisers lay. -/
import Derived.Test.YtngehojibcmieaaGreatDoorQK1
import Derived.Test.YtngehojibcmieaaGreatDoorQL9
section
namespace Go.Proofs.YtngehojibcmieaaGreatDoor
open Go.ChangeShapes Go.WideShapes Go.RowKit
theorem raw_cells {w : World} {a : Option Addr} {n : Nat} {L : List TkP} (hr : RowT w a n L) : ∃ V : List TaV, TksIs w V L ∧ V.length = n ∧ (a = none → n = 0) ∧
  ∀ W, Below w.heap.size w W → ∀ ad, a = some ad → ∀ j u, (tkC V)[j]? = some u → W.cell? (ad.add j) = some u := by
 obtain ⟨V, hV, hc⟩ := hr.raw
 have hl : V.length = n := by rw [hV.1, hr.1]
 refine ⟨V, hV, hl, fun e => ?_, fun W hb ad ha j u hj => ?_⟩
 ·rcases Nat.eq_zero_or_pos n with h | h
  ·exact h
  ·obtain ⟨_, _, e2, _⟩ := hr.2 h; rw [e] at e2; cases e2
 ·have hjl : j < V.length * 7 := by rw [← tkC_len]; exact (List.getElem?_eq_some_iff.1 hj).1
  obtain ⟨i, r, hi, h7, rfl⟩ : ∃ i r, i < V.length ∧ r < 7 ∧ j = i * 7 + r := ⟨j / 7, j % 7, by omega, by omega, by omega⟩
  obtain ⟨b, off, e, hlt, hcc⟩ := hc i V[i] (List.getElem?_eq_getElem hi)
  rw [ha, Option.some.injEq] at e
  subst e
  rw [tkC_get V i r hi h7] at hj
  rw [add_plain', ← Nat.add_assoc]
  exact keep_cell hb (hcc r u hj)
structure MidT (W0 W : World) (B g base n cap : Nat) (f : Nat → Value) (xs : List Value) : Prop where
 row : W.rowIs B 26 7 f
 own : W.ownsRow base 59 7 (.slice (some ⟨g, 0, none⟩) n cap) n xs
 bel : Below W0.heap.size W0 W
 ne : B ≠ g
 lb : W0.heap.size ≤ B
 lg : W0.heap.size ≤ g
section
variable {W0 W : World} {B g base n cap : Nat} {f : Nat → Value} {xs : List Value}
theorem MidT.setB (h : MidT W0 W B g base n cap f xs) (j : Nat) (u : Value) : MidT W0 (W.setCell ⟨B, j, none⟩ u) B g base n cap (fun i => if i = j then u else f i) xs :=
 ⟨h.row.set j u, ownsRow_setCell_other h.own (a := ⟨B, j, none⟩) (by show some g ≠ some B; intro e; exact h.ne (Option.some.inj e).symm) u, h.bel.setCell (p := ⟨B, j, none⟩) h.lb u, h.ne, h.lb, h.lg⟩
theorem MidT.setG (h : MidT W0 W B g base n cap f xs) (j : Nat) (u : Value) : MidT W0 (W.setCell ⟨g, j, none⟩ u) B g base n cap f (xs.set j u) :=
 ⟨h.row.setOther h.ne u, (h.own.stored j u).1, h.bel.setCell (p := ⟨g, j, none⟩) h.lg u, h.ne, h.lb, h.lg⟩
end
theorem getD_seven (a b c d e f g : Value) (j : Nat) (u : Value) : (if j = 6 then u else (#[a, b, c, d, e, f, g] : Array Value).getD j undef) = ([a, b, c, d, e, f, u] : List Value).getD j undef ∨ 7 ≤ j := by
 rcases (show j = 0 ∨ j = 1 ∨ j = 2 ∨ j = 3 ∨ j = 4 ∨ j = 5 ∨ j = 6 ∨ 7 ≤ j by omega) with rfl | rfl | rfl | rfl | rfl | rfl | rfl | h
 ·exact Or.inl rfl
 ·exact Or.inl rfl
 ·exact Or.inl rfl
 ·exact Or.inl rfl
 ·exact Or.inl rfl
 ·exact Or.inl rfl
 ·exact Or.inl rfl
 ·exact Or.inr h
theorem copy_row (w w2 : World) (hb : Below w.heap.size w w2) (cs : Array Value) (t e : TypeId) (size : Nat) (h7 : cs.size = 7) :
  ((w2.alloc (.cells cs t)).alloc (.cells #[] e)).rowIs w2.heap.size t 7 (fun j => cs.getD j undef) ∧
  ((w2.alloc (.cells cs t)).alloc (.cells #[] e)).ownsRow (w2.heap.size + 1) e size (.slice (some ⟨w2.heap.size + 1, 0, none⟩) 0 0) 0 [] ∧
  Below w.heap.size w ((w2.alloc (.cells cs t)).alloc (.cells #[] e)) ∧ ((w2.alloc (.cells cs t)).alloc (.cells #[] e)).heap.size = w2.heap.size + 1 + 1 := by
 have hs : (w2.alloc (.cells cs t)).heap.size = w2.heap.size + 1 := by simp
 have h1 := World.rowIs_alloc w2 cs t (fun j => cs.getD j undef) (fun j hj => by simp [hj])
 rw [h7] at h1
 have h2 := World.ownsRow_lit (base := w2.heap.size + 1) (e := e) (size := size) (w2.alloc (.cells cs t)) #[] 0 (by rw [hs]; exact Nat.le_refl _) (by unfold maxLen; omega) (by simp)
 rw [hs] at h2
 exact ⟨h1.alloc _, h2, keep_below hb (keep_below (below_alloc _ _) (below_alloc _ _)), by simp⟩
theorem grown_other {w w' : World} {g B : Nat} (h : w.grownBy w' (some g)) (hB : B < w.heap.size) (hne : B ≠ g) : w'.heap[B]? = w.heap[B]? := h.block B hB (fun e => hne (Option.some.inj e))
theorem mid_of {W0 w2 W w5 : World} {g cap n : Nat} {f : Nat → Value} {xs : List Value} (h1 : W.rowIs w2.heap.size 26 7 f) (h2 : Below W0.heap.size W0 W) (h3 : W.heap.size = w2.heap.size + 1 + 1) (h4 : W0.heap.size ≤ w2.heap.size)
  (hown : w5.ownsRow (w2.heap.size + 1) 59 7 (.slice (some ⟨g, 0, none⟩) (0 + n) cap) (0 + n) ([] ++ xs)) (hgr : W.grownBy w5 (some (w2.heap.size + 1))) : MidT W0 w5 w2.heap.size g (w2.heap.size + 1) n cap f xs := by
 rw [Nat.zero_add, List.nil_append] at hown
 have hgl := hown.lt g rfl
 exact ⟨h1.of_block (grown_other hgr (by omega) (by omega)), hown, h2.grown hgr (by omega) (fun q hq => by cases hq; omega), by omega, h4, by omega⟩
def wdP (mo p : Int) : Int := min 1048576 (IntKind.i64.wrap (p + mo))
theorem wdP_in {mo : Int} (h0 : 0 ≤ mo) (h1 : mo ≤ 255) : ∀ p, 1 ≤ p → p ≤ 1048576 → p ≤ wdP mo p ∧ wdP mo p ≤ 1048576 := fun p hp hq => by
 unfold wdP
 rw [IntWalk.i64_in _ (by omega)]
 omega
def wdV (f : Int → Int) (t : TaV) : TaV := { t with pe := f t.pe }
def upV (f : Int → Int) (V : List TaV) (k : Nat) : List TaV := (V.take k).map (wdV f) ++ V.drop k
theorem upV_all (f : Int → Int) (V : List TaV) : upV f V V.length = V.map (wdV f) := by unfold upV; rw [List.take_length, List.drop_length, List.append_nil]
theorem upV_at {f : Int → Int} {V : List TaV} {k : Nat} {t : TaV} (h : V[k]? = some t) : (upV f V k)[k]? = some t := by
 have hk := (List.getElem?_eq_some_iff.1 h).1
 unfold upV
 have hl : ((V.take k).map (wdV f)).length = k := by rw [List.length_map, List.length_take]; omega
 rw [List.getElem?_append_right (by omega), hl, Nat.sub_self, List.getElem?_drop, Nat.add_zero, h]
theorem upV_succ {f : Int → Int} {V : List TaV} {k : Nat} {t : TaV} (h : V[k]? = some t) : (upV f V k).set k (wdV f t) = upV f V (k + 1) := by
 have hk := (List.getElem?_eq_some_iff.1 h).1
 have hl : ((V.take k).map (wdV f)).length = k := by rw [List.length_map, List.length_take]; omega
 unfold upV
 rw [List.set_append_right _ _ (by omega), hl, Nat.sub_self, take_cons_drop h, List.set_cons_zero, take_cat h, List.map_append, List.append_assoc]; rfl
theorem upC_set {f : Int → Int} {V : List TaV} {k : Nat} {t : TaV} (h : V[k]? = some t) : (tkC (upV f V k)).set (k * 7 + 1) (.int .i64 (f t.pe)) = tkC (upV f V (k + 1)) := by
 have hk := (List.getElem?_eq_some_iff.1 h).1
 have hu := upV_at (f := f) h
 obtain ⟨hk2, e⟩ := List.getElem?_eq_some_iff.1 hu
 rw [tkC_set (upV f V k) k 1 (wdV f t) _ hk2 (by omega) (by rw [e]; rfl), upV_succ h]
theorem wide_is {W : World} {x : ImV} {m : ImP} {V : List TaV} {f : Int → Int} {g cap base : Nat} (h : x.Is W m) (hV : TksIs W V m.tasks)
  (hown : W.ownsRow base 59 7 (.slice (some ⟨g, 0, none⟩) V.length cap) V.length (tkC (V.map (wdV f)))) (hn : m.tasks.length ≤ 100) :
  ImV.Is W { x with tasks := ⟨some ⟨g, 0, none⟩, V.length, cap⟩ } (wdM f m) := by
 obtain ⟨h1, h2, h3, h4, h5, h6, -⟩ := h
 refine ⟨h1, h2, h3, h4, h5, h6, ?_, by show V.length ≤ _; have := hV.1; omega⟩
 obtain ⟨a, c, hv, hm, hr, _⟩ := RowT.own (L := m.tasks.map (wdT f)) hown ⟨by rw [List.length_map, List.length_map]; exact hV.1, fun i t ht => by
  rw [List.getElem?_map] at ht
  obtain ⟨t0, h0, rfl⟩ := Option.map_eq_some_iff.1 ht
  obtain ⟨T, hT, ht2⟩ := hV.2 i t0 h0
  refine ⟨wdT f T, by rw [List.getElem?_map, hT]; rfl, ?_⟩
  obtain ⟨g1, g2, g3, g4, g5, g6, g7⟩ := ht2
  exact ⟨g1, by show f t0.pe = f T.pe; rw [g2], g3, g4, g5, g6, g7⟩⟩
 cases hv
 exact hr
end Go.Proofs.YtngehojibcmieaaGreatDoor
end
