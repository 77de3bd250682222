/- What is proved here: several own rows beside one another, and a timer. Conditions: those each theorem states. -/
import Derived.Test.YtdhchfmefdlloaaTx
import Derived.Test.YtdhchfmefdlloaaPo
namespace Go.Proofs.Ytdhchfmefdlloaa
open Go.ChangeShapes Go.WideShapes Go.RowKit Go.Maps

/-- An own row: its element's type, how many cells an element has, its value, how many elements, the cells. -/
structure Rw where
  (e : TypeId) (s : Nat) (v : Value) (n : Nat) (xs : List Value)
/-- Own rows, each in a block of its own, none of them one of F. -/
structure Rws (w : World) (B : Nat) (F : Nat → Prop) (rs : List Rw) : Prop where
  own : ∀ (i : Nat) (r : Rw), rs[i]? = some r → w.ownsRow B r.e r.s r.v r.n r.xs
  apart : ∀ (i j : Nat) (r r' : Rw) (g : Nat), rs[i]? = some r → rs[j]? = some r' → r.v.ownBlock = some g → r'.v.ownBlock = some g → i = j
  off : ∀ (i : Nat) (r : Rw) (g : Nat), rs[i]? = some r → r.v.ownBlock = some g → ¬ F g
section
variable {w w' : World} {B : Nat} {F F' : Nat → Prop} {rs : List Rw}
theorem Rws.kept (h : Rws w B F rs) (hb : ∀ (i : Nat) (r : Rw) (g : Nat), rs[i]? = some r → r.v.ownBlock = some g → w'.heap[g]? = w.heap[g]?) (hF : ∀ g, F' g → F g ∨ w.heap.size ≤ g) : Rws w' B F' rs :=
  ⟨fun i r hi => own_at_block (h.own i r hi) fun g hg => hb i r g hi hg, h.apart, fun i r g hi hg hc => by
    rcases hF g hc with h1 | h1
    · exact h.off i r g hi hg h1
    · have := ((h.own i r hi).lt g hg).2; omega⟩
theorem Rws.below (h : Rws w B F rs) (hb : Below w.heap.size w w') : Rws w' B F rs := h.kept (fun i r g hi hg => hb.block g ((h.own i r hi).lt g hg).2) (fun _ hg => Or.inl hg)
theorem Rws.trn (h : Rws w B F rs) (ht : Trn F w w') (hF : ∀ g, F' g → F g ∨ w.heap.size ≤ g) : Rws w' B F' rs := h.kept (fun i r g hi hg => ht.block g ((h.own i r hi).lt g hg).2 (h.off i r g hi hg)) hF
/-- Row i has grown. -/
theorem Rws.set (h : Rws w B F rs) {i : Nat} {r r' : Rw} (hi : rs[i]? = some r) (hg : w.grownBy w' r.v.ownBlock) (ho : w'.ownsRow B r'.e r'.s r'.v r'.n r'.xs) (hl : r'.v.ownBlock = r.v.ownBlock ∨ r'.v.ownBlock = some w.heap.size) (hF : ∀ g, F g → g < w.heap.size) : Rws w' B F (rs.set i r') := by
  have hil : i < rs.length := (List.getElem?_eq_some_iff.1 hi).1
  have look : ∀ (j : Nat) (q : Rw), (rs.set i r')[j]? = some q → (j = i ∧ q = r') ∨ (j ≠ i ∧ rs[j]? = some q) := fun j q hq => by
    by_cases e : j = i
    · subst e
      rw [List.getElem?_set_self hil] at hq
      exact Or.inl ⟨rfl, (Option.some.inj hq).symm⟩
    · rw [List.getElem?_set_ne (Ne.symm e)] at hq
      exact Or.inr ⟨e, hq⟩
  -- a block of the new row's is no other row's
  have cross : ∀ (j : Nat) (q : Rw) (g : Nat), j ≠ i → rs[j]? = some q → q.v.ownBlock = some g → r'.v.ownBlock = some g → False := fun j q g hj hq h1 h2 => by
    rcases hl with e | e
    · rw [e] at h2
      exact hj (h.apart j i q r g hq hi h1 h2)
    · rw [e] at h2
      cases h2
      exact Nat.lt_irrefl _ ((h.own j q hq).lt _ h1).2
  refine ⟨fun j q hq => ?_, fun j k q q' g hq hq' h1 h2 => ?_, fun j q g hq h1 hc => ?_⟩
  · rcases look j q hq with ⟨rfl, rfl⟩ | ⟨hj, hq⟩
    · exact ho
    · exact own_at_block (h.own j q hq) fun g hg' => hg.block g ((h.own j q hq).lt g hg').2 (fun e => hj (h.apart j i q r g hq hi hg' e.symm))
  · rcases look j q hq with ⟨e1, e2⟩ | ⟨hj, hq2⟩ <;> rcases look k q' hq' with ⟨e3, e4⟩ | ⟨hk, hq3⟩
    · rw [e1, e3]
    · rw [e2] at h1; exact (cross k q' g hk hq3 h2 h1).elim
    · rw [e4] at h2; exact (cross j q g hj hq2 h1 h2).elim
    · exact h.apart j k q q' g hq2 hq3 h1 h2
  · rcases look j q hq with ⟨rfl, rfl⟩ | ⟨hj, hq⟩
    · rcases hl with e | e
      · rw [e] at h1; exact h.off _ r g hi h1 hc
      · rw [e] at h1; cases h1; exact Nat.lt_irrefl _ (hF _ hc)
    · exact h.off j q g hq h1 hc
/-- A row more, that is none yet. -/
theorem Rws.more (h : Rws w B F rs) (e s : Nat) : Rws w B F (rs ++ [⟨e, s, .slice none 0 0, 0, []⟩]) := by
  have look : ∀ (j : Nat) (q : Rw), (rs ++ [(⟨e, s, .slice none 0 0, 0, []⟩ : Rw)])[j]? = some q → rs[j]? = some q ∨ q = ⟨e, s, .slice none 0 0, 0, []⟩ := fun j q hq => by
    by_cases hj : j < rs.length
    · rw [List.getElem?_append_left hj] at hq; exact Or.inl hq
    · rw [List.getElem?_append_right (by omega)] at hq
      exact Or.inr (List.mem_singleton.1 (List.mem_of_getElem? hq))
  refine ⟨fun i r hi => ?_, fun i j r r' g hi hj h1 h2 => ?_, fun i r g hi h1 => ?_⟩
  · rcases look i r hi with h0 | rfl
    · exact h.own i r h0
    · exact World.ownsRow_nil _ _ _ _
  · rcases look i r hi with h0 | rfl
    · rcases look j r' hj with h3 | rfl
      · exact h.apart i j r r' g h0 h3 h1 h2
      · cases h2
    · cases h1
  · rcases look i r hi with h0 | rfl
    · exact h.off i r g h0 h1
    · cases h1
theorem Rws.none (w : World) (B : Nat) (F : Nat → Prop) : Rws w B F [] := ⟨fun i r h => by simp at h, fun i j r r' g h => by simp at h, fun i r g h => by simp at h⟩
theorem Rws.take (h : Rws w B F rs) (k : Nat) : Rws w B F (rs.take k) := by
  have look : ∀ (j : Nat) (q : Rw), (rs.take k)[j]? = some q → rs[j]? = some q := fun j q hq => by
    rw [List.getElem?_take] at hq
    split at hq
    · exact hq
    · cases hq
  exact ⟨fun i r hi => h.own i r (look i r hi), fun i j r r' g hi hj => h.apart i j r r' g (look i r hi) (look j r' hj), fun i r g hi => h.off i r g (look i r hi)⟩
/-- A timer under such a change. -/
theorem Tim.rowed {b : Nat} {pz : List Int} {now : Int} {L : List Wt} {n : Nat} {row : Option Nat} (h : Tim F w b pz now L n) (hg : w.grownBy w' row) (ho : ∀ g, row = some g → ¬ F g) : Tim F w' b pz now L n :=
  h.kept hg.size fun g hF => hg.block g (h.lt g hF) (fun e => ho g e.symm hF)
end
/-- The cells of what was wanted. -/
def wtC (W : List Wt) : List Int := W.flatMap (fun x => [x.1.1, x.1.2, x.2])
theorem wtC_append (a b : List Wt) : wtC (a ++ b) = wtC a ++ wtC b := by simp [wtC]
theorem wtC_len (W : List Wt) : (wtC W).length = 3 * W.length := by
  induction W with
  | nil => rfl
  | cons x r ih => simp only [wtC, List.flatMap_cons, List.length_append, List.length_cons, List.length_nil] at ih ⊢; omega
theorem wtC_at (W : List Wt) (i : Nat) (x : Wt) (h : W[i]? = some x) : (wtC W)[3 * i]? = some x.1.1 ∧ (wtC W)[3 * i + 1]? = some x.1.2 ∧ (wtC W)[3 * i + 2]? = some x.2 := by
  induction W generalizing i with
  | nil => simp at h
  | cons y r ih =>
    have e : wtC (y :: r) = [y.1.1, y.1.2, y.2] ++ wtC r := rfl
    rw [e]
    rcases i with _ | i
    · simp at h
      subst h
      exact ⟨rfl, rfl, rfl⟩
    · have h2 := ih i (by simpa using h)
      rw [show 3 * (i + 1) = 3 * i + 3 by omega, show 3 * i + 3 + 1 = 3 * i + 1 + 3 by omega, show 3 * i + 3 + 2 = 3 * i + 2 + 3 by omega]
      exact h2
end Go.Proofs.Ytdhchfmefdlloaa
