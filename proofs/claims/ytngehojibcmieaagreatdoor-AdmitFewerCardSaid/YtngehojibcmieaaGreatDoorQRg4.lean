/- What is proved here: a law for a region whose operations may come in any order, some of which change memory, one behind the other; what is told of the values may hang on what came before. Conditions: those the theorem states. -/
import Derived.Test.YtngehojibcmieaaGreatDoorQE3
section
namespace Go.Proofs.YtngehojibcmieaaGreatDoor
open Go.ChangeShapes Go.WideShapes Go.RowKit
open Kd (unlB unlB_set listed_of listed_true getD_set_ne getD_set_same eval_put_other eval_put_same size_put defs_put wpAny_inv2)
def reach (dep : Nat → List Nat) : Nat → Nat → Nat → Bool
 | 0, _, _ => false
 | n + 1, i, k => (dep k).any fun d => d == i || reach dep n i d
structure RegG {θ : Type} (T N p : Nat) (mv dst : Nat → Nat) (dep : Nat → List Nat) (ok : θ → Nat → Value → Prop) (S : Nat → θ → World → Prop) (a0 : Act) (listed : Array Bool) (a : Act) (w : World) : Prop where
 size : a.tmps.size = T
 defs : a.defers = a0.defers
 lsz : listed.size = N
 oth : ∀ k, (∀ i, i < N → dst i ≠ k) → a.eval (.tmp k) = a0.eval (.tmp k)
 cl : ∀ i, i < N → listed.getD i true = true → ∀ j ∈ dep i, listed.getD j true = true
 ph : ∃ j s, j ≤ p ∧ (∀ t, t < p → (listed.getD (mv t) true = true ↔ t < j)) ∧ S j s w ∧ ∀ i, i < N → listed.getD i true = true → ok s i (a.eval (.tmp (dst i)))
theorem eval_far {a : Act} {k : Nat} (h : a.tmps.size ≤ k) : a.eval (.tmp k) = undef := by
 unfold Act.eval
 simp [h]
theorem region_gh {θ : Type} {P : Program} {id : Nat} {ops : Array Oper} {Q : Exit → Act → World → Prop} {a : Act} {w : World} (T N p : Nat) (mv dst : Nat → Nat) (dep : Nat → List Nat) (ok : θ → Nat → Value → Prop) (S : Nat → θ → World → Prop) (s0 : θ)
  (hm : P.follows .mixedOrders = true) (hn : ops.size = N) (hinj : ∀ i j, i < N → j < N → dst i = dst j → i = j) (hT : a.tmps.size = T)
  (hmvi : ∀ s t, s < p → t < p → mv s = mv t → s = t) (hmvN : ∀ t, t < p → mv t < N) (hmvd : ∀ t, t + 1 < p → mv t ∈ dep (mv (t + 1)))
  (hg : ∀ (i : Nat) o, ops[i]? = some o → ((o.dst = some (dst i) ∧ dst i < T) ∨ (o.dst = none ∧ T ≤ dst i ∧ ∀ s v v', ok s i v → ok s i v')) ∧ o.guard = none ∧ (∀ d ∈ dep i, d < i ∧ ∃ e ∈ o.after, e.on = d ∧ Region.binds .any e = true) ∧ ∀ e ∈ o.after, Region.binds .any e = true → e.on < i)
  (hx : ∀ (i : Nat) o j s, ops[i]? = some o → ∀ (a' : Act) W, j ≤ p → S j s W → (∀ k, (∀ i, i < N → dst i ≠ k) → a'.eval (.tmp k) = a.eval (.tmp k)) → (∀ d ∈ dep i, ok s d (a'.eval (.tmp (dst d)))) → (∀ n t, t < p → reach dep n i (mv t) = true → j ≤ t) →
   ((∀ t, t < p → mv t ≠ i) ∧ (∃ u, (execOp a'.eval o).run P W = .ok (.value u) W ∧ ok s i u)) ∨
   ((∀ t, t < p → mv t = i → t = j → ∀ K : Act → World → Prop, (∀ v' W' s', ok s' i v' → (∀ k v, ok s k v → ok s' k v) → S (j + 1) s' W' → K (a'.put o.dst v') W') → o.wp P a' W K Q) ∧ ∃ t, t < p ∧ mv t = i))
  (hS : S 0 s0 w.drew)
  (hQ : ∀ a' w' s, a'.tmps.size = T → a'.defers = a.defers → (∀ k, (∀ i, i < N → dst i ≠ k) → a'.eval (.tmp k) = a.eval (.tmp k)) → (∀ i, i < N → ok s i (a'.eval (.tmp (dst i)))) → S p s w' → Q .normal a' w') :
  (Code.region id ops true).wp P Q a w := by
 have low : ∀ (listed : Array Bool) (i k : Nat), listed.getD k true = true → (listed.setIfInBounds i true).getD k true = true := by
  intro listed i k hk
  by_cases e : k = i
  ·subst e; exact getD_set_same
  ·rw [getD_set_ne true (Ne.symm e)]; exact hk
 refine wp_region_any hm (wpAny_inv2 (I := RegG T N p mv dst dep ok S a) ?_ ?_ ?_ ops.size _ a _ (by simp) ?_ ?_)
 ·intro i o ho e he
  exact (hg i o ho).2.2.2 e he
 ·intro listed a' w' hall h
  obtain ⟨j, s, hj, hph, hs, hv⟩ := h.ph
  have hjp : j = p := by
   rcases Nat.lt_or_ge j p with h1 | h1
   ·have := (hph j h1).1 (hall _); omega
   ·omega
  subst hjp
  exact hQ a' w' s h.size h.defs h.oth (fun i hi => hv i hi (hall i)) hs
 ·intro listed a' w' i o ho hl hdeps h
  obtain ⟨g1, g2, g3, g4⟩ := hg i o ho
  have hi : i < N := by have := (Array.getElem?_eq_some_iff.1 ho).1; omega
  have hwant : Region.wanted o (yielded ops a'.tmps) = true := by unfold Region.wanted; rw [g2]
  rw [if_pos hwant]
  have hdl2 : ∀ j ∈ dep i, listed.getD j true = true := by
   intro j hj
   obtain ⟨_, e, he, h1, h2⟩ := g3 j hj
   rw [← h1]; exact listed_true (hdeps e he h2)
  have hdl3 : ∀ j ∈ dep i, j < i := fun j hj => (g3 j hj).1
  obtain ⟨j, s, hj, hph, hs, hv⟩ := h.ph
  have hcl : ∀ k, k < N → (listed.setIfInBounds i true).getD k true = true → ∀ j ∈ dep k, (listed.setIfInBounds i true).getD j true = true := by
   intro k hk hkl d hd
   by_cases e : k = i
   ·subst e; exact low _ _ d (hdl2 d hd)
   ·exact low _ _ d (h.cl k hk (listed_of hkl e) d hd)
  have hsz : (listed.setIfInBounds i true).size = N := by simpa using h.lsz
  have hd : ∀ d ∈ dep i, ok s d (a'.eval (.tmp (dst d))) := fun d hd => hv d (by have := hdl3 d hd; omega) (hdl2 d hd)
  have hput : ∀ v s', ok s' i v → (∀ k v, ok s k v → ok s' k v) → (a'.put o.dst v).tmps.size = T ∧ (a'.put o.dst v).defers = a.defers ∧ (∀ k, (∀ i, i < N → dst i ≠ k) → (a'.put o.dst v).eval (.tmp k) = a.eval (.tmp k)) ∧
    ∀ k, k < N → (listed.setIfInBounds i true).getD k true = true → ok s' k ((a'.put o.dst v).eval (.tmp (dst k))) := by
   intro v s' h1 h2
   refine ⟨by rw [size_put]; exact h.size, by rw [defs_put]; exact h.defs, ?_, ?_⟩
   ·intro k hk
    rcases g1 with ⟨e, _⟩ | ⟨e, _⟩
    ·rw [e, eval_put_other _ (hk i hi)]; exact h.oth k hk
    ·rw [e]; exact h.oth k hk
   ·intro k hk hkl
    by_cases e : k = i
    ·subst e
     rcases g1 with ⟨e, e2⟩ | ⟨e, _, e3⟩
     ·rw [e, eval_put_same _ (by rw [h.size]; exact e2)]; exact h1
     ·exact e3 _ _ _ h1
    ·rcases g1 with ⟨e1, e2⟩ | ⟨e1, _⟩
     ·rw [e1, eval_put_other _ (fun e3 => e (hinj i k hi hk e3).symm)]; exact h2 _ _ (hv k hk (listed_of hkl e))
     ·rw [e1]; exact h2 _ _ (hv k hk (listed_of hkl e))
  have hrl : ∀ n k, k < N → listed.getD k true = true → reach dep n i k = true → listed.getD i true = true := by
   intro n
   induction n with
   | zero => intro k _ _ h; cases h
   | succ n ih =>
    intro k hk hkl hr
    unfold reach at hr
    rw [List.any_eq_true] at hr
    obtain ⟨d, hd, hr⟩ := hr
    have hdl := h.cl k hk hkl d hd
    obtain ⟨ok', hok'⟩ : ∃ o, ops[k]? = some o := ⟨ops[k]'(by omega), by simp [hn, hk]⟩
    have hdk := ((hg k ok' hok').2.2.1 d hd).1
    rw [Bool.or_eq_true] at hr
    rcases hr with hr | hr
    ·have e : d = i := by simpa using hr
     rw [← e]; exact hdl
    ·exact ih d (by omega) hdl hr
  have hfr : ∀ n t, t < p → reach dep n i (mv t) = true → j ≤ t := by
   intro n t ht hid
   rcases Nat.lt_or_ge t j with h1 | h1
   ·have := hrl n (mv t) (hmvN t ht) ((hph t ht).2 h1) hid
    rw [hl] at this; cases this
   ·exact h1
  rcases hx i o j s ho a' w' hj hs h.oth hd hfr with ⟨hq, u, e1, e2⟩ | ⟨hmv, t, htp, hti⟩
  ·unfold Oper.wp
   rw [e1]
   obtain ⟨p1, p2, p3, p4⟩ := hput u s e2 (fun _ _ h => h)
   exact ⟨p1, p2, hsz, p3, hcl, j, s, hj, fun t ht => by rw [getD_set_ne true (Ne.symm (hq t ht))]; exact hph t ht, hs, p4⟩
  ·have htj : t = j := by
    subst hti
    have h1 : ¬ t < j := fun h1 => by have := (hph t htp).2 h1; rw [hl] at this; cases this
    by_cases e : t = 0
    ·omega
    ·obtain ⟨s, rfl⟩ : ∃ s, t = s + 1 := ⟨t - 1, by omega⟩
     have := (hph s (by omega)).1 (hdl2 _ (hmvd s htp))
     omega
   refine hmv t htp hti htj _ fun v' W' s' h1 h2 h3 => ?_
   obtain ⟨p1, p2, p3, p4⟩ := hput v' s' h1 h2
   refine ⟨p1, p2, hsz, p3, hcl, j + 1, s', by omega, fun q hqp => ?_, h3, p4⟩
   by_cases e : q = t
   ·subst e; rw [← hti]; exact ⟨fun _ => by omega, fun _ => getD_set_same⟩
   ·rw [getD_set_ne true (fun e2 => e (hmvi q t hqp htp (by rw [hti]; exact e2.symm))), hph q hqp]; omega
 ·unfold unlB
  have := List.countP_le_length (p := fun x => !x) (l := (Array.replicate ops.size false).toList)
  simpa using this
 ·have hf : ∀ i, i < N → (Array.replicate ops.size false).getD i true = false := by
   intro i hi; simp [hn, hi]
  refine ⟨hT, rfl, by simp [hn], fun _ _ => rfl, ?_, 0, s0, Nat.zero_le _, ?_, hS, ?_⟩
  ·intro i hi hl; rw [hf i hi] at hl; cases hl
  ·intro t ht; rw [hf _ (hmvN t ht)]; simp
  ·intro i hi hl; rw [hf i hi] at hl; cases hl
end Go.Proofs.YtngehojibcmieaaGreatDoor
end
