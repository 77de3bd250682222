/- What is proved here: a law for a region whose operations may come in any order: those that change memory come one behind the other, the last one behind all. Conditions: those the theorem states. -/
import Derived.Test.YtdhchfmefdlloaaDl
namespace Go.Proofs.Ytdhchfmefdlloaa
open Go.ChangeShapes Go.WideShapes Go.RowKit

structure RegC (T N p : Nat) (mv dst : Nat → Nat) (dep : Nat → List Nat) (ok : Nat → Value → Prop) (S : Nat → Value → World → Prop) (a0 : Act) (listed : Array Bool) (a : Act) (w : World) : Prop where
  size : a.tmps.size = T
  defs : a.defers = a0.defers
  lsz : listed.size = N + 1
  vals : ∀ i, i ≤ N → (∀ t, t < p → mv t ≠ i) → listed.getD i true = true → ok i (a.eval (.tmp (dst i)))
  oth : ∀ k, (∀ i, i ≤ N → dst i ≠ k) → a.eval (.tmp k) = a0.eval (.tmp k)
  cl : ∀ i, i ≤ N → listed.getD i true = true → ∀ j ∈ dep i, listed.getD j true = true
  dn : listed.getD N true = true → ∀ i, i ≤ N → listed.getD i true = true
  pre : listed.getD N true = false → a.eval (.tmp (dst N)) = a0.eval (.tmp (dst N))
  ph : ∃ j, j ≤ p ∧ (∀ t, t < p → (listed.getD (mv t) true = true ↔ t < j)) ∧ S j (if j = 0 then undef else a.eval (.tmp (dst (mv (j - 1))))) w
theorem region_chain {P : Program} {id : Nat} {ops : Array Oper} {Q : Exit → Act → World → Prop} {a : Act} {w : World} (T N p : Nat) (mv dst : Nat → Nat) (dep : Nat → List Nat) (ok : Nat → Value → Prop) (S : Nat → Value → World → Prop)
    (hm : P.follows .mixedOrders = true) (hn : ops.size = N + 1) (hinj : ∀ i j, i ≤ N → j ≤ N → dst i = dst j → i = j) (hT : a.tmps.size = T)
    (hp : 0 < p) (hlast : mv (p - 1) = N) (hmvi : ∀ s t, s < p → t < p → mv s = mv t → s = t) (hmvN : ∀ t, t < p → mv t ≤ N) (hmvd : ∀ t, t + 1 < p → mv t ∈ dep (mv (t + 1)))
    (hg : ∀ (i : Nat) o, ops[i]? = some o → ((o.dst = some (dst i) ∧ dst i < T) ∨ (o.dst = none ∧ i = N ∧ ∀ v v' W, S p v W → S p v' W)) ∧ o.guard = none ∧ (∀ d ∈ dep i, d < i ∧ ∃ e ∈ o.after, e.on = d ∧ Region.binds .any e = true) ∧ ∀ e ∈ o.after, Region.binds .any e = true → e.on < i)
    (hup : ∀ i, i < N → ∃ j, j ≤ N ∧ i < j ∧ i ∈ dep j)
    (hx : ∀ (i : Nat) o, i ≤ N → (∀ t, t < p → mv t ≠ i) → ops[i]? = some o → ∀ (a' : Act) W j v, j < p → S j v W → (∀ k, (∀ i, i < N → dst i ≠ k) → a'.eval (.tmp k) = a.eval (.tmp k)) → (∀ j ∈ dep i, (∀ t, t < p → mv t ≠ j) → ok j (a'.eval (.tmp (dst j)))) → ∃ u, (execOp a'.eval o).run P W = .ok (.value u) W ∧ ok i u)
    (hmv : ∀ t o, t < p → ops[mv t]? = some o → ∀ (a' : Act) W v, S t v W → (0 < t → v = a'.eval (.tmp (dst (mv (t - 1))))) → (∀ k, (∀ i, i < N → dst i ≠ k) → a'.eval (.tmp k) = a.eval (.tmp k)) → (∀ j ∈ dep (mv t), (∀ s, s < p → mv s ≠ j) → ok j (a'.eval (.tmp (dst j)))) → ∀ K : Act → World → Prop, (∀ v' W', S (t + 1) v' W' → K (a'.put o.dst v') W') → o.wp P a' W K Q)
    (hS : S 0 undef w.drew)
    (hQ : ∀ a' w', a'.tmps.size = T → a'.defers = a.defers → (∀ k, (∀ i, i ≤ N → dst i ≠ k) → a'.eval (.tmp k) = a.eval (.tmp k)) → S p (a'.eval (.tmp (dst N))) w' → Q .normal a' w') :
    (Code.region id ops true).wp P Q a w := by
  have low : ∀ (listed : Array Bool) (i k : Nat), listed.getD k true = true → (listed.setIfInBounds i true).getD k true = true := by
    intro listed i k hk
    by_cases e : k = i
    · subst e; exact getD_set_same
    · rw [getD_set_ne true (Ne.symm e)]; exact hk
  refine wp_region_any hm (wpAny_inv2 (I := RegC T N p mv dst dep ok S a) ?_ ?_ ?_ ops.size _ a _ (by simp) ?_ ?_)
  · intro i o ho e he
    exact (hg i o ho).2.2.2 e he
  · intro listed a' w' hall h
    obtain ⟨j, hj, hph, hs⟩ := h.ph
    have hjp : j = p := by
      have := (hph (p - 1) (by omega)).1 (hall _)
      omega
    subst hjp
    rw [if_neg (by omega), hlast] at hs
    exact hQ a' w' h.size h.defs h.oth hs
  · intro listed a' w' i o ho hl hdeps h
    obtain ⟨g1, g2, g3, g4⟩ := hg i o ho
    have hi : i ≤ N := by have := (Array.getElem?_eq_some_iff.1 ho).1; omega
    have hwant : Region.wanted o (yielded ops a'.tmps) = true := by unfold Region.wanted; rw [g2]
    rw [if_pos hwant]
    have hdl2 : ∀ j ∈ dep i, listed.getD j true = true := by
      intro j hj
      obtain ⟨_, e, he, h1, h2⟩ := g3 j hj
      rw [← h1]; exact listed_true (hdeps e he h2)
    have hdl3 : ∀ j ∈ dep i, j < i := fun j hj => (g3 j hj).1
    have hnl : listed.getD N true = false := by
      cases hq : listed.getD N true
      · rfl
      · have := h.dn hq i hi; rw [hl] at this; cases this
    obtain ⟨j, hj, hph, hs⟩ := h.ph
    have hjp : j < p := by
      rcases Nat.lt_or_ge j p with h1 | h1
      · exact h1
      · have := (hph (p - 1) (by omega)).2 (by omega)
        rw [hlast, hnl] at this; cases this
    have hcl : ∀ k, k ≤ N → (listed.setIfInBounds i true).getD k true = true → ∀ j ∈ dep k, (listed.setIfInBounds i true).getD j true = true := by
      intro k hk hkl d hd
      by_cases e : k = i
      · subst e; exact low _ _ d (hdl2 d hd)
      · exact low _ _ d (h.cl k hk (listed_of hkl e) d hd)
    have hdn : (listed.setIfInBounds i true).getD N true = true → ∀ k, k ≤ N → (listed.setIfInBounds i true).getD k true = true := by
      intro hN
      have all : ∀ m k, k + m = N → (listed.setIfInBounds i true).getD k true = true := by
        intro m
        induction m using Nat.strongRecOn with
        | ind m ih =>
          intro k hk
          by_cases e : k = N
          · rw [e]; exact hN
          · obtain ⟨d, h1, h2, h3⟩ := hup k (by omega)
            exact hcl d h1 (ih (N - d) (by omega) d (by omega)) k h3
      exact fun k hk => all (N - k) k (by omega)
    have hoth2 : ∀ k, (∀ i, i < N → dst i ≠ k) → a'.eval (.tmp k) = a.eval (.tmp k) := by
      intro k hk
      by_cases e : dst N = k
      · rw [← e]; exact h.pre hnl
      · refine h.oth k fun i hi2 => ?_
        by_cases e2 : i = N
        · rw [e2]; exact e
        · exact hk i (by omega)
    have hsz : (listed.setIfInBounds i true).size = N + 1 := by simpa using h.lsz
    by_cases hq : ∀ t, t < p → mv t ≠ i
    · have hd : ∀ d ∈ dep i, (∀ t, t < p → mv t ≠ d) → ok d (a'.eval (.tmp (dst d))) := fun d hd hqd => h.vals d (by have := hdl3 d hd; omega) hqd (hdl2 d hd)
      obtain ⟨u, e1, e2⟩ := hx i o hi hq ho a' w' j _ hjp hs hoth2 hd
      have hiN : i ≠ N := fun e => hq (p - 1) (by omega) (by rw [hlast, e])
      have g1 : o.dst = some (dst i) ∧ dst i < T := g1.resolve_right (fun h => hiN h.2.1)
      unfold Oper.wp
      rw [e1]
      show RegC T N p mv dst dep ok S a (listed.setIfInBounds i true) (a'.put o.dst u) w'
      rw [g1.1]
      refine ⟨by rw [size_put]; exact h.size, by rw [defs_put]; exact h.defs, hsz, ?_, ?_, hcl, hdn, ?_, j, hj, ?_, ?_⟩
      · intro k hk hqk hkl
        by_cases e : k = i
        · subst e; rw [eval_put_same _ (by rw [h.size]; exact g1.2)]; exact e2
        · rw [eval_put_other _ (fun e3 => e (hinj i k hi hk e3).symm)]; exact h.vals k hk hqk (listed_of hkl e)
      · intro k hk; rw [eval_put_other _ (hk i hi)]; exact h.oth k hk
      · intro _; rw [eval_put_other _ (fun e => hiN (hinj i N hi (Nat.le_refl _) e))]; exact h.pre hnl
      · intro t ht; rw [getD_set_ne true (Ne.symm (hq t ht))]; exact hph t ht
      · by_cases e : j = 0
        · rw [if_pos e]; rw [if_pos e] at hs; exact hs
        · rw [if_neg e]; rw [if_neg e] at hs
          rw [eval_put_other _ (fun e3 => by have := hinj i (mv (j - 1)) hi (hmvN _ (by omega)) e3; exact hq (j - 1) (by omega) this.symm)]
          exact hs
    · obtain ⟨t, htp, hti⟩ : ∃ t, t < p ∧ mv t = i := by
        refine Classical.byContradiction fun hc => hq fun t ht e => hc ⟨t, ht, e⟩
      subst hti
      have htj : t = j := by
        have h1 : ¬ t < j := fun h1 => by have := (hph t htp).2 h1; rw [hl] at this; cases this
        by_cases e : t = 0
        · omega
        · obtain ⟨s, rfl⟩ : ∃ s, t = s + 1 := ⟨t - 1, by omega⟩
          have := (hph s (by omega)).1 (hdl2 _ (hmvd s htp))
          omega
      subst htj
      have hd : ∀ d ∈ dep (mv t), (∀ s, s < p → mv s ≠ d) → ok d (a'.eval (.tmp (dst d))) := fun d hd hqd => h.vals d (by have := hdl3 d hd; omega) hqd (hdl2 d hd)
      refine hmv t o htp ho a' w' _ hs (fun h0 => by rw [if_neg (by omega)]) hoth2 hd _ fun v' W' hs' => ?_
      have hph' : ∀ s, s < p → ((listed.setIfInBounds (mv t) true).getD (mv s) true = true ↔ s < t + 1) := by
        intro s hsp
        by_cases e : s = t
        · subst e; exact ⟨fun _ => by omega, fun _ => getD_set_same⟩
        · rw [getD_set_ne true (fun e2 => e (hmvi t s htp hsp e2).symm), hph s hsp]; omega
      rcases g1 with ⟨g1, gT⟩ | ⟨g1, gN, gv⟩
      · rw [g1]
        refine ⟨by rw [size_put]; exact h.size, by rw [defs_put]; exact h.defs, hsz, ?_, ?_, hcl, hdn, ?_, t + 1, by omega, hph', ?_⟩
        · intro k hk hqk hkl
          have e : k ≠ mv t := fun e => hqk t htp e.symm
          rw [eval_put_other _ (fun e3 => e (hinj (mv t) k hi hk e3).symm)]; exact h.vals k hk hqk (listed_of hkl e)
        · intro k hk; rw [eval_put_other _ (hk _ hi)]; exact h.oth k hk
        · intro hf
          by_cases e : mv t = N
          · rw [e, getD_set_same] at hf; cases hf
          · rw [eval_put_other _ (fun e2 => e (hinj (mv t) N hi (Nat.le_refl _) e2))]; exact h.pre hnl
        · rw [if_neg (by omega), Nat.add_sub_cancel, eval_put_same _ (by rw [h.size]; exact gT)]; exact hs'
      · rw [g1]
        have htp1 : t + 1 = p := by
          have := hmvi t (p - 1) htp (by omega) (by rw [hlast]; exact gN)
          omega
        refine ⟨h.size, h.defs, hsz, ?_, h.oth, hcl, hdn, fun _ => h.pre hnl, t + 1, by omega, hph', ?_⟩
        · intro k hk hqk hkl
          exact h.vals k hk hqk (listed_of hkl (fun e => hqk t htp e.symm))
        · rw [htp1] at hs' ⊢; exact gv _ _ _ hs'
  · unfold unlB
    have := List.countP_le_length (p := fun x => !x) (l := (Array.replicate ops.size false).toList)
    simpa using this
  · have hf : ∀ i, i ≤ N → (Array.replicate ops.size false).getD i true = false := by
      intro i hi; simp [hn, show i < N + 1 by omega]
    refine ⟨hT, rfl, by simp [hn], ?_, fun _ _ => rfl, ?_, ?_, fun _ => rfl, 0, by omega, ?_, hS⟩
    · intro i hi _ hl; rw [hf i hi] at hl; cases hl
    · intro i hi hl; rw [hf i hi] at hl; cases hl
    · intro hl; rw [hf N (Nat.le_refl _)] at hl; cases hl
    · intro t ht; rw [hf _ (hmvN t ht)]; simp
theorem wp_value {P : Program} {o : Oper} {a : Act} {w w' : World} {v : Value} {K : Act → World → Prop} {Q : Exit → Act → World → Prop} (h : (execOp a.eval o).run P w = .ok (.value v) w') (hK : K (a.put o.dst v) w') : o.wp P a w K Q := by
  unfold Oper.wp; rw [h]; exact hK
theorem wp_skip {P : Program} {o : Oper} {a : Act} {w w' : World} {K : Act → World → Prop} {Q : Exit → Act → World → Prop} (h : (execOp a.eval o).run P w = .ok .skip w') (hK : K (a.put o.dst undef) w') : o.wp P a w K Q := by
  unfold Oper.wp; rw [h]; exact hK
/-- The frame behind such a region, one slot of which stands apart. -/
theorem act_mix1 {a a' : Act} {l : List Value} (lo n d : Nat) (v : Value) (hl : a.tmps = l.toArray) (hs : a'.tmps.size = a.tmps.size) (hd : a'.defers = a.defers) (hn : lo + n ≤ l.length) (hdl : d < l.length) (hv : a'.eval (.tmp d) = v) (hdo : d < lo ∨ lo + n ≤ d)
    (ho : ∀ k, k ≠ d → (k < lo ∨ lo + n ≤ k) → a'.eval (.tmp k) = a.eval (.tmp k)) :
    ∃ us : List Value, us.length = n ∧ a' = { tmps := ((l.set d v).take lo ++ (us ++ (l.set d v).drop (lo + n))).toArray, defers := a.defers } := by
  obtain ⟨us, h1, _, h3⟩ := act_mix (a := { tmps := (l.set d v).toArray, defers := a.defers }) (a' := a') (l := l.set d v) lo n rfl (by rw [hs, hl]; simp) hd (by rw [List.length_set]; exact hn) (fun k hk => by
    by_cases e : k = d
    · subst e
      rw [hv]; unfold Act.eval; simp [hdl]
    · rw [ho k e hk]
      unfold Act.eval
      rw [hl]
      simp [List.getElem?_set_ne (Ne.symm e)])
  exact ⟨us, h1, h3⟩
end Go.Proofs.Ytdhchfmefdlloaa
