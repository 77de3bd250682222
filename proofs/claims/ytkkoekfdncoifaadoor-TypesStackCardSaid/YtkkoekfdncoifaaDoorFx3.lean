/- What is proved here: the contract of types.effects: whatever order the parts of its map come in. Conditions: none. -/
import Derived.Test.YtkkoekfdncoifaaDoorFx2
namespace Go.Proofs.YtkkoekfdncoifaaDoor
open Go.ChangeShapes Go.WideShapes Go.RowKit Go.Maps

theorem run_load53 (w : World) (p : Nat) (c d : Array Value) (h0 : w.cell? ⟨p, 0, none⟩ = some (.func (.func 51) #[] c)) (h1 : w.cell? ⟨p, 1, none⟩ = some (.func (.func 52) #[] d)) :
    (Instr.loadAt 53 (.pointer (some ⟨p, 0, none⟩))).run Tryd.prog w = .ok (.agg #[.func (.func 51) #[] c, .func (.func 52) #[] d]) w := by
  go_simp
theorem run_build53 (w : World) (f : Fn) (c d : Array Value) (g : Fn) :
    (Instr.build 53 #[(0, .func f #[] c), (1, .func g #[] d)]).run Tryd.prog w = .ok (.agg #[.func f #[] c, .func g #[] d]) w := by
  go_simp
theorem wp_call32 {o : Oper} {a : Act} {w : World} {K : Act → World → Prop} {Q : Exit → Act → World → Prop} (s : List UInt8) (hop : o.op = .call { callee := .value (.func 32), args := #[.const (.string (bs s))], argTypes := #[9] })
    (h : ∀ b w', w.heap.size ≤ b → w'.cell? ⟨b, 0, none⟩ = some (.string (bs s)) → Below w.heap.size w w' → K (a.put o.dst (.func (.func 51) #[] #[.pointer (some ⟨b, 0, none⟩)])) w') : o.wp Tryd.prog a w K Q := by
  unfold Oper.wp
  have : (execOp a.eval o).run Tryd.prog w = .ok (.enter 32 #[.string (bs s)]) w := by
    simp only [execOp, hop]
    go_simp
  rw [this]
  refine (taking_any s w).mono ?_
  rintro e w' ⟨b, rfl, h0, h1, h2⟩
  exact h b w' h0 h1 h2
theorem wp_call33 {o : Oper} {a : Act} {w : World} {K : Act → World → Prop} {Q : Exit → Act → World → Prop} (s : List UInt8) (hop : o.op = .call { callee := .value (.func 33), args := #[.const (.string (bs s))], argTypes := #[9] })
    (h : ∀ b w', w.heap.size ≤ b → w'.cell? ⟨b, 0, none⟩ = some (.string (bs s)) → Below w.heap.size w w' → K (a.put o.dst (.func (.func 52) #[] #[.pointer (some ⟨b, 0, none⟩)])) w') : o.wp Tryd.prog a w K Q := by
  unfold Oper.wp
  have : (execOp a.eval o).run Tryd.prog w = .ok (.enter 33 #[.string (bs s)]) w := by
    simp only [execOp, hop]
    go_simp
  rw [this]
  refine (giving_any s w).mono ?_
  rintro e w' ⟨b, rfl, h0, h1, h2⟩
  exact h b w' h0 h1 h2
/-- Its deps have come, of each that has come. -/
def Dep (listed : Array Bool) : Prop := ∀ (i : Nat) s, spec[i]? = some s → listed.getD i true = true → ∀ x ∈ s.deps, listed.getD x true = true
theorem Dep.set {listed : Array Bool} {i : Nat} {s : Sp} (h : Dep listed) (hi : spec[i]? = some s) (hd : ∀ x ∈ s.deps, listed.getD x true = true) : Dep (listed.setIfInBounds i true) := by
  have up : ∀ x, listed.getD x true = true → (listed.setIfInBounds i true).getD x true = true := by
    intro x hx
    by_cases e : i = x
    · subst e
      rcases Nat.lt_or_ge i listed.size with h' | h'
      · simp [h']
      · simp
    · rw [getD_set_ne true e]; exact hx
  intro j t hj hl x hx
  by_cases e : j = i
  · subst e; rw [hi] at hj; cases hj; exact up x (hd x hx)
  · exact up x (h j t hj (listed_of hl e) x hx)
set_option maxHeartbeats 1000000 in
theorem eff_region {id : Nat} {ops : Array Oper} {Q : Exit → Act → World → Prop} {a : Act} {w : World}
    (hs : ops.toList.map (fun o => (o.dst, o.op, o.guard)) = spec.map (fun s => (s.dst, s.op, none)))
    (hd : ((ops.toList.zip spec).all fun x => x.2.deps.all fun d => x.1.after.any fun e => e.on == d && Region.binds .any e) = true)
    (ht : ((List.range 66).all fun i => match ops[i]? with | some o => o.after.all fun e => decide (e.on < i) | none => true) = true)
    (hm : Tryd.prog.follows .mixedOrders = true)
    (w0 : World) (L : Nat → Nat) (hI : Inv w0 L (Array.replicate 66 false) a w.drew)
    (hQ : ∀ a w b, a.eval (.tmp 0) = .map (some b) → a.defers = [] → Fxs w0.heap.size w b 25 → Below w0.heap.size w0 w → Q .normal a w) : (Code.region id ops true).wp Tryd.prog Q a w := by
  have hlen : ops.size = 66 := by
    have := congrArg List.length hs
    simpa [spec_len] using this
  have hsp : ∀ (i : Nat) o, ops[i]? = some o → ∃ s, spec[i]? = some s ∧ o.dst = s.dst ∧ o.op = s.op ∧ o.guard = none ∧ ∀ d ∈ s.deps, ∃ e ∈ o.after, e.on = d ∧ Region.binds .any e = true := by
    intro i o ho
    have ho2 : ops.toList[i]? = some o := by simpa using ho
    have h1 : (ops.toList.map (fun o => (o.dst, o.op, o.guard)))[i]? = some (o.dst, o.op, o.guard) := by rw [List.getElem?_map, ho2]; rfl
    rw [hs, List.getElem?_map] at h1
    cases h2 : spec[i]? with
    | none => rw [h2] at h1; simp at h1
    | some s =>
      rw [h2] at h1
      simp only [Option.map_some, Option.some.injEq, Prod.mk.injEq] at h1
      refine ⟨s, rfl, h1.1.symm, h1.2.1.symm, h1.2.2.symm, fun d hdd => ?_⟩
      have h3 := List.all_eq_true.1 hd (o, s) (List.mem_of_getElem? (by rw [List.getElem?_zip_eq_some]; exact ⟨ho2, h2⟩))
      have h4 := List.all_eq_true.1 h3 d hdd
      obtain ⟨e, he, h5⟩ := Array.any_eq_true'.1 h4
      simp only [Bool.and_eq_true, beq_iff_eq] at h5
      exact ⟨e, he, h5.1, h5.2⟩
  refine wp_region_any hm (wpAny_inv (I := fun listed a w => Inv w0 L listed a w ∧ Dep listed) ?_ ?_ ?_ ops.size _ a _ (by simp) ?_ ⟨by rw [hlen]; exact hI, ?_⟩)
  · intro i o ho e he
    have hi : i < 66 := by rw [← hlen]; exact (Array.getElem?_eq_some_iff.1 ho).1
    have := List.all_eq_true.1 ht i (by simpa using hi)
    rw [ho] at this
    simpa using Array.all_eq_true'.1 this e he
  · rintro listed a w hall ⟨h, _⟩
    obtain ⟨b, D, n, e1, e2, e3, e4, e5⟩ := h.map (hall 0)
    have h0 : Ok w0.heap.size .asg a w := h.oks _ _ spec_asg (hall _)
    refine hQ a w b ?_ h.defs ?_ h.bl
    · have : a.eval (.tmp 0) = a.eval (.tmp 17) := h0
      rw [this]; exact e1
    · refine ⟨e2, D, n, e3, fun j hj => ?_⟩
      have h1 := List.all_eq_true.1 spec_ins j (by simpa using hj)
      rw [List.any_eq_true] at h1
      obtain ⟨i, _, h2⟩ := h1
      cases h3 : spec[i]? with
      | none => rw [h3] at h2; simp at h2
      | some s =>
        rw [h3] at h2
        cases s <;> simp at h2
        rename_i k d x
        obtain ⟨v, g1, t, g, rfl, g2, g3⟩ := e5 i k d x h3 (hall i)
        subst h2
        exact ⟨t, g, by simpa using g1, by simpa using g2, by simpa using g3⟩
  · rintro listed a w i o ho hl hdeps ⟨h, hD⟩
    obtain ⟨s, hs1, hdst, hop, hgd, hdd⟩ := hsp i o ho
    have hdl : ∀ x ∈ s.deps, listed.getD x true = true := by
      intro x hx
      obtain ⟨e, he, h1, h2⟩ := hdd x hx
      rw [← h1]; exact listed_true (hdeps e he h2)
    have hD' := hD.set hs1 hdl
    refine ⟨hgd, ?_⟩
    have hok := sok_of hs1
    cases s with
    | mk =>
      have hi0 : i = 0 := nodup_idx spec_dst hs1 spec_mk rfl rfl
      subst hi0
      unfold Oper.wp
      simp only [execOp, hop, Sp.op, Option.map_none]
      have hr : ((Instr.makeMap 42 none).run Tryd.prog w) = _ := run_makeMap 42 w
      simp [hr, Result.andThen, Oper.upon, hdst, Sp.dst]
      have no0 : ∀ (i : Nat) s, spec[i]? = some s → 0 ∈ s.deps → listed.getD i true = false := by
        intro i s hi h0
        cases hq : listed.getD i true
        · rfl
        · have := hD i s hi hq 0 h0
          rw [hl] at this; cases this
      refine ⟨h.made (fun i k d j hi => no0 i _ hi (by simp [Sp.deps])) ?_, hD'⟩
      rintro i (hi | hi)
      · exact no0 i _ hi (by simp [Sp.deps])
      · cases hq : listed.getD i true
        · rfl
        · have h1 := hD i _ hi hq 64 (by simp [Sp.deps])
          rw [no0 64 _ spec_mv (by simp [Sp.deps])] at h1; cases h1
    | ld r d k =>
      simp only [sok, Bool.and_eq_true, decide_eq_true_eq, Bool.not_eq_true', Bool.or_eq_false_iff, beq_eq_false_iff_ne] at hok
      obtain ⟨⟨⟨⟨h1, h2⟩, h3⟩, h4⟩, h5⟩ := hok
      obtain ⟨e, t, g, hloc⟩ := h.vars r h1 h2
      have hr := run_load53 w (L r) _ _ hloc.1 hloc.2.1
      unfold Oper.wp
      simp only [execOp, hop, Sp.op, e]
      simp [hr, Result.andThen, Oper.upon, hdst, Sp.dst]
      refine ⟨h.step hs1 hl rfl ?_ (Below.refl _ _) ?_, hD'⟩
      · intro e17; subst e17; exact absurd (nodup_idx spec_dst hs1 spec_mk rfl rfl) (by intro e0; subst e0; rw [spec_mk] at hs1; cases hs1)
      · show Pair _ _ _ _
        rw [eval_same _ (by rw [h.size]; exact (low_of hs1 rfl).2)]
        refine ⟨_, _, rfl, ⟨t, rfl, hloc.2.2.2.2.1, by rw [h3]; exact hloc.2.2.1⟩, Or.inl ⟨g, _, rfl, hloc.2.2.2.2.2, hloc.2.2.2.1, fun a t => ?_⟩⟩
        rw [gv_same (by omega), h4]
    | tkc d k s =>
      simp only [sok, decide_eq_true_eq] at hok
      refine wp_call32 s hop fun b w' h0 h1 h2 => ?_
      rw [hdst]
      refine ⟨h.step hs1 hl rfl ?_ h2 ?_, hD'⟩
      · intro e17; subst e17; exact absurd (nodup_idx spec_dst hs1 spec_mk rfl rfl) (by intro e0; subst e0; rw [spec_mk] at hs1; cases hs1)
      · show TkV _ _ _ _
        rw [eval_same _ (by rw [h.size]; exact (low_of hs1 rfl).2), hok]
        exact ⟨b, rfl, Nat.le_trans h.bl.size h0, h1⟩
    | gvc d k s =>
      simp only [sok, Bool.and_eq_true, decide_eq_true_eq, Bool.not_eq_true', Bool.or_eq_false_iff, beq_eq_false_iff_ne] at hok
      refine wp_call33 s hop fun b w' h0 h1 h2 => ?_
      rw [hdst]
      refine ⟨h.step hs1 hl rfl ?_ h2 ?_, hD'⟩
      · intro e17; subst e17; exact absurd (nodup_idx spec_dst hs1 spec_mk rfl rfl) (by intro e0; subst e0; rw [spec_mk] at hs1; cases hs1)
      · show GvV _ _ _ _
        rw [eval_same _ (by rw [h.size]; exact (low_of hs1 rfl).2)]
        refine Or.inl ⟨b, s, rfl, Nat.le_trans h.bl.size h0, h1, fun a t => ?_⟩
        rw [gv_same (by omega), hok.1]
    | bd d x y k ix iy =>
      simp only [sok, Bool.and_eq_true, decide_eq_true_eq] at hok
      have k1 : TkV w0.heap.size w (a.eval (.tmp x)) (tk (k : Int)) := h.oks _ _ hok.1 (hdl ix (by simp [Sp.deps]))
      have k2 : GvV w0.heap.size w (a.eval (.tmp y)) (gv (k : Int)) := h.oks _ _ hok.2 (hdl iy (by simp [Sp.deps]))
      have k3 : ∃ f c, a.eval (.tmp y) = .func f #[] c := by
        rcases k2 with ⟨b, s, e, _⟩ | ⟨e, _⟩ | ⟨e, _⟩ | ⟨e, _⟩ <;> exact ⟨_, _, e⟩
      obtain ⟨f, c, e2⟩ := k3
      have k1' := k1
      obtain ⟨b, e1, _⟩ := k1'
      rw [e1] at k1
      rw [e2] at k2
      have hr := run_build53 w (.func 51) #[.pointer (some ⟨b, 0, none⟩)] c f
      unfold Oper.wp
      simp only [execOp, hop, Sp.op, List.map_toArray, List.map_cons, List.map_nil, e1, e2]
      simp [hr, Result.andThen, Oper.upon, hdst, Sp.dst]
      refine ⟨h.step hs1 hl rfl ?_ (Below.refl _ _) ?_, hD'⟩
      · intro e17; subst e17; exact absurd (nodup_idx spec_dst hs1 spec_mk rfl rfl) (by intro e0; subst e0; rw [spec_mk] at hs1; cases hs1)
      · show Pair _ _ _ _
        rw [eval_same _ (by rw [h.size]; exact (low_of hs1 rfl).2)]
        exact ⟨_, _, rfl, k1, k2⟩
    | bf d x f k ix =>
      simp only [sok, Bool.and_eq_true, decide_eq_true_eq, Bool.or_eq_true, beq_iff_eq] at hok
      have k1 : TkV w0.heap.size w (a.eval (.tmp x)) (tk (k : Int)) := h.oks _ _ hok.1 (hdl ix (by simp [Sp.deps]))
      have k2 : GvV w0.heap.size w (.func (.func f) #[] #[]) (gv (k : Int)) := by
        rcases hok.2 with (⟨rfl, rfl⟩ | ⟨rfl, rfl⟩) | ⟨rfl, rfl⟩
        · exact Or.inr (Or.inl ⟨rfl, rfl⟩)
        · exact Or.inr (Or.inr (Or.inl ⟨rfl, rfl⟩))
        · exact Or.inr (Or.inr (Or.inr ⟨rfl, rfl⟩))
      have k1' := k1
      obtain ⟨b, e1, _⟩ := k1'
      rw [e1] at k1
      have e2 : a.eval (.func f) = .func (.func f) #[] #[] := rfl
      have hr := run_build53 w (.func 51) #[.pointer (some ⟨b, 0, none⟩)] #[] (.func f)
      unfold Oper.wp
      simp only [execOp, hop, Sp.op, List.map_toArray, List.map_cons, List.map_nil, e1, e2]
      simp [hr, Result.andThen, Oper.upon, hdst, Sp.dst]
      refine ⟨h.step hs1 hl rfl ?_ (Below.refl _ _) ?_, hD'⟩
      · intro e17; subst e17; exact absurd (nodup_idx spec_dst hs1 spec_mk rfl rfl) (by intro e0; subst e0; rw [spec_mk] at hs1; cases hs1)
      · show Pair _ _ _ _
        rw [eval_same _ (by rw [h.size]; exact (low_of hs1 rfl).2)]
        exact ⟨_, _, rfl, k1, k2⟩
    | ins k d j =>
      simp only [sok, Bool.and_eq_true, decide_eq_true_eq] at hok
      have hj := hdl j (by simp [Sp.deps])
      have hp : Pair w0.heap.size w (a.eval (.tmp d)) k := by
        have h2 := hok.2
        cases h3 : spec[j]? with
        | none => rw [h3] at h2; cases h2
        | some t =>
          have h4 := h.oks _ _ h3 hj
          rw [h3] at h2
          cases t <;> simp [pairAt] at h2
          all_goals
            obtain ⟨rfl, rfl⟩ := h2
            exact h4
      have hp' := hp
      obtain ⟨t, g, e1, _⟩ := hp'
      rw [e1] at hp
      obtain ⟨b, w', e2, hr, hI'⟩ := h.insert hs1 hl (hdl 0 (by simp [Sp.deps])) hok.1 hp
      have e3 : a.eval (.const (.int .i64 (k : Int))) = .int .i64 (k : Int) := rfl
      unfold Oper.wp
      simp only [execOp, hop, Sp.op, e1, e2, e3]
      simp [hr, Result.andThen, Oper.upon, hdst, Sp.dst]
      exact ⟨hI', hD'⟩
    | mv =>
      unfold Oper.wp
      simp only [execOp, hop, Sp.op]
      simp [Oper.upon, hdst, Sp.dst]
      refine ⟨h.step hs1 hl rfl (by decide) (Below.refl _ _) ?_, hD'⟩
      show _ = _
      rw [eval_same _ (by rw [h.size]; decide), eval_other _ (by decide)]
    | asg =>
      unfold Oper.wp
      simp only [execOp, hop, Sp.op]
      simp [Oper.upon, hdst, Sp.dst]
      refine ⟨h.step hs1 hl rfl (by decide) (Below.refl _ _) ?_, hD'⟩
      show _ = _
      rw [eval_same _ (by rw [h.size]; decide), eval_other _ (by decide)]
      exact h.oks _ _ spec_mv (hdl 64 (by simp [Sp.deps]))
  · rw [hlen]; decide
  · intro i s hi hl
    rw [hlen] at hl
    have : i < 66 := by
      rw [← spec_len]; exact (List.getElem?_eq_some_iff.1 hi).1
    simp [this] at hl
end Go.Proofs.YtkkoekfdncoifaaDoor
