/- What is proved here: a law for a region whose operations may come in any order, some of them left out, some of them calls: what is told of each one's value, and of the world, holds at the end. Conditions: those the theorem states. -/
import Derived.Test.YthncbnalnfbpnaaGreatDoorGb
import Derived.Test.YthncbnalnfbpnaaGreatDoorGj
import Derived.BigFrame
namespace Go.Proofs.YthncbnalnfbpnaaGreatDoor
open Go.ChangeShapes Go.WideShapes Go.RowKit

theorem act_ext {a a' : Act} (hd : a.defers = a'.defers) (hs : a.tmps.size = a'.tmps.size) (h : ∀ k, k < a.tmps.size → a.eval (.tmp k) = a'.eval (.tmp k)) : a = a' := by
  obtain ⟨t, d⟩ := a
  obtain ⟨t', d'⟩ := a'
  simp only at hd hs
  subst hd
  congr 1
  apply Array.ext hs
  intro i h1 h2
  have := h i h1
  unfold Act.eval at this
  simpa [h1, h2] using this
/-- The law: as wpAny_inv, with operations that are left out. -/
theorem wpAny_inv2 {P : Program} {md : Region.Mode} {ops : Array Oper} {Q : Exit → Act → World → Prop} (I : Array Bool → Act → World → Prop)
    (hdep : ∀ (i : Nat) o, ops[i]? = some o → ∀ e ∈ o.after, e.on < i)
    (hend : ∀ listed a w, (∀ i : Nat, listed.getD i true = true) → I listed a w → Q .normal a w)
    (hstep : ∀ (listed : Array Bool) a w (i : Nat) o, ops[i]? = some o → listed.getD i true = false → (∀ e ∈ o.after, Region.binds md e = true → listed.getD e.on false = true) → I listed a w →
      (if Region.wanted o (yielded ops a.tmps) = true then o.wp P a w (I (listed.setIfInBounds i true)) Q else I (listed.setIfInBounds i true) (a.put o.dst undef) w)) :
    ∀ (fuel : Nat) (listed : Array Bool) (a : Act) (w : World), listed.size = ops.size → unlB listed ≤ fuel → I listed a w → wpAny P md ops Q fuel listed a w := by
  have hall : ∀ listed : Array Bool, listed.size = ops.size → Region.ready md ops listed = [] → ∀ i : Nat, listed.getD i true = true := by
    intro listed hsz hr i
    induction i using Nat.strongRecOn with
    | ind i ih =>
      cases h : listed.getD i true
      · exfalso
        have hi : i < listed.size := by
          rcases Nat.lt_or_ge i listed.size with h' | h'
          · exact h'
          · simp [Array.getElem?_eq_none h'] at h
        obtain ⟨o, ho⟩ : ∃ o, ops[i]? = some o := ⟨ops[i]'(by omega), by simp [← hsz, hi]⟩
        have : i ∈ Region.ready md ops listed := mem_ready.2 ⟨h, o, ho, fun e he _ => by
          have h1 := hdep i o ho e he
          have h2 := ih e.on h1
          have h3 : e.on < listed.size := by omega
          simpa [h3] using h2⟩
        rw [hr] at this; simp at this
      · rfl
  intro fuel
  induction fuel with
  | zero =>
    intro listed a w hsz hu hI
    have ha := unlB_zero (Nat.le_zero.1 hu)
    refine ⟨?_, hend listed a w ha hI⟩
    cases hr : Region.ready md ops listed with
    | nil => rfl
    | cons x r =>
      have := (mem_ready.1 (show x ∈ Region.ready md ops listed by rw [hr]; simp)).1
      rw [ha x] at this; cases this
  | succ fuel ih =>
    intro listed a w hsz hu hI
    refine ⟨fun hr => hend listed a w (hall listed hsz hr) hI, fun i hi => ?_⟩
    obtain ⟨h0, o, ho, hd⟩ := mem_ready.1 hi
    have hw := hstep listed a w i o ho h0 hd hI
    have hle : unlB (listed.setIfInBounds i true) ≤ fuel := by have := unlB_set h0; omega
    unfold wpOp
    rw [ho]
    simp only
    cases hwt : Region.wanted o (yielded ops a.tmps)
    · rw [hwt] at hw
      simp only [Bool.false_eq_true, if_false] at hw ⊢
      exact ih _ _ w (by simpa using hsz) hle hw
    · rw [hwt] at hw
      simp only [if_true] at hw ⊢
      exact Or.inl (Oper.wp_mono (fun a' w' h => ih _ a' w' (by simpa using hsz) hle h) hw)
/-- What an operation yields. -/
def Gives (P : Program) (o : Oper) (ρ : Operand → Value) (w : World) (R : Value → World → Prop) : Prop :=
  (∃ v w', (execOp ρ o).run P w = .ok (.value v) w' ∧ R v w') ∨ (∃ f args, (execOp ρ o).run P w = .ok (.enter f args) w ∧ Calls P f args w fun e w' => ∃ v, e = .returned v ∧ R v w')
theorem Gives.val {P : Program} {o : Oper} {ρ : Operand → Value} {w w' : World} {R : Value → World → Prop} {v : Value} (h : (execOp ρ o).run P w = .ok (.value v) w') (r : R v w') : Gives P o ρ w R := Or.inl ⟨v, w', h, r⟩
theorem Gives.enter {P : Program} {o : Oper} {ρ : Operand → Value} {w : World} {R : Value → World → Prop} {f : FuncId} {args : Array Value} (h : (execOp ρ o).run P w = .ok (.enter f args) w) (c : Calls P f args w fun e w' => ∃ v, e = .returned v ∧ R v w') : Gives P o ρ w R := Or.inr ⟨f, args, h, c⟩
theorem Gives.wp {P : Program} {o : Oper} {a : Act} {w : World} {R : Value → World → Prop} {K : Act → World → Prop} {Q : Exit → Act → World → Prop} (h : Gives P o a.eval w R) (hK : ∀ v w', R v w' → K (a.put o.dst v) w') : o.wp P a w K Q := by
  unfold Oper.wp
  rcases h with ⟨v, w', h1, h2⟩ | ⟨f, args, h1, h2⟩
  · rw [h1]; exact hK v w' h2
  · rw [h1, Oper.upon_enter]
    refine h2.mono fun e w' he => ?_
    obtain ⟨v, rfl, hr⟩ := he
    exact hK v w' hr
structure RegI (T n : Nat) (dst : Nat → Nat) (ok : Nat → Value → Prop) (S : World → Prop) (a0 : Act) (listed : Array Bool) (a : Act) (w : World) : Prop where
  size : a.tmps.size = T
  defs : a.defers = a0.defers
  lsz : listed.size = n
  vals : ∀ i, i < n → listed.getD i true = true → ok i (a.eval (.tmp (dst i)))
  oth : ∀ k, (∀ i, i < n → dst i ≠ k) → a.eval (.tmp k) = a0.eval (.tmp k)
  s : S w
theorem eval_at {a : Act} {k : Nat} (h : k < a.tmps.size) : a.tmps[k]? = some (a.eval (.tmp k)) := by
  unfold Act.eval
  simp [h]
theorem eval_put_other {a : Act} {d k : Nat} (v : Value) (h : d ≠ k) : (a.put (some d) v).eval (.tmp k) = a.eval (.tmp k) := by
  unfold Act.eval Act.put
  simp [h]
theorem eval_put_same {a : Act} {d : Nat} (v : Value) (h : d < a.tmps.size) : (a.put (some d) v).eval (.tmp d) = v := by
  unfold Act.eval Act.put
  simp [h]
theorem region_ok {P : Program} {id : Nat} {ops : Array Oper} {Q : Exit → Act → World → Prop} {a : Act} {w : World} (T n : Nat) (dst : Nat → Nat) (dep : Nat → List Nat) (ok : Nat → Value → Prop) (S : World → Prop)
    (hm : P.follows .mixedOrders = true) (hn : ops.size = n) (hinj : ∀ i j, i < n → j < n → dst i = dst j → i = j) (h0 : ∀ i, i < n → dst i < T) (hT : a.tmps.size = T)
    (hg : ∀ (i : Nat) o, ops[i]? = some o → o.dst = some (dst i) ∧ (∀ d ∈ dep i, d < i ∧ ∃ e ∈ o.after, e.on = d ∧ Region.binds .any e = true) ∧ ∀ e ∈ o.after, e.on < i)
    (hx : ∀ (i : Nat) o, ops[i]? = some o → ∀ (a' : Act) w', S w' → (∀ k, (∀ i, i < n → dst i ≠ k) → a'.eval (.tmp k) = a.eval (.tmp k)) → (∀ j ∈ dep i, ok j (a'.eval (.tmp (dst j)))) →
      (o.guard = none ∧ Gives P o a'.eval w' fun v w'' => ok i v ∧ S w'') ∨
      (∃ j b c, o.guard = some (j, b) ∧ j ∈ dep i ∧ a'.eval (.tmp (dst j)) = .bool c ∧ (c = b → Gives P o a'.eval w' fun v w'' => ok i v ∧ S w'') ∧ (c ≠ b → ok i undef)))
    (hS : S w.drew)
    (hQ : ∀ a' w', a'.tmps.size = T → a'.defers = a.defers → (∀ k, (∀ i, i < n → dst i ≠ k) → a'.eval (.tmp k) = a.eval (.tmp k)) → (∀ i, i < n → ok i (a'.eval (.tmp (dst i)))) → S w' → Q .normal a' w') :
    (Code.region id ops true).wp P Q a w := by
  refine wp_region_any hm (wpAny_inv2 (I := RegI T n dst ok S a) ?_ ?_ ?_ ops.size _ a _ (by simp) ?_ ?_)
  · intro i o ho e he
    exact (hg i o ho).2.2 e he
  · intro listed a' w' hall h
    exact hQ a' w' h.size h.defs h.oth (fun i hi => h.vals i hi (hall i)) h.s
  · intro listed a' w' i o ho hl hdeps h
    obtain ⟨g1, g2, g3⟩ := hg i o ho
    have hi : i < n := by rw [← hn]; exact (Array.getElem?_eq_some_iff.1 ho).1
    have hd : ∀ j ∈ dep i, ok j (a'.eval (.tmp (dst j))) := by
      intro j hj
      obtain ⟨hji, e, he, h1, h2⟩ := g2 j hj
      exact h.vals j (by omega) (by rw [← h1]; exact listed_true (hdeps e he h2))
    have hdi := h0 i hi
    have put : ∀ v w'', ok i v ∧ S w'' → RegI T n dst ok S a (listed.setIfInBounds i true) (a'.put o.dst v) w'' := by
      intro v w'' ⟨e1, e2⟩
      rw [g1]
      refine ⟨by rw [size_put]; exact h.size, by rw [defs_put]; exact h.defs, by simpa using h.lsz, ?_, ?_, e2⟩
      · intro j hj hjl
        by_cases e : j = i
        · subst e; rw [eval_put_same _ (by rw [h.size]; exact hdi)]; exact e1
        · rw [eval_put_other _ (fun e3 => e (hinj i j hi hj e3).symm)]; exact h.vals j hj (listed_of hjl e)
      · intro k hk; rw [eval_put_other _ (hk i hi)]; exact h.oth k hk
    rcases hx i o ho a' w' h.s h.oth hd with ⟨x1, x2⟩ | ⟨j, b, c, x1, x2, x3, x4, x5⟩
    · have hwant : Region.wanted o (yielded ops a'.tmps) = true := by unfold Region.wanted; rw [x1]
      rw [if_pos hwant]
      exact x2.wp put
    · obtain ⟨hji, _⟩ := g2 j x2
      obtain ⟨oj, hoj⟩ : ∃ oj, ops[j]? = some oj := ⟨ops[j]'(by omega), by simp⟩
      have gj := (hg j oj hoj).1
      have hy : yielded ops a'.tmps j = some c := by
        unfold yielded
        rw [hoj]
        simp only [Option.bind_some, gj]
        rw [eval_at (by rw [h.size]; exact h0 j (by omega)), x3]
      have hwant : Region.wanted o (yielded ops a'.tmps) = (some c == some b) := by unfold Region.wanted; rw [x1]; simp only [hy]
      by_cases e : c = b
      · rw [if_pos (by rw [hwant, e]; simp)]
        exact (x4 e).wp put
      · rw [if_neg (by rw [hwant]; simpa using e)]
        exact put _ _ ⟨x5 e, h.s⟩
  · unfold unlB
    have := List.countP_le_length (p := fun x => !x) (l := (Array.replicate ops.size false).toList)
    simpa using this
  · refine ⟨hT, rfl, by simp [hn], ?_, fun _ _ => rfl, hS⟩
    intro i hi hl; simp [hn, hi] at hl
/-- The frame behind such a region, whose slots stand side by side. -/
theorem act_mix {a a' : Act} {l : List Value} (lo n : Nat) (hl : a.tmps = l.toArray) (hs : a'.tmps.size = a.tmps.size) (hd : a'.defers = a.defers) (hn : lo + n ≤ l.length)
    (ho : ∀ k, (k < lo ∨ lo + n ≤ k) → a'.eval (.tmp k) = a.eval (.tmp k)) :
    ∃ us : List Value, us.length = n ∧ (∀ i, i < n → us.getD i undef = a'.eval (.tmp (lo + i))) ∧ a' = { tmps := (l.take lo ++ (us ++ l.drop (lo + n))).toArray, defers := a.defers } := by
  have hsl : a'.tmps.size = l.length := by rw [hs, hl]; simp
  refine ⟨(List.range n).map fun i => a'.eval (.tmp (lo + i)), by simp, fun i hi => by simp [hi], ?_⟩
  refine act_ext hd (by rw [hsl]; simp; omega) fun k hk => ?_
  have hk2 : k < l.length := by omega
  have e0 : ∀ (z : List Value) (b : Act), b.tmps = z.toArray → b.eval (.tmp k) = z.getD k undef := by
    intro z b hb; unfold Act.eval; rw [hb]; simp [List.getD_eq_getElem?_getD]
  refine Eq.trans ?_ (e0 (l.take lo ++ (((List.range n).map fun i => a'.eval (.tmp (lo + i))) ++ l.drop (lo + n))) { tmps := (l.take lo ++ (((List.range n).map fun i => a'.eval (.tmp (lo + i))) ++ l.drop (lo + n))).toArray, defers := a.defers } rfl).symm
  rw [List.getD_eq_getElem?_getD]
  by_cases h1 : k < lo
  · rw [ho k (Or.inl h1), e0 l a hl, List.getElem?_append, if_pos (by rw [List.length_take]; omega), List.getElem?_take, if_pos h1, List.getD_eq_getElem?_getD]
  · rw [List.getElem?_append, if_neg (by rw [List.length_take]; omega), List.length_take, Nat.min_eq_left (by omega)]
    by_cases h2 : k < lo + n
    · rw [List.getElem?_append, if_pos (by rw [List.length_map, List.length_range]; omega), List.getElem?_map, List.getElem?_range (by omega)]
      show _ = a'.eval (.tmp (lo + (k - lo)))
      rw [show lo + (k - lo) = k by omega]
    · rw [ho k (Or.inr (by omega)), e0 l a hl, List.getElem?_append, if_neg (by rw [List.length_map, List.length_range]; omega), List.length_map, List.length_range, List.getElem?_drop, List.getD_eq_getElem?_getD]
      rw [show lo + n + (k - lo - n) = k by omega]
end Go.Proofs.YthncbnalnfbpnaaGreatDoor
