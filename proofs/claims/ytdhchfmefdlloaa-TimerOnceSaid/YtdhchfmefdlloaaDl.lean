/- What is proved here: laws for a region whose operations may come in any order, some of them calls, the last one a store: what is told of each one's value, and of the world, holds at the end. Conditions: those each theorem states. -/
import Derived.Test.YtdhchfmefdlloaaRo
import Derived.BigFrame
import Derived.Orders
namespace Go.Proofs.Ytdhchfmefdlloaa
open Go.ChangeShapes Go.WideShapes Go.RowKit

/-- How many have not come. -/
def unlB (listed : Array Bool) : Nat := listed.toList.countP (fun x => !x)
theorem unlB_set {listed : Array Bool} {i : Nat} (h : listed.getD i true = false) : unlB (listed.setIfInBounds i true) + 1 = unlB listed := by
  have hi : i < listed.size := by
    rcases Nat.lt_or_ge i listed.size with h' | h'
    · exact h'
    · simp [Array.getElem?_eq_none h'] at h
  have hv : listed[i] = false := by simpa [hi] using h
  unfold unlB
  rw [Array.toList_setIfInBounds]
  have e : listed.toList = listed.toList.take i ++ listed[i] :: listed.toList.drop (i + 1) := by
    have := List.take_append_drop i listed.toList
    rw [List.drop_eq_getElem_cons (by simpa using hi)] at this
    simpa using this.symm
  rw [List.set_eq_take_append_cons_drop, if_pos (by simpa using hi)]
  rw [List.countP_append, List.countP_cons]
  conv => rhs; rw [e, List.countP_append, List.countP_cons, hv]
  simp
  omega
theorem unlB_zero {listed : Array Bool} (h : unlB listed = 0) (i : Nat) : listed.getD i true = true := by
  unfold unlB at h
  rw [List.countP_eq_zero] at h
  rcases Nat.lt_or_ge i listed.size with h' | h'
  · have := h listed[i] (by simp)
    simpa [h'] using this
  · simp [Array.getElem?_eq_none h']
/-- The law. -/
theorem wpAny_inv {P : Program} {md : Region.Mode} {ops : Array Oper} {Q : Exit → Act → World → Prop} (I : Array Bool → Act → World → Prop)
    (hdep : ∀ (i : Nat) o, ops[i]? = some o → ∀ e ∈ o.after, e.on < i)
    (hend : ∀ listed a w, (∀ i : Nat, listed.getD i true = true) → I listed a w → Q .normal a w)
    (hstep : ∀ (listed : Array Bool) a w (i : Nat) o, ops[i]? = some o → listed.getD i true = false → (∀ e ∈ o.after, Region.binds md e = true → listed.getD e.on false = true) → I listed a w →
      o.guard = none ∧ o.wp P a w (I (listed.setIfInBounds i true)) Q) :
    ∀ (fuel : Nat) (listed : Array Bool) (a : Act) (w : World), listed.size = ops.size → unlB listed ≤ fuel → I listed a w → wpAny P md ops Q fuel listed a w := by
  have hall : ∀ listed : Array Bool, listed.size = ops.size → Region.ready md ops listed = [] → ∀ i : Nat, listed.getD i true = true := by
    intro listed hsz hr i
    induction i using Nat.strongRecOn with
    | ind i ih =>
      cases h : listed.getD i true
      · exfalso
        have hi : i < listed.size := by
          rcases Nat.lt_or_ge i listed.size with h' | h'
          · exact h'
          · simp [Array.getElem?_eq_none h'] at h
        obtain ⟨o, ho⟩ : ∃ o, ops[i]? = some o := ⟨ops[i]'(by omega), by simp [← hsz, hi]⟩
        have : i ∈ Region.ready md ops listed := mem_ready.2 ⟨h, o, ho, fun e he _ => by
          have h1 := hdep i o ho e he
          have h2 := ih e.on h1
          have h3 : e.on < listed.size := by omega
          simpa [h3] using h2⟩
        rw [hr] at this; simp at this
      · rfl
  intro fuel
  induction fuel with
  | zero =>
    intro listed a w hsz hu hI
    have ha := unlB_zero (Nat.le_zero.1 hu)
    refine ⟨?_, hend listed a w ha hI⟩
    cases hr : Region.ready md ops listed with
    | nil => rfl
    | cons x r =>
      have := (mem_ready.1 (show x ∈ Region.ready md ops listed by rw [hr]; simp)).1
      rw [ha x] at this; cases this
  | succ fuel ih =>
    intro listed a w hsz hu hI
    refine ⟨fun hr => hend listed a w (hall listed hsz hr) hI, fun i hi => ?_⟩
    obtain ⟨h0, o, ho, hd⟩ := mem_ready.1 hi
    obtain ⟨hg, hw⟩ := hstep listed a w i o ho h0 hd hI
    unfold wpOp
    rw [ho]
    have hwant : Region.wanted o (yielded ops a.tmps) = true := by unfold Region.wanted; rw [hg]
    simp only [hwant, if_true]
    refine Or.inl (Oper.wp_mono (fun a' w' h => ih _ a' w' (by simpa using hsz) ?_ h) hw)
    have := unlB_set h0
    omega
theorem size_put (a : Act) (d : Option Nat) (v : Value) : (a.put d v).tmps.size = a.tmps.size := by
  unfold Act.put; cases d <;> simp
theorem defs_put (a : Act) (d : Option Nat) (v : Value) : (a.put d v).defers = a.defers := by
  unfold Act.put; cases d <;> rfl
theorem getD_set_ne {listed : Array Bool} {i j : Nat} (d : Bool) (h : i ≠ j) : (listed.setIfInBounds i true).getD j d = listed.getD j d := by
  simp only [Array.getD_eq_getD_getElem?, Array.getElem?_setIfInBounds_ne h]
theorem listed_of {listed : Array Bool} {i j : Nat} (h : (listed.setIfInBounds i true).getD j true = true) (hij : j ≠ i) : listed.getD j true = true := by
  rw [getD_set_ne true (Ne.symm hij)] at h; exact h
theorem listed_true {listed : Array Bool} {i : Nat} (h : listed.getD i false = true) : listed.getD i true = true := by
  rcases Nat.lt_or_ge i listed.size with h' | h'
  · simpa [h'] using h
  · simp [Array.getElem?_eq_none h']
theorem act_ext {a a' : Act} (hd : a.defers = a'.defers) (hs : a.tmps.size = a'.tmps.size) (h : ∀ k, k < a.tmps.size → a.eval (.tmp k) = a'.eval (.tmp k)) : a = a' := by
  obtain ⟨t, d⟩ := a
  obtain ⟨t', d'⟩ := a'
  simp only at hd hs
  subst hd
  congr 1
  apply Array.ext hs
  intro i h1 h2
  have := h i h1
  unfold Act.eval at this
  simpa [h1, h2] using this
/-- The law: as wpAny_inv, with operations that are left out. -/
theorem wpAny_inv2 {P : Program} {md : Region.Mode} {ops : Array Oper} {Q : Exit → Act → World → Prop} (I : Array Bool → Act → World → Prop)
    (hdep : ∀ (i : Nat) o, ops[i]? = some o → ∀ e ∈ o.after, Region.binds md e = true → e.on < i)
    (hend : ∀ listed a w, (∀ i : Nat, listed.getD i true = true) → I listed a w → Q .normal a w)
    (hstep : ∀ (listed : Array Bool) a w (i : Nat) o, ops[i]? = some o → listed.getD i true = false → (∀ e ∈ o.after, Region.binds md e = true → listed.getD e.on false = true) → I listed a w →
      (if Region.wanted o (yielded ops a.tmps) = true then o.wp P a w (I (listed.setIfInBounds i true)) Q else I (listed.setIfInBounds i true) (a.put o.dst undef) w)) :
    ∀ (fuel : Nat) (listed : Array Bool) (a : Act) (w : World), listed.size = ops.size → unlB listed ≤ fuel → I listed a w → wpAny P md ops Q fuel listed a w := by
  have hall : ∀ listed : Array Bool, listed.size = ops.size → Region.ready md ops listed = [] → ∀ i : Nat, listed.getD i true = true := by
    intro listed hsz hr i
    induction i using Nat.strongRecOn with
    | ind i ih =>
      cases h : listed.getD i true
      · exfalso
        have hi : i < listed.size := by
          rcases Nat.lt_or_ge i listed.size with h' | h'
          · exact h'
          · simp [Array.getElem?_eq_none h'] at h
        obtain ⟨o, ho⟩ : ∃ o, ops[i]? = some o := ⟨ops[i]'(by omega), by simp [← hsz, hi]⟩
        have : i ∈ Region.ready md ops listed := mem_ready.2 ⟨h, o, ho, fun e he hb => by
          have h1 := hdep i o ho e he hb
          have h2 := ih e.on h1
          have h3 : e.on < listed.size := by omega
          simpa [h3] using h2⟩
        rw [hr] at this; simp at this
      · rfl
  intro fuel
  induction fuel with
  | zero =>
    intro listed a w hsz hu hI
    have ha := unlB_zero (Nat.le_zero.1 hu)
    refine ⟨?_, hend listed a w ha hI⟩
    cases hr : Region.ready md ops listed with
    | nil => rfl
    | cons x r =>
      have := (mem_ready.1 (show x ∈ Region.ready md ops listed by rw [hr]; simp)).1
      rw [ha x] at this; cases this
  | succ fuel ih =>
    intro listed a w hsz hu hI
    refine ⟨fun hr => hend listed a w (hall listed hsz hr) hI, fun i hi => ?_⟩
    obtain ⟨h0, o, ho, hd⟩ := mem_ready.1 hi
    have hw := hstep listed a w i o ho h0 hd hI
    have hle : unlB (listed.setIfInBounds i true) ≤ fuel := by have := unlB_set h0; omega
    unfold wpOp
    rw [ho]
    simp only
    cases hwt : Region.wanted o (yielded ops a.tmps)
    · rw [hwt] at hw
      simp only [Bool.false_eq_true, if_false] at hw ⊢
      exact ih _ _ w (by simpa using hsz) hle hw
    · rw [hwt] at hw
      simp only [if_true] at hw ⊢
      exact Or.inl (Oper.wp_mono (fun a' w' h => ih _ a' w' (by simpa using hsz) hle h) hw)
/-- What an operation yields. -/
def Gives (P : Program) (o : Oper) (ρ : Operand → Value) (w : World) (R : Value → World → Prop) : Prop :=
  (∃ v w', (execOp ρ o).run P w = .ok (.value v) w' ∧ R v w') ∨ (∃ f args, (execOp ρ o).run P w = .ok (.enter f args) w ∧ Calls P f args w fun e w' => ∃ v, e = .returned v ∧ R v w')
theorem Gives.val {P : Program} {o : Oper} {ρ : Operand → Value} {w w' : World} {R : Value → World → Prop} {v : Value} (h : (execOp ρ o).run P w = .ok (.value v) w') (r : R v w') : Gives P o ρ w R := Or.inl ⟨v, w', h, r⟩
theorem Gives.enter {P : Program} {o : Oper} {ρ : Operand → Value} {w : World} {R : Value → World → Prop} {f : FuncId} {args : Array Value} (h : (execOp ρ o).run P w = .ok (.enter f args) w) (c : Calls P f args w fun e w' => ∃ v, e = .returned v ∧ R v w') : Gives P o ρ w R := Or.inr ⟨f, args, h, c⟩
theorem Gives.wp {P : Program} {o : Oper} {a : Act} {w : World} {R : Value → World → Prop} {K : Act → World → Prop} {Q : Exit → Act → World → Prop} (h : Gives P o a.eval w R) (hK : ∀ v w', R v w' → K (a.put o.dst v) w') : o.wp P a w K Q := by
  unfold Oper.wp
  rcases h with ⟨v, w', h1, h2⟩ | ⟨f, args, h1, h2⟩
  · rw [h1]; exact hK v w' h2
  · rw [h1, Oper.upon_enter]
    refine h2.mono fun e w' he => ?_
    obtain ⟨v, rfl, hr⟩ := he
    exact hK v w' hr
structure RegI (T n : Nat) (dst : Nat → Nat) (ok : Nat → Value → Prop) (S : World → Prop) (a0 : Act) (listed : Array Bool) (a : Act) (w : World) : Prop where
  size : a.tmps.size = T
  defs : a.defers = a0.defers
  lsz : listed.size = n
  vals : ∀ i, i < n → listed.getD i true = true → ok i (a.eval (.tmp (dst i)))
  oth : ∀ k, (∀ i, i < n → dst i ≠ k) → a.eval (.tmp k) = a0.eval (.tmp k)
  s : S w
theorem eval_at {a : Act} {k : Nat} (h : k < a.tmps.size) : a.tmps[k]? = some (a.eval (.tmp k)) := by
  unfold Act.eval
  simp [h]
theorem eval_put_other {a : Act} {d k : Nat} (v : Value) (h : d ≠ k) : (a.put (some d) v).eval (.tmp k) = a.eval (.tmp k) := by
  unfold Act.eval Act.put
  simp [h]
theorem eval_put_same {a : Act} {d : Nat} (v : Value) (h : d < a.tmps.size) : (a.put (some d) v).eval (.tmp d) = v := by
  unfold Act.eval Act.put
  simp [h]
theorem region_ok {P : Program} {id : Nat} {ops : Array Oper} {Q : Exit → Act → World → Prop} {a : Act} {w : World} (T n : Nat) (dst : Nat → Nat) (dep : Nat → List Nat) (ok : Nat → Value → Prop) (S : World → Prop)
    (hm : P.follows .mixedOrders = true) (hn : ops.size = n) (hinj : ∀ i j, i < n → j < n → dst i = dst j → i = j) (h0 : ∀ i, i < n → dst i < T) (hT : a.tmps.size = T)
    (hg : ∀ (i : Nat) o, ops[i]? = some o → o.dst = some (dst i) ∧ (∀ d ∈ dep i, d < i ∧ ∃ e ∈ o.after, e.on = d ∧ Region.binds .any e = true) ∧ ∀ e ∈ o.after, Region.binds .any e = true → e.on < i)
    (hx : ∀ (i : Nat) o, ops[i]? = some o → ∀ (a' : Act) w', S w' → (∀ k, (∀ i, i < n → dst i ≠ k) → a'.eval (.tmp k) = a.eval (.tmp k)) → (∀ j ∈ dep i, ok j (a'.eval (.tmp (dst j)))) →
      (o.guard = none ∧ Gives P o a'.eval w' fun v w'' => ok i v ∧ S w'') ∨
      (∃ j b c, o.guard = some (j, b) ∧ j ∈ dep i ∧ a'.eval (.tmp (dst j)) = .bool c ∧ (c = b → Gives P o a'.eval w' fun v w'' => ok i v ∧ S w'') ∧ (c ≠ b → ok i undef)))
    (hS : S w.drew)
    (hQ : ∀ a' w', a'.tmps.size = T → a'.defers = a.defers → (∀ k, (∀ i, i < n → dst i ≠ k) → a'.eval (.tmp k) = a.eval (.tmp k)) → (∀ i, i < n → ok i (a'.eval (.tmp (dst i)))) → S w' → Q .normal a' w') :
    (Code.region id ops true).wp P Q a w := by
  refine wp_region_any hm (wpAny_inv2 (I := RegI T n dst ok S a) ?_ ?_ ?_ ops.size _ a _ (by simp) ?_ ?_)
  · intro i o ho e he hb
    exact (hg i o ho).2.2 e he hb
  · intro listed a' w' hall h
    exact hQ a' w' h.size h.defs h.oth (fun i hi => h.vals i hi (hall i)) h.s
  · intro listed a' w' i o ho hl hdeps h
    obtain ⟨g1, g2, g3⟩ := hg i o ho
    have hi : i < n := by rw [← hn]; exact (Array.getElem?_eq_some_iff.1 ho).1
    have hd : ∀ j ∈ dep i, ok j (a'.eval (.tmp (dst j))) := by
      intro j hj
      obtain ⟨hji, e, he, h1, h2⟩ := g2 j hj
      exact h.vals j (by omega) (by rw [← h1]; exact listed_true (hdeps e he h2))
    have hdi := h0 i hi
    have put : ∀ v w'', ok i v ∧ S w'' → RegI T n dst ok S a (listed.setIfInBounds i true) (a'.put o.dst v) w'' := by
      intro v w'' ⟨e1, e2⟩
      rw [g1]
      refine ⟨by rw [size_put]; exact h.size, by rw [defs_put]; exact h.defs, by simpa using h.lsz, ?_, ?_, e2⟩
      · intro j hj hjl
        by_cases e : j = i
        · subst e; rw [eval_put_same _ (by rw [h.size]; exact hdi)]; exact e1
        · rw [eval_put_other _ (fun e3 => e (hinj i j hi hj e3).symm)]; exact h.vals j hj (listed_of hjl e)
      · intro k hk; rw [eval_put_other _ (hk i hi)]; exact h.oth k hk
    rcases hx i o ho a' w' h.s h.oth hd with ⟨x1, x2⟩ | ⟨j, b, c, x1, x2, x3, x4, x5⟩
    · have hwant : Region.wanted o (yielded ops a'.tmps) = true := by unfold Region.wanted; rw [x1]
      rw [if_pos hwant]
      exact x2.wp put
    · obtain ⟨hji, _⟩ := g2 j x2
      obtain ⟨oj, hoj⟩ : ∃ oj, ops[j]? = some oj := ⟨ops[j]'(by omega), by simp⟩
      have gj := (hg j oj hoj).1
      have hy : yielded ops a'.tmps j = some c := by
        unfold yielded
        rw [hoj]
        simp only [Option.bind_some, gj]
        rw [eval_at (by rw [h.size]; exact h0 j (by omega)), x3]
      have hwant : Region.wanted o (yielded ops a'.tmps) = (some c == some b) := by unfold Region.wanted; rw [x1]; simp only [hy]
      by_cases e : c = b
      · rw [if_pos (by rw [hwant, e]; simp)]
        exact (x4 e).wp put
      · rw [if_neg (by rw [hwant]; simpa using e)]
        exact put _ _ ⟨x5 e, h.s⟩
  · unfold unlB
    have := List.countP_le_length (p := fun x => !x) (l := (Array.replicate ops.size false).toList)
    simpa using this
  · refine ⟨hT, rfl, by simp [hn], ?_, fun _ _ => rfl, hS⟩
    intro i hi hl; simp [hn, hi] at hl
/-- The frame behind such a region, whose slots stand side by side. -/
theorem act_mix {a a' : Act} {l : List Value} (lo n : Nat) (hl : a.tmps = l.toArray) (hs : a'.tmps.size = a.tmps.size) (hd : a'.defers = a.defers) (hn : lo + n ≤ l.length)
    (ho : ∀ k, (k < lo ∨ lo + n ≤ k) → a'.eval (.tmp k) = a.eval (.tmp k)) :
    ∃ us : List Value, us.length = n ∧ (∀ i, i < n → us.getD i undef = a'.eval (.tmp (lo + i))) ∧ a' = { tmps := (l.take lo ++ (us ++ l.drop (lo + n))).toArray, defers := a.defers } := by
  have hsl : a'.tmps.size = l.length := by rw [hs, hl]; simp
  refine ⟨(List.range n).map fun i => a'.eval (.tmp (lo + i)), by simp, fun i hi => by simp [hi], ?_⟩
  refine act_ext hd (by rw [hsl]; simp; omega) fun k hk => ?_
  have hk2 : k < l.length := by omega
  have e0 : ∀ (z : List Value) (b : Act), b.tmps = z.toArray → b.eval (.tmp k) = z.getD k undef := by
    intro z b hb; unfold Act.eval; rw [hb]; simp [List.getD_eq_getElem?_getD]
  refine Eq.trans ?_ (e0 (l.take lo ++ (((List.range n).map fun i => a'.eval (.tmp (lo + i))) ++ l.drop (lo + n))) { tmps := (l.take lo ++ (((List.range n).map fun i => a'.eval (.tmp (lo + i))) ++ l.drop (lo + n))).toArray, defers := a.defers } rfl).symm
  rw [List.getD_eq_getElem?_getD]
  by_cases h1 : k < lo
  · rw [ho k (Or.inl h1), e0 l a hl, List.getElem?_append, if_pos (by rw [List.length_take]; omega), List.getElem?_take, if_pos h1, List.getD_eq_getElem?_getD]
  · rw [List.getElem?_append, if_neg (by rw [List.length_take]; omega), List.length_take, Nat.min_eq_left (by omega)]
    by_cases h2 : k < lo + n
    · rw [List.getElem?_append, if_pos (by rw [List.length_map, List.length_range]; omega), List.getElem?_map, List.getElem?_range (by omega)]
      show _ = a'.eval (.tmp (lo + (k - lo)))
      rw [show lo + (k - lo) = k by omega]
    · rw [ho k (Or.inr (by omega)), e0 l a hl, List.getElem?_append, if_neg (by rw [List.length_map, List.length_range]; omega), List.length_map, List.length_range, List.getElem?_drop, List.getD_eq_getElem?_getD]
      rw [show lo + n + (k - lo - n) = k by omega]

theorem getD_set_same {listed : Array Bool} {i : Nat} : (listed.setIfInBounds i true).getD i true = true := by
  rcases Nat.lt_or_ge i listed.size with h | h
  · simp [h]
  · simp [h]
structure RegS (T n : Nat) (dst : Nat → Nat) (dep : Nat → List Nat) (ok : Nat → Value → Prop) (S0 S1 : World → Prop) (a0 : Act) (listed : Array Bool) (a : Act) (w : World) : Prop where
  size : a.tmps.size = T
  defs : a.defers = a0.defers
  lsz : listed.size = n + 1
  vals : ∀ i, i < n → listed.getD i true = true → ok i (a.eval (.tmp (dst i)))
  oth : ∀ k, (∀ i, i < n → dst i ≠ k) → a.eval (.tmp k) = a0.eval (.tmp k)
  cl : ∀ i, i < n → listed.getD i true = true → ∀ j ∈ dep i, listed.getD j true = true
  dn : listed.getD n true = true → ∀ i, i < n → listed.getD i true = true
  s0 : listed.getD n true = false → S0 w
  s1 : listed.getD n true = true → S1 w
/-- A region of operations without guards, some of them calls, that come in any order; the last one stores, behind all others. -/
theorem region_st {P : Program} {id : Nat} {ops : Array Oper} {Q : Exit → Act → World → Prop} {a : Act} {w : World} (T n : Nat) (dst : Nat → Nat) (dep : Nat → List Nat) (ok : Nat → Value → Prop) (S0 S1 : World → Prop)
    (hm : P.follows .mixedOrders = true) (hn : ops.size = n + 1) (hinj : ∀ i j, i < n → j < n → dst i = dst j → i = j) (h0 : ∀ i, i < n → dst i < T) (hT : a.tmps.size = T)
    (hg : ∀ (i : Nat) o, ops[i]? = some o → (i < n → o.dst = some (dst i)) ∧ (i = n → o.dst = none) ∧ o.guard = none ∧ (∀ d ∈ dep i, d < i ∧ ∃ e ∈ o.after, e.on = d ∧ Region.binds .any e = true) ∧ ∀ e ∈ o.after, Region.binds .any e = true → e.on < i)
    (hup : ∀ i, i < n → ∃ j, j ≤ n ∧ i < j ∧ i ∈ dep j)
    (hx : ∀ (i : Nat) o, i < n → ops[i]? = some o → ∀ (a' : Act) w', S0 w' → (∀ k, (∀ i, i < n → dst i ≠ k) → a'.eval (.tmp k) = a.eval (.tmp k)) → (∀ j ∈ dep i, ok j (a'.eval (.tmp (dst j)))) → Gives P o a'.eval w' fun v w'' => ok i v ∧ S0 w'')
    (hst : ∀ o, ops[n]? = some o → ∀ (a' : Act) w', S0 w' → (∀ k, (∀ i, i < n → dst i ≠ k) → a'.eval (.tmp k) = a.eval (.tmp k)) → (∀ i, i < n → ok i (a'.eval (.tmp (dst i)))) → ∃ w'', (execOp a'.eval o).run P w' = .ok .skip w'' ∧ S1 w'')
    (hS : S0 w.drew)
    (hQ : ∀ a' w', a'.tmps.size = T → a'.defers = a.defers → (∀ k, (∀ i, i < n → dst i ≠ k) → a'.eval (.tmp k) = a.eval (.tmp k)) → (∀ i, i < n → ok i (a'.eval (.tmp (dst i)))) → S1 w' → Q .normal a' w') :
    (Code.region id ops true).wp P Q a w := by
  refine wp_region_any hm (wpAny_inv2 (I := RegS T n dst dep ok S0 S1 a) ?_ ?_ ?_ ops.size _ a _ (by simp) ?_ ?_)
  · intro i o ho e he
    exact (hg i o ho).2.2.2.2 e he
  · intro listed a' w' hall h
    exact hQ a' w' h.size h.defs h.oth (fun i hi => h.vals i hi (hall i)) (h.s1 (hall n))
  · intro listed a' w' i o ho hl hdeps h
    obtain ⟨g1, g1', g2, g3, g4⟩ := hg i o ho
    have hi : i < n + 1 := by rw [← hn]; exact (Array.getElem?_eq_some_iff.1 ho).1
    have hwant : Region.wanted o (yielded ops a'.tmps) = true := by unfold Region.wanted; rw [g2]
    rw [if_pos hwant]
    have hdl : ∀ j ∈ dep i, listed.getD j true = true := by
      intro j hj
      obtain ⟨_, e, he, h1, h2⟩ := g3 j hj
      rw [← h1]; exact listed_true (hdeps e he h2)
    by_cases hin : i = n
    · subst hin
      have all : ∀ k j, j + k + 1 = i → listed.getD j true = true := by
        intro k
        induction k using Nat.strongRecOn with
        | ind k ih =>
          intro j hj
          obtain ⟨m, hm1, hm2, hm3⟩ := hup j (by omega)
          by_cases e : m = i
          · subst e; exact hdl j hm3
          · exact h.cl m (by omega) (ih (i - 1 - m) (by omega) m (by omega)) j hm3
      have all' : ∀ j, j < i → listed.getD j true = true := fun j hj => all (i - 1 - j) j (by omega)
      obtain ⟨w'', e1, e2⟩ := hst o ho a' w' (h.s0 hl) h.oth (fun j hj => h.vals j hj (all' j hj))
      unfold Oper.wp
      rw [e1]
      show RegS T i dst dep ok S0 S1 a (listed.setIfInBounds i true) (a'.put o.dst undef) w''
      rw [g1' rfl]
      show RegS T i dst dep ok S0 S1 a (listed.setIfInBounds i true) a' w''
      have keepl : ∀ j, j < i → (listed.setIfInBounds i true).getD j true = true := fun j hj => by rw [getD_set_ne true (by omega)]; exact all' j hj
      refine ⟨h.size, h.defs, by simpa using h.lsz, fun j hj _ => h.vals j hj (all' j hj), h.oth, fun j hj _ k hk => ?_, fun _ => keepl, fun hf => ?_, fun _ => e2⟩
      · obtain ⟨oj, hoj⟩ : ∃ oj, ops[j]? = some oj := ⟨ops[j]'(by omega), by simp [hn, show j < i + 1 by omega]⟩
        exact keepl k (by have := ((hg j oj hoj).2.2.2.1 k hk).1; omega)
      · rw [getD_set_same] at hf; cases hf
    · have hi' : i < n := by omega
      have hnl : listed.getD n true = false := by
        cases hq : listed.getD n true
        · rfl
        · have := h.dn hq i hi'; rw [hl] at this; cases this
      have hdi := h0 i hi'
      have hd : ∀ j ∈ dep i, ok j (a'.eval (.tmp (dst j))) := by
        intro j hj
        exact h.vals j (by have := (g3 j hj).1; omega) (hdl j hj)
      refine (hx i o hi' ho a' w' (h.s0 hnl) h.oth hd).wp fun v w'' e2 => ?_
      rw [g1 hi']
      refine ⟨by rw [size_put]; exact h.size, by rw [defs_put]; exact h.defs, by simpa using h.lsz, ?_, ?_, ?_, ?_, ?_, ?_⟩
      · intro j hj hjl
        by_cases e : j = i
        · subst e; rw [eval_put_same _ (by rw [h.size]; exact hdi)]; exact e2.1
        · rw [eval_put_other _ (fun e3 => e (hinj i j hi' hj e3).symm)]; exact h.vals j hj (listed_of hjl e)
      · intro k hk; rw [eval_put_other _ (hk i hi')]; exact h.oth k hk
      · intro j hj hjl k hk
        have low : ∀ k, listed.getD k true = true → (listed.setIfInBounds i true).getD k true = true := by
          intro k hk
          by_cases e : k = i
          · subst e; exact getD_set_same
          · rw [getD_set_ne true (Ne.symm e)]; exact hk
        by_cases e : j = i
        · subst e; exact low k (hdl k hk)
        · exact low k (h.cl j hj (listed_of hjl e) k hk)
      · intro hnn
        rw [getD_set_ne true hin, hnl] at hnn; cases hnn
      · intro _; exact e2.2
      · intro hnn
        rw [getD_set_ne true hin, hnl] at hnn; cases hnn
  · unfold unlB
    have := List.countP_le_length (p := fun x => !x) (l := (Array.replicate ops.size false).toList)
    simpa using this
  · refine ⟨hT, rfl, by simp [hn], ?_, fun _ _ => rfl, ?_, ?_, fun _ => hS, ?_⟩
    · intro i hi hl; simp [hn, show i < n + 1 by omega] at hl
    · intro i hi hl; simp [hn, show i < n + 1 by omega] at hl
    · intro hl; simp [hn] at hl
    · intro hl; simp [hn] at hl

structure RegA (T n : Nat) (dst : Nat → Nat) (dep : Nat → List Nat) (ok : Nat → Value → Prop) (S0 : World → Prop) (R : Value → World → Prop) (a0 : Act) (listed : Array Bool) (a : Act) (w : World) : Prop where
  size : a.tmps.size = T
  defs : a.defers = a0.defers
  lsz : listed.size = n + 2
  vals : ∀ i, i < n → listed.getD i true = true → ok i (a.eval (.tmp (dst i)))
  oth : ∀ k, (∀ i, i < n + 2 → dst i ≠ k) → a.eval (.tmp k) = a0.eval (.tmp k)
  cl : ∀ i, i < n → listed.getD i true = true → ∀ j ∈ dep i, listed.getD j true = true
  dn : listed.getD n true = true → ∀ i, i < n → listed.getD i true = true
  s0 : listed.getD n true = false → S0 w
  s1 : listed.getD n true = true → R (a.eval (.tmp (dst n))) w
  fin : listed.getD (n + 1) true = true → a.eval (.tmp (dst (n + 1))) = a.eval (.tmp (dst n))
  up : listed.getD (n + 1) true = true → listed.getD n true = true
/-- A region of operations without guards that come in any order; the last but one changes memory, behind all others; the last one hands its value on. -/
theorem region_ap {P : Program} {id : Nat} {ops : Array Oper} {Q : Exit → Act → World → Prop} {a : Act} {w : World} (T n : Nat) (dst : Nat → Nat) (dep : Nat → List Nat) (ok : Nat → Value → Prop) (S0 : World → Prop) (R : Value → World → Prop)
    (hm : P.follows .mixedOrders = true) (hn : ops.size = n + 2) (hinj : ∀ i j, i < n + 2 → j < n + 2 → dst i = dst j → i = j) (h0 : ∀ i, i < n + 2 → dst i < T) (hT : a.tmps.size = T)
    (hg : ∀ (i : Nat) o, ops[i]? = some o → o.dst = some (dst i) ∧ o.guard = none ∧ (∀ d ∈ dep i, d < i ∧ ∃ e ∈ o.after, e.on = d ∧ Region.binds .any e = true) ∧ ∀ e ∈ o.after, Region.binds .any e = true → e.on < i)
    (hup : ∀ i, i < n → ∃ j, j ≤ n ∧ i < j ∧ i ∈ dep j) (hdl : n ∈ dep (n + 1))
    (hx : ∀ (i : Nat) o, i < n → ops[i]? = some o → ∀ (a' : Act) w', S0 w' → (∀ k, (∀ i, i < n + 2 → dst i ≠ k) → a'.eval (.tmp k) = a.eval (.tmp k)) → (∀ j ∈ dep i, ok j (a'.eval (.tmp (dst j)))) → Gives P o a'.eval w' fun v w'' => ok i v ∧ S0 w'')
    (hpv : ∀ o, ops[n]? = some o → ∀ (a' : Act) w', S0 w' → (∀ k, (∀ i, i < n + 2 → dst i ≠ k) → a'.eval (.tmp k) = a.eval (.tmp k)) → (∀ i, i < n → ok i (a'.eval (.tmp (dst i)))) → ∀ K : Act → World → Prop, (∀ v w'', R v w'' → K (a'.put (some (dst n)) v) w'') → o.wp P a' w' K Q)
    (hfin : ∀ o, ops[n + 1]? = some o → o.op = .assign (.tmp (dst n)))
    (hS : S0 w.drew)
    (hQ : ∀ a' w' v, a'.tmps.size = T → a'.defers = a.defers → (∀ k, (∀ i, i < n + 2 → dst i ≠ k) → a'.eval (.tmp k) = a.eval (.tmp k)) → a'.eval (.tmp (dst n)) = v → a'.eval (.tmp (dst (n + 1))) = v → R v w' → Q .normal a' w') :
    (Code.region id ops true).wp P Q a w := by
  have hne : dst n ≠ dst (n + 1) := fun e => by have := hinj n (n + 1) (by omega) (by omega) e; omega
  have low : ∀ (listed : Array Bool) (i k : Nat), listed.getD k true = true → (listed.setIfInBounds i true).getD k true = true := by
    intro listed i k hk
    by_cases e : k = i
    · subst e; exact getD_set_same
    · rw [getD_set_ne true (Ne.symm e)]; exact hk
  refine wp_region_any hm (wpAny_inv2 (I := RegA T n dst dep ok S0 R a) ?_ ?_ ?_ ops.size _ a _ (by simp) ?_ ?_)
  · intro i o ho e he
    exact (hg i o ho).2.2.2 e he
  · intro listed a' w' hall h
    exact hQ a' w' _ h.size h.defs h.oth rfl (h.fin (hall _)) (h.s1 (hall n))
  · intro listed a' w' i o ho hl hdeps h
    obtain ⟨g1, g2, g3, g4⟩ := hg i o ho
    have hi : i < n + 2 := by rw [← hn]; exact (Array.getElem?_eq_some_iff.1 ho).1
    have hwant : Region.wanted o (yielded ops a'.tmps) = true := by unfold Region.wanted; rw [g2]
    rw [if_pos hwant]
    have hdi := h0 i hi
    have hdl2 : ∀ j ∈ dep i, listed.getD j true = true := by
      intro j hj
      obtain ⟨_, e, he, h1, h2⟩ := g3 j hj
      rw [← h1]; exact listed_true (hdeps e he h2)
    by_cases hin1 : i = n + 1
    · subst hin1
      have hnl : listed.getD n true = true := hdl2 n hdl
      have e1 : (execOp a'.eval o).run P w' = .ok (.value (a'.eval (.tmp (dst n)))) w' := by unfold execOp; rw [hfin o ho]; rfl
      unfold Oper.wp
      rw [e1]
      show RegA T n dst dep ok S0 R a (listed.setIfInBounds (n + 1) true) (a'.put o.dst _) w'
      rw [g1]
      refine ⟨by rw [size_put]; exact h.size, by rw [defs_put]; exact h.defs, by simpa using h.lsz, ?_, ?_, ?_, ?_, ?_, ?_, ?_, ?_⟩
      · intro j hj _
        rw [eval_put_other _ (fun e => by have := hinj (n + 1) j hi (by omega) e; omega)]
        exact h.vals j hj (h.dn hnl j hj)
      · intro k hk; rw [eval_put_other _ (hk _ hi)]; exact h.oth k hk
      · intro j hj _ k hk
        have hjl := h.dn hnl j hj
        exact low _ _ k (h.cl j hj hjl k hk)
      · intro _ j hj; exact low _ _ j (h.dn hnl j hj)
      · intro hf; rw [low _ _ n hnl] at hf; cases hf
      · intro _; rw [eval_put_other _ (Ne.symm hne)]; exact h.s1 hnl
      · intro _; rw [eval_put_same _ (by rw [h.size]; exact hdi), eval_put_other _ (Ne.symm hne)]
      · intro _; exact low _ _ n hnl
    · by_cases hin : i = n
      · subst hin
        have all : ∀ k j, j + k + 1 = i → listed.getD j true = true := by
          intro k
          induction k using Nat.strongRecOn with
          | ind k ih =>
            intro j hj
            obtain ⟨m, hm1, hm2, hm3⟩ := hup j (by omega)
            by_cases e : m = i
            · subst e; exact hdl2 j hm3
            · exact h.cl m (by omega) (ih (i - 1 - m) (by omega) m (by omega)) j hm3
        have all' : ∀ j, j < i → listed.getD j true = true := fun j hj => all (i - 1 - j) j (by omega)
        have hf1 : listed.getD (i + 1) true = false := by
          cases hq : listed.getD (i + 1) true
          · rfl
          · have := h.up hq; rw [hl] at this; cases this
        refine hpv o ho a' w' (h.s0 hl) h.oth (fun j hj => h.vals j hj (all' j hj)) _ fun v w'' e2 => ?_
        refine ⟨by rw [size_put]; exact h.size, by rw [defs_put]; exact h.defs, by simpa using h.lsz, ?_, ?_, ?_, ?_, ?_, ?_, ?_, ?_⟩
        · intro j hj _
          rw [eval_put_other _ (fun e => by have := hinj i j hi (by omega) e; omega)]
          exact h.vals j hj (all' j hj)
        · intro k hk; rw [eval_put_other _ (hk _ hi)]; exact h.oth k hk
        · intro j hj _ k hk
          obtain ⟨oj, hoj⟩ : ∃ oj, ops[j]? = some oj := ⟨ops[j]'(by omega), by simp [hn, show j < i + 2 by omega]⟩
          exact low _ _ k (all' k (by have := ((hg j oj hoj).2.2.1 k hk).1; omega))
        · intro _ j hj; exact low _ _ j (all' j hj)
        · intro hf; rw [getD_set_same] at hf; cases hf
        · intro _; rw [eval_put_same _ (by rw [h.size]; exact hdi)]; exact e2
        · intro hf; rw [getD_set_ne true (by omega), hf1] at hf; cases hf
        · intro hf; rw [getD_set_ne true (by omega), hf1] at hf; cases hf
      · have hi' : i < n := by omega
        have hnl : listed.getD n true = false := by
          cases hq : listed.getD n true
          · rfl
          · have := h.dn hq i hi'; rw [hl] at this; cases this
        have hf1 : listed.getD (n + 1) true = false := by
          cases hq : listed.getD (n + 1) true
          · rfl
          · have := h.up hq; rw [hnl] at this; cases this
        have hd : ∀ j ∈ dep i, ok j (a'.eval (.tmp (dst j))) := by
          intro j hj
          exact h.vals j (by have := (g3 j hj).1; omega) (hdl2 j hj)
        refine (hx i o hi' ho a' w' (h.s0 hnl) h.oth hd).wp fun v w'' e2 => ?_
        rw [g1]
        refine ⟨by rw [size_put]; exact h.size, by rw [defs_put]; exact h.defs, by simpa using h.lsz, ?_, ?_, ?_, ?_, ?_, ?_, ?_, ?_⟩
        · intro j hj hjl
          by_cases e : j = i
          · subst e; rw [eval_put_same _ (by rw [h.size]; exact hdi)]; exact e2.1
          · rw [eval_put_other _ (fun e3 => e (hinj i j hi (by omega) e3).symm)]; exact h.vals j hj (listed_of hjl e)
        · intro k hk; rw [eval_put_other _ (hk i hi)]; exact h.oth k hk
        · intro j hj hjl k hk
          by_cases e : j = i
          · subst e; exact low _ _ k (hdl2 k hk)
          · exact low _ _ k (h.cl j hj (listed_of hjl e) k hk)
        · intro hnn; rw [getD_set_ne true hin, hnl] at hnn; cases hnn
        · intro _; exact e2.2
        · intro hnn; rw [getD_set_ne true hin, hnl] at hnn; cases hnn
        · intro hnn; rw [getD_set_ne true hin1, hf1] at hnn; cases hnn
        · intro hnn; rw [getD_set_ne true hin1, hf1] at hnn; cases hnn
  · unfold unlB
    have := List.countP_le_length (p := fun x => !x) (l := (Array.replicate ops.size false).toList)
    simpa using this
  · refine ⟨hT, rfl, by simp [hn], ?_, fun _ _ => rfl, ?_, ?_, fun _ => hS, ?_, ?_, ?_⟩
    · intro i hi hl; simp [hn, show i < n + 2 by omega] at hl
    · intro i hi hl; simp [hn, show i < n + 2 by omega] at hl
    · intro hl; simp [hn] at hl
    · intro hl; simp [hn] at hl
    · intro hl; simp [hn] at hl
    · intro hl; simp [hn] at hl
end Go.Proofs.Ytdhchfmefdlloaa
