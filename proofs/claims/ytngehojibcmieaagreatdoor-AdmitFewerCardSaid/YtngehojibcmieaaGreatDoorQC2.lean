/- What is proved here: laws for a region whose operations may come in any order, some of them calls, the last one a store: what is told of each one's value, and of the world, holds at the end. Conditions: those each theorem states. the contract of ceil.Ceilings. Conditions: rows are not too long. -/
import Derived.Test.YtngehojibcmieaaGreatDoorQC1
import Derived.BigFrame
import Derived.Orders
set_option maxRecDepth 100000
set_option maxHeartbeats 8000000
section
namespace Go.Proofs.YtngehojibcmieaaGreatDoor.Kc
open Go.ChangeShapes Go.WideShapes Go.RowKit
def unlB (listed : Array Bool) : Nat := listed.toList.countP (fun x => !x)
theorem unlB_set {listed : Array Bool} {i : Nat} (h : listed.getD i true = false) : unlB (listed.setIfInBounds i true) + 1 = unlB listed := by
 have hi : i < listed.size := by
  rcases Nat.lt_or_ge i listed.size with h' | h'
  ·exact h'
  ·simp [Array.getElem?_eq_none h'] at h
 have hv : listed[i] = false := by simpa [hi] using h
 unfold unlB
 rw [Array.toList_setIfInBounds]
 have e : listed.toList = listed.toList.take i ++ listed[i] :: listed.toList.drop (i + 1) := by
  have := List.take_append_drop i listed.toList
  rw [List.drop_eq_getElem_cons (by simpa using hi)] at this
  simpa using this.symm
 rw [List.set_eq_take_append_cons_drop, if_pos (by simpa using hi)]
 rw [List.countP_append, List.countP_cons]
 conv => rhs; rw [e, List.countP_append, List.countP_cons, hv]
 simp
 omega
theorem unlB_zero {listed : Array Bool} (h : unlB listed = 0) (i : Nat) : listed.getD i true = true := by
 unfold unlB at h
 rw [List.countP_eq_zero] at h
 rcases Nat.lt_or_ge i listed.size with h' | h'
 ·have := h listed[i] (by simp)
  simpa [h'] using this
 ·simp [Array.getElem?_eq_none h']
theorem wpAny_inv {P : Program} {md : Region.Mode} {ops : Array Oper} {Q : Exit → Act → World → Prop} (I : Array Bool → Act → World → Prop)
  (hdep : ∀ (i : Nat) o, ops[i]? = some o → ∀ e ∈ o.after, e.on < i)
  (hend : ∀ listed a w, (∀ i : Nat, listed.getD i true = true) → I listed a w → Q .normal a w)
  (hstep : ∀ (listed : Array Bool) a w (i : Nat) o, ops[i]? = some o → listed.getD i true = false → (∀ e ∈ o.after, Region.binds md e = true → listed.getD e.on false = true) → I listed a w →
   o.guard = none ∧ o.wp P a w (I (listed.setIfInBounds i true)) Q) :
  ∀ (fuel : Nat) (listed : Array Bool) (a : Act) (w : World), listed.size = ops.size → unlB listed ≤ fuel → I listed a w → wpAny P md ops Q fuel listed a w := by
 have hall : ∀ listed : Array Bool, listed.size = ops.size → Region.ready md ops listed = [] → ∀ i : Nat, listed.getD i true = true := by
  intro listed hsz hr i
  induction i using Nat.strongRecOn with
  | ind i ih =>
   cases h : listed.getD i true
   ·exfalso
    have hi : i < listed.size := by
     rcases Nat.lt_or_ge i listed.size with h' | h'
     ·exact h'
     ·simp [Array.getElem?_eq_none h'] at h
    obtain ⟨o, ho⟩ : ∃ o, ops[i]? = some o := ⟨ops[i]'(by omega), by simp [← hsz, hi]⟩
    have : i ∈ Region.ready md ops listed := mem_ready.2 ⟨h, o, ho, fun e he _ => by
     have h1 := hdep i o ho e he
     have h2 := ih e.on h1
     have h3 : e.on < listed.size := by omega
     simpa [h3] using h2⟩
    rw [hr] at this; simp at this
   ·rfl
 intro fuel
 induction fuel with
 | zero =>
  intro listed a w hsz hu hI
  have ha := unlB_zero (Nat.le_zero.1 hu)
  refine ⟨?_, hend listed a w ha hI⟩
  cases hr : Region.ready md ops listed with
  | nil => rfl
  | cons x r =>
   have := (mem_ready.1 (show x ∈ Region.ready md ops listed by rw [hr]; simp)).1
   rw [ha x] at this; cases this
 | succ fuel ih =>
  intro listed a w hsz hu hI
  refine ⟨fun hr => hend listed a w (hall listed hsz hr) hI, fun i hi => ?_⟩
  obtain ⟨h0, o, ho, hd⟩ := mem_ready.1 hi
  obtain ⟨hg, hw⟩ := hstep listed a w i o ho h0 hd hI
  unfold wpOp
  rw [ho]
  have hwant : Region.wanted o (yielded ops a.tmps) = true := by unfold Region.wanted; rw [hg]
  simp only [hwant, if_true]
  refine Or.inl (Oper.wp_mono (fun a' w' h => ih _ a' w' (by simpa using hsz) ?_ h) hw)
  have := unlB_set h0
  omega
theorem size_put (a : Act) (d : Option Nat) (v : Value) : (a.put d v).tmps.size = a.tmps.size := by
 unfold Act.put; cases d <;> simp
theorem defs_put (a : Act) (d : Option Nat) (v : Value) : (a.put d v).defers = a.defers := by
 unfold Act.put; cases d <;> rfl
theorem getD_set_ne {listed : Array Bool} {i j : Nat} (d : Bool) (h : i ≠ j) : (listed.setIfInBounds i true).getD j d = listed.getD j d := by
 simp only [Array.getD_eq_getD_getElem?, Array.getElem?_setIfInBounds_ne h]
theorem listed_of {listed : Array Bool} {i j : Nat} (h : (listed.setIfInBounds i true).getD j true = true) (hij : j ≠ i) : listed.getD j true = true := by
 rw [getD_set_ne true (Ne.symm hij)] at h; exact h
theorem listed_true {listed : Array Bool} {i : Nat} (h : listed.getD i false = true) : listed.getD i true = true := by
 rcases Nat.lt_or_ge i listed.size with h' | h'
 ·simpa [h'] using h
 ·simp [Array.getElem?_eq_none h']
theorem act_ext {a a' : Act} (hd : a.defers = a'.defers) (hs : a.tmps.size = a'.tmps.size) (h : ∀ k, k < a.tmps.size → a.eval (.tmp k) = a'.eval (.tmp k)) : a = a' := by
 obtain ⟨t, d⟩ := a
 obtain ⟨t', d'⟩ := a'
 simp only at hd hs
 subst hd
 congr 1
 apply Array.ext hs
 intro i h1 h2
 have := h i h1
 unfold Act.eval at this
 simpa [h1, h2] using this
theorem wpAny_inv2 {P : Program} {md : Region.Mode} {ops : Array Oper} {Q : Exit → Act → World → Prop} (I : Array Bool → Act → World → Prop)
  (hdep : ∀ (i : Nat) o, ops[i]? = some o → ∀ e ∈ o.after, e.on < i)
  (hend : ∀ listed a w, (∀ i : Nat, listed.getD i true = true) → I listed a w → Q .normal a w)
  (hstep : ∀ (listed : Array Bool) a w (i : Nat) o, ops[i]? = some o → listed.getD i true = false → (∀ e ∈ o.after, Region.binds md e = true → listed.getD e.on false = true) → I listed a w →
   (if Region.wanted o (yielded ops a.tmps) = true then o.wp P a w (I (listed.setIfInBounds i true)) Q else I (listed.setIfInBounds i true) (a.put o.dst undef) w)) :
  ∀ (fuel : Nat) (listed : Array Bool) (a : Act) (w : World), listed.size = ops.size → unlB listed ≤ fuel → I listed a w → wpAny P md ops Q fuel listed a w := by
 have hall : ∀ listed : Array Bool, listed.size = ops.size → Region.ready md ops listed = [] → ∀ i : Nat, listed.getD i true = true := by
  intro listed hsz hr i
  induction i using Nat.strongRecOn with
  | ind i ih =>
   cases h : listed.getD i true
   ·exfalso
    have hi : i < listed.size := by
     rcases Nat.lt_or_ge i listed.size with h' | h'
     ·exact h'
     ·simp [Array.getElem?_eq_none h'] at h
    obtain ⟨o, ho⟩ : ∃ o, ops[i]? = some o := ⟨ops[i]'(by omega), by simp [← hsz, hi]⟩
    have : i ∈ Region.ready md ops listed := mem_ready.2 ⟨h, o, ho, fun e he _ => by
     have h1 := hdep i o ho e he
     have h2 := ih e.on h1
     have h3 : e.on < listed.size := by omega
     simpa [h3] using h2⟩
    rw [hr] at this; simp at this
   ·rfl
 intro fuel
 induction fuel with
 | zero =>
  intro listed a w hsz hu hI
  have ha := unlB_zero (Nat.le_zero.1 hu)
  refine ⟨?_, hend listed a w ha hI⟩
  cases hr : Region.ready md ops listed with
  | nil => rfl
  | cons x r =>
   have := (mem_ready.1 (show x ∈ Region.ready md ops listed by rw [hr]; simp)).1
   rw [ha x] at this; cases this
 | succ fuel ih =>
  intro listed a w hsz hu hI
  refine ⟨fun hr => hend listed a w (hall listed hsz hr) hI, fun i hi => ?_⟩
  obtain ⟨h0, o, ho, hd⟩ := mem_ready.1 hi
  have hw := hstep listed a w i o ho h0 hd hI
  have hle : unlB (listed.setIfInBounds i true) ≤ fuel := by have := unlB_set h0; omega
  unfold wpOp
  rw [ho]
  simp only
  cases hwt : Region.wanted o (yielded ops a.tmps)
  ·rw [hwt] at hw
   simp only [Bool.false_eq_true, if_false] at hw ⊢
   exact ih _ _ w (by simpa using hsz) hle hw
  ·rw [hwt] at hw
   simp only [if_true] at hw ⊢
   exact Or.inl (Oper.wp_mono (fun a' w' h => ih _ a' w' (by simpa using hsz) hle h) hw)
def Gives (P : Program) (o : Oper) (ρ : Operand → Value) (w : World) (R : Value → World → Prop) : Prop :=
 (∃ v w', (execOp ρ o).run P w = .ok (.value v) w' ∧ R v w') ∨ (∃ f args, (execOp ρ o).run P w = .ok (.enter f args) w ∧ Calls P f args w fun e w' => ∃ v, e = .returned v ∧ R v w')
theorem Gives.val {P : Program} {o : Oper} {ρ : Operand → Value} {w w' : World} {R : Value → World → Prop} {v : Value} (h : (execOp ρ o).run P w = .ok (.value v) w') (r : R v w') : Gives P o ρ w R := Or.inl ⟨v, w', h, r⟩
theorem Gives.enter {P : Program} {o : Oper} {ρ : Operand → Value} {w : World} {R : Value → World → Prop} {f : FuncId} {args : Array Value} (h : (execOp ρ o).run P w = .ok (.enter f args) w) (c : Calls P f args w fun e w' => ∃ v, e = .returned v ∧ R v w') : Gives P o ρ w R := Or.inr ⟨f, args, h, c⟩
theorem Gives.wp {P : Program} {o : Oper} {a : Act} {w : World} {R : Value → World → Prop} {K : Act → World → Prop} {Q : Exit → Act → World → Prop} (h : Gives P o a.eval w R) (hK : ∀ v w', R v w' → K (a.put o.dst v) w') : o.wp P a w K Q := by
 unfold Oper.wp
 rcases h with ⟨v, w', h1, h2⟩ | ⟨f, args, h1, h2⟩
 ·rw [h1]; exact hK v w' h2
 ·rw [h1, Oper.upon_enter]
  refine h2.mono fun e w' he => ?_
  obtain ⟨v, rfl, hr⟩ := he
  exact hK v w' hr
theorem eval_put_other {a : Act} {d k : Nat} (v : Value) (h : d ≠ k) : (a.put (some d) v).eval (.tmp k) = a.eval (.tmp k) := by
 unfold Act.eval Act.put
 simp [h]
theorem eval_put_same {a : Act} {d : Nat} (v : Value) (h : d < a.tmps.size) : (a.put (some d) v).eval (.tmp d) = v := by
 unfold Act.eval Act.put
 simp [h]
theorem act_mix {a a' : Act} {l : List Value} (lo n : Nat) (hl : a.tmps = l.toArray) (hs : a'.tmps.size = a.tmps.size) (hd : a'.defers = a.defers) (hn : lo + n ≤ l.length)
  (ho : ∀ k, (k < lo ∨ lo + n ≤ k) → a'.eval (.tmp k) = a.eval (.tmp k)) :
  ∃ us : List Value, us.length = n ∧ (∀ i, i < n → us.getD i undef = a'.eval (.tmp (lo + i))) ∧ a' = { tmps := (l.take lo ++ (us ++ l.drop (lo + n))).toArray, defers := a.defers } := by
 have hsl : a'.tmps.size = l.length := by rw [hs, hl]; simp
 refine ⟨(List.range n).map fun i => a'.eval (.tmp (lo + i)), by simp, fun i hi => by simp [hi], ?_⟩
 refine act_ext hd (by rw [hsl]; simp; omega) fun k hk => ?_
 have hk2 : k < l.length := by omega
 have e0 : ∀ (z : List Value) (b : Act), b.tmps = z.toArray → b.eval (.tmp k) = z.getD k undef := by
  intro z b hb; unfold Act.eval; rw [hb]; simp [List.getD_eq_getElem?_getD]
 refine Eq.trans ?_ (e0 (l.take lo ++ (((List.range n).map fun i => a'.eval (.tmp (lo + i))) ++ l.drop (lo + n))) { tmps := (l.take lo ++ (((List.range n).map fun i => a'.eval (.tmp (lo + i))) ++ l.drop (lo + n))).toArray, defers := a.defers } rfl).symm
 rw [List.getD_eq_getElem?_getD]
 by_cases h1 : k < lo
 ·rw [ho k (Or.inl h1), e0 l a hl, List.getElem?_append, if_pos (by rw [List.length_take]; omega), List.getElem?_take, if_pos h1, List.getD_eq_getElem?_getD]
 ·rw [List.getElem?_append, if_neg (by rw [List.length_take]; omega), List.length_take, Nat.min_eq_left (by omega)]
  by_cases h2 : k < lo + n
  ·rw [List.getElem?_append, if_pos (by rw [List.length_map, List.length_range]; omega), List.getElem?_map, List.getElem?_range (by omega)]
   show _ = a'.eval (.tmp (lo + (k - lo)))
   rw [show lo + (k - lo) = k by omega]
  ·rw [ho k (Or.inr (by omega)), e0 l a hl, List.getElem?_append, if_neg (by rw [List.length_map, List.length_range]; omega), List.length_map, List.length_range, List.getElem?_drop, List.getD_eq_getElem?_getD]
   rw [show lo + n + (k - lo - n) = k by omega]
theorem getD_set_same {listed : Array Bool} {i : Nat} : (listed.setIfInBounds i true).getD i true = true := by
 rcases Nat.lt_or_ge i listed.size with h | h
 ·simp [h]
 ·simp [h]
structure RegS (T n : Nat) (dst : Nat → Nat) (dep : Nat → List Nat) (ok : Nat → Value → Prop) (S0 S1 : World → Prop) (a0 : Act) (listed : Array Bool) (a : Act) (w : World) : Prop where
 size : a.tmps.size = T
 defs : a.defers = a0.defers
 lsz : listed.size = n + 1
 vals : ∀ i, i < n → listed.getD i true = true → ok i (a.eval (.tmp (dst i)))
 oth : ∀ k, (∀ i, i < n → dst i ≠ k) → a.eval (.tmp k) = a0.eval (.tmp k)
 cl : ∀ i, i < n → listed.getD i true = true → ∀ j ∈ dep i, listed.getD j true = true
 dn : listed.getD n true = true → ∀ i, i < n → listed.getD i true = true
 s0 : listed.getD n true = false → S0 w
 s1 : listed.getD n true = true → S1 w
theorem region_st {P : Program} {id : Nat} {ops : Array Oper} {Q : Exit → Act → World → Prop} {a : Act} {w : World} (T n : Nat) (dst : Nat → Nat) (dep : Nat → List Nat) (ok : Nat → Value → Prop) (S0 S1 : World → Prop)
  (hm : P.follows .mixedOrders = true) (hn : ops.size = n + 1) (hinj : ∀ i j, i < n → j < n → dst i = dst j → i = j) (h0 : ∀ i, i < n → dst i < T) (hT : a.tmps.size = T)
  (hg : ∀ (i : Nat) o, ops[i]? = some o → (i < n → o.dst = some (dst i)) ∧ (i = n → o.dst = none) ∧ o.guard = none ∧ (∀ d ∈ dep i, d < i ∧ ∃ e ∈ o.after, e.on = d ∧ Region.binds .any e = true) ∧ ∀ e ∈ o.after, e.on < i)
  (hup : ∀ i, i < n → ∃ j, j ≤ n ∧ i < j ∧ i ∈ dep j)
  (hx : ∀ (i : Nat) o, i < n → ops[i]? = some o → ∀ (a' : Act) w', S0 w' → (∀ k, (∀ i, i < n → dst i ≠ k) → a'.eval (.tmp k) = a.eval (.tmp k)) → (∀ j ∈ dep i, ok j (a'.eval (.tmp (dst j)))) → Gives P o a'.eval w' fun v w'' => ok i v ∧ S0 w'')
  (hst : ∀ o, ops[n]? = some o → ∀ (a' : Act) w', S0 w' → (∀ k, (∀ i, i < n → dst i ≠ k) → a'.eval (.tmp k) = a.eval (.tmp k)) → (∀ i, i < n → ok i (a'.eval (.tmp (dst i)))) → ∃ w'', (execOp a'.eval o).run P w' = .ok .skip w'' ∧ S1 w'')
  (hS : S0 w.drew)
  (hQ : ∀ a' w', a'.tmps.size = T → a'.defers = a.defers → (∀ k, (∀ i, i < n → dst i ≠ k) → a'.eval (.tmp k) = a.eval (.tmp k)) → (∀ i, i < n → ok i (a'.eval (.tmp (dst i)))) → S1 w' → Q .normal a' w') :
  (Code.region id ops true).wp P Q a w := by
 refine wp_region_any hm (wpAny_inv2 (I := RegS T n dst dep ok S0 S1 a) ?_ ?_ ?_ ops.size _ a _ (by simp) ?_ ?_)
 ·intro i o ho e he
  exact (hg i o ho).2.2.2.2 e he
 ·intro listed a' w' hall h
  exact hQ a' w' h.size h.defs h.oth (fun i hi => h.vals i hi (hall i)) (h.s1 (hall n))
 ·intro listed a' w' i o ho hl hdeps h
  obtain ⟨g1, g1', g2, g3, g4⟩ := hg i o ho
  have hi : i < n + 1 := by rw [← hn]; exact (Array.getElem?_eq_some_iff.1 ho).1
  have hwant : Region.wanted o (yielded ops a'.tmps) = true := by unfold Region.wanted; rw [g2]
  rw [if_pos hwant]
  have hdl : ∀ j ∈ dep i, listed.getD j true = true := by
   intro j hj
   obtain ⟨_, e, he, h1, h2⟩ := g3 j hj
   rw [← h1]; exact listed_true (hdeps e he h2)
  by_cases hin : i = n
  ·subst hin
   have all : ∀ k j, j + k + 1 = i → listed.getD j true = true := by
    intro k
    induction k using Nat.strongRecOn with
    | ind k ih =>
     intro j hj
     obtain ⟨m, hm1, hm2, hm3⟩ := hup j (by omega)
     by_cases e : m = i
     ·subst e; exact hdl j hm3
     ·exact h.cl m (by omega) (ih (i - 1 - m) (by omega) m (by omega)) j hm3
   have all' : ∀ j, j < i → listed.getD j true = true := fun j hj => all (i - 1 - j) j (by omega)
   obtain ⟨w'', e1, e2⟩ := hst o ho a' w' (h.s0 hl) h.oth (fun j hj => h.vals j hj (all' j hj))
   unfold Oper.wp
   rw [e1]
   show RegS T i dst dep ok S0 S1 a (listed.setIfInBounds i true) (a'.put o.dst undef) w''
   rw [g1' rfl]
   show RegS T i dst dep ok S0 S1 a (listed.setIfInBounds i true) a' w''
   have keepl : ∀ j, j < i → (listed.setIfInBounds i true).getD j true = true := fun j hj => by rw [getD_set_ne true (by omega)]; exact all' j hj
   refine ⟨h.size, h.defs, by simpa using h.lsz, fun j hj _ => h.vals j hj (all' j hj), h.oth, fun j hj _ k hk => ?_, fun _ => keepl, fun hf => ?_, fun _ => e2⟩
   ·obtain ⟨oj, hoj⟩ : ∃ oj, ops[j]? = some oj := ⟨ops[j]'(by omega), by simp [hn, show j < i + 1 by omega]⟩
    exact keepl k (by have := ((hg j oj hoj).2.2.2.1 k hk).1; omega)
   ·rw [getD_set_same] at hf; cases hf
  ·have hi' : i < n := by omega
   have hnl : listed.getD n true = false := by
    cases hq : listed.getD n true
    ·rfl
    ·have := h.dn hq i hi'; rw [hl] at this; cases this
   have hdi := h0 i hi'
   have hd : ∀ j ∈ dep i, ok j (a'.eval (.tmp (dst j))) := by
    intro j hj
    exact h.vals j (by have := (g3 j hj).1; omega) (hdl j hj)
   refine (hx i o hi' ho a' w' (h.s0 hnl) h.oth hd).wp fun v w'' e2 => ?_
   rw [g1 hi']
   refine ⟨by rw [size_put]; exact h.size, by rw [defs_put]; exact h.defs, by simpa using h.lsz, ?_, ?_, ?_, ?_, ?_, ?_⟩
   ·intro j hj hjl
    by_cases e : j = i
    ·subst e; rw [eval_put_same _ (by rw [h.size]; exact hdi)]; exact e2.1
    ·rw [eval_put_other _ (fun e3 => e (hinj i j hi' hj e3).symm)]; exact h.vals j hj (listed_of hjl e)
   ·intro k hk; rw [eval_put_other _ (hk i hi')]; exact h.oth k hk
   ·intro j hj hjl k hk
    have low : ∀ k, listed.getD k true = true → (listed.setIfInBounds i true).getD k true = true := by
     intro k hk
     by_cases e : k = i
     ·subst e; exact getD_set_same
     ·rw [getD_set_ne true (Ne.symm e)]; exact hk
    by_cases e : j = i
    ·subst e; exact low k (hdl k hk)
    ·exact low k (h.cl j hj (listed_of hjl e) k hk)
   ·intro hnn
    rw [getD_set_ne true hin, hnl] at hnn; cases hnn
   ·intro _; exact e2.2
   ·intro hnn
    rw [getD_set_ne true hin, hnl] at hnn; cases hnn
 ·unfold unlB
  have := List.countP_le_length (p := fun x => !x) (l := (Array.replicate ops.size false).toList)
  simpa using this
 ·refine ⟨hT, rfl, by simp [hn], ?_, fun _ _ => rfl, ?_, ?_, fun _ => hS, ?_⟩
  ·intro i hi hl; simp [hn, show i < n + 1 by omega] at hl
  ·intro i hi hl; simp [hn, show i < n + 1 by omega] at hl
  ·intro hl; simp [hn] at hl
  ·intro hl; simp [hn] at hl
theorem int_info : (Tryz.prog.info? 3).map (fun i => (i.zero, i.size, i.bytes)) = some (some (.int .i64 0), 1, 8) := by kernel_rfl
theorem rowIs_below {W w9 : World} {g : Nat} {t : TypeId} {n : Nat} {f : Nat → Value} (h : W.rowIs g t n f) (hb : Below W.heap.size W w9) : w9.rowIs g t n f := h.of_block (hb.block _ h.lt)
theorem Row.of_is {W : World} {g n : Nat} {l : List Int} (h : W.rowIs g 3 n (fun j => .int .i64 (l.getD j 0))) (hn : n = l.length) : Row W (some ⟨g, 0, none⟩) n l :=
 ⟨hn, fun _ => ⟨g, 0, rfl, h.lt, fun i hi => by rw [Nat.zero_add]; exact h.cell hi⟩⟩
structure PRI (w : World) (gl : Nat) (cs : List Value) (g m : Nat) (f : Nat → Int) (W : World) : Prop where
 bel : Below w.heap.size w W
 cl : ∀ j v, cs[j]? = some v → W.cell? ⟨gl, j, none⟩ = some v
 row : W.rowIs g 3 m (fun j => .int .i64 (f j))
 ge : w.heap.size ≤ g
 ne : gl ≠ g
theorem cell_other {W : World} {p : Addr} {v x : Value} {g q : Nat} (h : W.cell? p = some v) (hne : p.block ≠ g) : (W.setCell ⟨g, q, none⟩ x).cell? p = some v := by
 have hbk : (W.setCell ⟨g, q, none⟩ x).heap[p.block]? = W.heap[p.block]? := Go.Deep.blk_setCell_other _ _ _ _ hne
 exact (World.cell?_of_block hbk).trans h
section
variable {w W w9 : World} {gl g m : Nat} {cs : List Value} {f : Nat → Int}
theorem PRI.alloc (h : PRI w gl cs g m f W) (o : Obj) : PRI w gl cs g m f (W.alloc o) :=
 ⟨h.bel.alloc h.bel.size o, fun j v hj => keep_cell (below_alloc _ _) (h.cl j v hj), h.row.alloc o, h.ge, h.ne⟩
theorem PRI.keep (h : PRI w gl cs g m f W) (hb : Below W.heap.size W w9) : PRI w gl cs g m f w9 :=
 ⟨keep_below h.bel hb, fun j v hj => keep_cell hb (h.cl j v hj), rowIs_below h.row hb, h.ge, h.ne⟩
theorem PRI.set (h : PRI w gl cs g m f W) (q : Nat) (x : Int) : PRI w gl cs g m (fun j => if j = q then x else f j) (W.setCell ⟨g, q, none⟩ (.int .i64 x)) :=
 ⟨h.bel.setCell (p := ⟨g, q, none⟩) h.ge _, fun j v hj => cell_other (h.cl j v hj) h.ne, (h.row.set q (.int .i64 x)).congr (fun j _ => by by_cases e : j = q <;> simp [e]), h.ge, h.ne⟩
theorem PRI.congr {f2 : Nat → Int} (h : PRI w gl cs g m f W) (e : ∀ j, j < m → f j = f2 j) : PRI w gl cs g m f2 W :=
 ⟨h.bel, h.cl, h.row.congr (fun j hj => by rw [e j hj]), h.ge, h.ne⟩
end
def GotN (l : List Int) (w : World) (e : Ending) (w' : World) : Prop :=
 ∃ a n c, e = .returned (.slice a n c) ∧ Row w' a n l ∧ n ≤ c ∧ Below w.heap.size w w' ∧ ∀ p, a = some p → w.heap.size ≤ p.block ∧ p.block < w'.heap.size
theorem ceilings_any (B : Int) (a : Option Addr) (n c : Nat) (L : List UsP) (w : World) (hr : RowU w a n L) (hn : n ≤ 140737488355328) (l : List Int) (hq : cL B L = l) :
  Calls Tryz.prog 70 #[.int .i64 B, .slice a n c] w (GotN l w) := by
 unfold GotN
 have hmf : ∀ (fn : Fn) (first cap : Array Value) (w : World), (Instr.makeFunc fn first cap).run Tryz.prog w = .ok (.func fn first cap) w := fun _ _ _ _ => rfl
 have I1 := Lib.hid (One.new w #[.slice a n c] 128)
 have d0 := I1.out.2 0 _ rfl
 obtain ⟨ok, hok⟩ : ∃ ok, okL B L = ok := ⟨_, rfl⟩
 have CR := Lib.hid (fun W (h : Below w.heap.size w W) => right_any B a n c L W (hr.below h) hn ok hok)
 cases ok
 ·have HR : Hid (l = []) := by show l = []; rw [← hq]; unfold cL; rw [hok]; rfl
  clear hq hok hr
  go_enter Tryz.func70, Tryz.ntmps70
  go_wp2_with (go_at_call 111; refine (CR.out _ I1.out.1).mono ?_; rintro e w1 ⟨rfl, hb1⟩; have J1 := I1.out.keep hb1; have d1 := J1.2 0 _ rfl)
  go_ret
  exact ⟨none, 0, 0, rfl, by rw [HR.out]; exact Row.nil _ _, Nat.le_refl _, J1.1, fun p hp => by cases hp⟩
 have HR : Hid (l = ceilL B L) := by show l = _; rw [← hq]; unfold cL; rw [hok]; rfl
 have O := okL_of hok
 have hn8 : n ≤ 8 := by rw [hr.1]; exact O.len
 obtain ⟨m, rfl⟩ := Int.eq_ofNat_of_zero_le O.b0
 have hm8 : m ≤ 8 := by have := O.b8; omega
 obtain ⟨pl, hpl⟩ : ∃ pl, pl = L.map (·.pr) := ⟨_, rfl⟩
 have HPL := Lib.hid hpl
 have hmk := run_make_row' (P := Tryz.prog) 22 3 (.int .i64 0) 8 Tryz.underlying22 int_info rfl .i64 .i64 n (by omega) (by omega)
 have hmk2 := run_make_row' (P := Tryz.prog) 22 3 (.int .i64 0) 8 Tryz.underlying22 int_info rfl .i64 .i64 m (by omega) (by omega)
 clear hq hok O hpl
 go_enter Tryz.func70, Tryz.ntmps70
 go_wp2_with (go_at_call 111; refine (CR.out _ I1.out.1).mono ?_; rintro e w1 ⟨rfl, hb1⟩; have J1 := I1.out.keep hb1; have d1 := J1.2 0 _ rfl; have d2 := keep_cell (below_alloc w1 (.cells (madeCells #[.int .i64 0] n) 3)) d1)
 have P0 : PRI w w.heap.size [.slice a n c] w1.heap.size n (fun j => if j < 0 then pl.getD j 0 else 0) (w1.alloc (.cells (madeCells #[.int .i64 0] n) 3)) :=
  ⟨J1.1.alloc J1.1.size _, fun j v hj => keep_cell (below_alloc _ _) (J1.2 j v hj), (World.rowIs_made w1 (.int .i64 0) n 3).congr (fun j _ => by rw [if_neg (by omega)]), J1.1.size, by have := hb1.size; simp at this; omega⟩
 generalize w1.heap.size = gp at P0 d2 ⊢
 generalize w1.alloc (.cells (madeCells #[.int .i64 0] n) 3) = W0 at P0 d2 ⊢
 clear hmk CR I1 J1 d0 d1 d2 hb1
 go_loopw [19] (fun i wr => ∃ k : Nat, k ≤ n ∧ i = .int .i64 k ∧ Hid (PRI w w.heap.size [.slice a n c] gp n (fun j => if j < k then pl.getD j 0 else 0) wr)) (fun i _ => n - (intOf i).toNat)
 case atStart => exact ⟨0, by omega, rfl, P0⟩
 case round =>
  obtain ⟨k, hk, rfl, PI⟩ := hrel
  have d1 := PI.out.cl 0 _ rfl
  by_cases hlt : k < n
  ·obtain ⟨b1, o1, u, xa, xn, xc, la, ln, lc, rfl, hB1, hx, _, _, h0, h1, h2⟩ := hr.item PI.out.bel hlt
   have i1 : (0 : Int) ≤ (k : Int) := by omega
   have i2 : (k : Int) < (n : Int) := by omega
   have PA := PI.out.alloc (.cells #[.int .i64 u.pr, .slice xa xn xc, .slice la ln lc] 125)
   have ec := PA.row.cell (i := k) hlt
   have ef := PA.row.frozen k
   have PS : Hid (PRI w w.heap.size [.slice (some ⟨b1, o1, none⟩) n c] gp n (fun j => if j < k + 1 then pl.getD j 0 else 0) ((wr.alloc (.cells #[.int .i64 u.pr, .slice xa xn xc, .slice la ln lc] 125)).setCell ⟨gp, k, none⟩ (.int .i64 u.pr))) :=
    ((PA.set k u.pr).congr (fun j hj => by
     by_cases e : j = k
     ·rw [if_pos e, if_pos (by omega), e, HPL.out, List.getD_eq_getElem?_getD, List.getElem?_map, hx]; rfl
     ·rw [if_neg e]
      by_cases e2 : j < k
      ·rw [if_pos e2, if_pos (by omega)]
      ·rw [if_neg e2, if_neg (by omega)]))
   clear hx PA
   go_wp2
   go_roundw
   case rel => exact ⟨k + 1, by omega, by go_num, PS⟩
   case measure => simp [intOf]; omega
  ·obtain rfl : k = n := by omega
   have HP := PI.out
   have hpn : k = pl.length := by rw [HPL.out, List.length_map]; exact hr.1
   have RP : Row wr (some ⟨gp, 0, none⟩) k pl := Row.of_is (HP.row.congr (fun j hj => by rw [if_pos hj])) hpn
   have hrB := hr.below HP.bel
   have HPN := Lib.hid hpn
   clear hpn
   have P2 : PRI wr w.heap.size [.slice a k c] wr.heap.size m (fun j => if j < 0 then l.getD j 0 else 0) (wr.alloc (.cells (madeCells #[.int .i64 0] m) 3)) :=
    ⟨below_alloc _ _, fun j v hj => keep_cell (below_alloc _ _) (HP.cl j v hj), (World.rowIs_made wr (.int .i64 0) m 3).congr (fun j _ => by rw [if_neg (by omega)]), Nat.le_refl _, Nat.ne_of_lt (cell_lt d1)⟩
   have HB := Lib.hid HP.bel
   have hgp := HP.row.lt
   have HWS := Lib.hid (cell_lt d1)
   clear HP PI
   go_wp2
   generalize hgc : wr.heap.size = gc at P2 ⊢
   have HGC := Lib.hid hgc
   generalize wr.alloc (.cells (madeCells #[.int .i64 0] m) 3) = V0 at P2 ⊢
   generalize wr = wB at *
   clear d1 hmk2 P0 hgc
   go_loopw [34] (fun i wr => ∃ q : Nat, q ≤ m ∧ i = .int .i64 q ∧ Hid (PRI wB w.heap.size [.slice a k c] gc m (fun j => if j < q then l.getD j 0 else 0) wr)) (fun i _ => m - (intOf i).toNat)
   case atStart => exact ⟨0, by omega, rfl, P2⟩
   case round =>
    obtain ⟨q, hq, rfl, PI⟩ := hrel
    by_cases hlt2 : q < m
    ·have i1 : (0 : Int) ≤ (q : Int) := by omega
     have i2 : (q : Int) < (m : Int) := by omega
     have hlq : l.getD q 0 = ceB L (q : Int) := by rw [HR.out]; exact ceilL_get (by omega)
     have hb8 : wr.heap.size ≠ gc := by have := PI.out.row.lt; omega
     have PA := PI.out.alloc (.cells #[.int .i64 q] 3)
     have cb := cells_new wr #[.int .i64 q] 3 0 _ rfl
     have A : Hid (∀ V f', PRI wB w.heap.size [.slice a k c] gc m f' V → V.cell? ⟨wr.heap.size, 0, none⟩ = some (.int .i64 q) → Calls Tryz.prog 51 #[.int .i64 0, .slice (some ⟨gp, 0, none⟩) k k, .func (.func 113) #[] #[.pointer (some ⟨w.heap.size, 0, none⟩), .pointer (some ⟨wr.heap.size, 0, none⟩)]] V fun e w' => e = .returned (.int .i64 (l.getD q 0)) ∧ Below V.heap.size V w') := by
      intro V f' hV hc
      have := greatest_any 113 #[.pointer (some ⟨w.heap.size, 0, none⟩), .pointer (some ⟨wr.heap.size, 0, none⟩)] 0 (some ⟨gp, 0, none⟩) k k pl (fun i => (uAt L i).bl.contains (q : Int)) V (RP.below hV.bel) hn (fun _ _ => rfl)
       (fun W' j hj hb => hasBlock_any j w.heap.size wr.heap.size a k c L q W' (keep_cell hb (hV.cl 0 _ rfl)) (keep_cell hb hc) ((hrB.below hV.bel).below hb) hj)
      rw [show k = L.length by rw [HPN.out, HPL.out, List.length_map], HPL.out, gre_ceil, ← hlq] at this
      rw [show k = L.length by rw [HPN.out, HPL.out, List.length_map]]
      exact this
     have hbc : wr.heap.size ≠ gc := hb8
     clear hb8
     go_wp2_with fail
     have HS1 : Hid (∀ V, PRI wB w.heap.size [.slice a k c] gc m (fun j => if j < q then l.getD j 0 else 0) V → PRI wB w.heap.size [.slice a k c] gc m (fun j => if j < q + 1 then l.getD j 0 else 0) (V.setCell ⟨gc, q, none⟩ (.int .i64 (l.getD q 0)))) := fun V hV => (hV.set q (l.getD q 0)).congr (fun j hj => by
      by_cases e : j = q
      ·rw [if_pos e, if_pos (by omega), e]
      ·rw [if_neg e]
       by_cases e2 : j < q
       ·rw [if_pos e2, if_pos (by omega)]
       ·rw [if_neg e2, if_neg (by omega)])
     refine region_st 45 6 (fun i => 37 + i) (fun i => ([[], [], [], [], [2, 3], [0, 1], [4, 5]] : List (List Nat)).getD i []) (fun i v => ([(fun v : Value => v = .slice (some ⟨gc, 0, none⟩) m m), (fun v : Value => v = .int .i64 (q : Int)), (fun v : Value => v = .slice (some ⟨gp, 0, none⟩) k k), (fun v : Value => v = .func (.func 113) #[] #[.pointer (some ⟨w.heap.size, 0, none⟩), .pointer (some ⟨wr.heap.size, 0, none⟩)]), (fun v : Value => v = .int .i64 (l.getD q 0)), (fun v : Value => v = .pointer (some ⟨gc, q, none⟩))] : List (Value → Prop)).getD i (fun _ => True) v) (fun V => PRI wB w.heap.size [.slice a k c] gc m (fun j => if j < q then l.getD j 0 else 0) V ∧ V.cell? ⟨wr.heap.size, 0, none⟩ = some (.int .i64 (q : Int))) (fun V => PRI wB w.heap.size [.slice a k c] gc m (fun j => if j < q + 1 then l.getD j 0 else 0) V) (by kernel_rfl) rfl (fun i j hi hj h => by (try dsimp only at h); omega) (fun i hi => by (try dsimp only); omega) rfl ?_ ?_ ?_ ?_ ⟨PA.keep ⟨rfl, rfl, rfl, Nat.le_refl _, fun _ _ => rfl⟩, keep_cell ⟨rfl, rfl, rfl, Nat.le_refl _, fun _ _ => rfl⟩ cb⟩ ?_
     ·intro i o ho
      iterate 7 (rcases i with _ | i; (obtain rfl := Option.some.inj ho; first | exact ⟨fun _ => rfl, fun h => absurd h (by decide), rfl, by decide, by decide⟩ | exact ⟨fun h => absurd h (by decide), fun _ => rfl, rfl, by decide, by decide⟩))
      simp at ho
     ·intro i hi
      match i, hi with
      | 0, _ => exact ⟨5, by decide, by decide, by decide⟩
      | 1, _ => exact ⟨5, by decide, by decide, by decide⟩
      | 2, _ => exact ⟨4, by decide, by decide, by decide⟩
      | 3, _ => exact ⟨4, by decide, by decide, by decide⟩
      | 4, _ => exact ⟨6, by decide, by decide, by decide⟩
      | 5, _ => exact ⟨6, by decide, by decide, by decide⟩
      | k + 6, hi => omega
     ·intro i o hin ho a' V hS hoth hd
      have o3 : a'.eval (.tmp 3) = .pointer (some ⟨w.heap.size, 0, none⟩) := hoth 3 (fun i hi => by (try dsimp only); omega)
      have o5 : a'.eval (.tmp 5) = .slice (some ⟨gp, 0, none⟩) k k := hoth 5 (fun i hi => by (try dsimp only); omega)
      have o8 : a'.eval (.tmp 8) = .slice (some ⟨gc, 0, none⟩) m m := hoth 8 (fun i hi => by (try dsimp only); omega)
      have o9 : a'.eval (.tmp 9) = .pointer (some ⟨wr.heap.size, 0, none⟩) := hoth 9 (fun i hi => by (try dsimp only); omega)
      obtain ⟨ρ, hρ⟩ : ∃ ρ, ρ = a'.eval := ⟨_, rfl⟩
      have hc : ∀ v, ρ (.const v) = v := fun v => by rw [hρ]; rfl
      have hfn : ∀ f, ρ (.func f) = .func (.func f) #[] #[] := fun f => by rw [hρ]; rfl
      simp only [← hρ] at hd ⊢
      rw [← hρ] at o3
      rw [← hρ] at o5
      rw [← hρ] at o8
      rw [← hρ] at o9
      clear hρ hoth
      match i, hin, ho with
      | 0, _, ho =>
       obtain rfl := Option.some.inj ho
       clear hd
       exact Gives.val (v := .slice (some ⟨gc, 0, none⟩) m m) (w' := V) (by simp only [execOp]; go_simp) ⟨rfl, hS⟩
      | 1, _, ho =>
       obtain rfl := Option.some.inj ho
       clear hd
       have c1 := hS.2
       exact Gives.val (v := .int .i64 (q : Int)) (w' := V) (by simp only [execOp]; go_simp) ⟨rfl, hS⟩
      | 2, _, ho =>
       obtain rfl := Option.some.inj ho
       clear hd
       exact Gives.val (v := .slice (some ⟨gp, 0, none⟩) k k) (w' := V) (by simp only [execOp]; go_simp) ⟨rfl, hS⟩
      | 3, _, ho =>
       obtain rfl := Option.some.inj ho
       clear hd
       exact Gives.val (v := .func (.func 113) #[] #[.pointer (some ⟨w.heap.size, 0, none⟩), .pointer (some ⟨wr.heap.size, 0, none⟩)]) (w' := V) (by simp only [execOp]; go_simp) ⟨rfl, hS⟩
      | 4, _, ho =>
       obtain rfl := Option.some.inj ho
       have e2 : ρ (.tmp 39) = .slice (some ⟨gp, 0, none⟩) k k := hd 2 (by decide)
       have e3 : ρ (.tmp 40) = .func (.func 113) #[] #[.pointer (some ⟨w.heap.size, 0, none⟩), .pointer (some ⟨wr.heap.size, 0, none⟩)] := hd 3 (by decide)
       clear hd
       refine Gives.enter (f := 51) (args := #[.int .i64 0, .slice (some ⟨gp, 0, none⟩) k k, .func (.func 113) #[] #[.pointer (some ⟨w.heap.size, 0, none⟩), .pointer (some ⟨wr.heap.size, 0, none⟩)]]) (by simp only [execOp]; go_simp) ((A.out _ _ hS.1 hS.2).mono ?_)
       rintro e w8 ⟨rfl, b8⟩
       exact ⟨_, rfl, rfl, hS.1.keep b8, keep_cell b8 hS.2⟩
      | 5, _, ho =>
       obtain rfl := Option.some.inj ho
       have e0 : ρ (.tmp 37) = .slice (some ⟨gc, 0, none⟩) m m := hd 0 (by decide)
       have e1 : ρ (.tmp 38) = .int .i64 (q : Int) := hd 1 (by decide)
       clear hd
       exact Gives.val (v := .pointer (some ⟨gc, q, none⟩)) (w' := V) (by simp only [execOp]; go_simp) ⟨rfl, hS⟩
      | k + 6, hin, _ => exact absurd hin (by omega)
     ·intro o ho a' V hS hoth hd
      have o3 : a'.eval (.tmp 3) = .pointer (some ⟨w.heap.size, 0, none⟩) := hoth 3 (fun i hi => by (try dsimp only); omega)
      have o5 : a'.eval (.tmp 5) = .slice (some ⟨gp, 0, none⟩) k k := hoth 5 (fun i hi => by (try dsimp only); omega)
      have o8 : a'.eval (.tmp 8) = .slice (some ⟨gc, 0, none⟩) m m := hoth 8 (fun i hi => by (try dsimp only); omega)
      have o9 : a'.eval (.tmp 9) = .pointer (some ⟨wr.heap.size, 0, none⟩) := hoth 9 (fun i hi => by (try dsimp only); omega)
      obtain ⟨ρ, hρ⟩ : ∃ ρ, ρ = a'.eval := ⟨_, rfl⟩
      have hc : ∀ v, ρ (.const v) = v := fun v => by rw [hρ]; rfl
      have hfn : ∀ f, ρ (.func f) = .func (.func f) #[] #[] := fun f => by rw [hρ]; rfl
      simp only [← hρ] at hd ⊢
      rw [← hρ] at o3
      rw [← hρ] at o5
      rw [← hρ] at o8
      rw [← hρ] at o9
      clear hρ hoth
      obtain rfl := Option.some.inj ho
      have e4 : ρ (.tmp 41) = .int .i64 (l.getD q 0) := hd 4 (by decide)
      have e5 : ρ (.tmp 42) = .pointer (some ⟨gc, q, none⟩) := hd 5 (by decide)
      clear hd
      have ec := hS.1.row.cell (i := q) hlt2
      have ef := hS.1.row.frozen q
      exact ⟨V.setCell ⟨gc, q, none⟩ (.int .i64 (l.getD q 0)), by simp only [execOp]; go_simp, HS1.out _ hS.1⟩
     ·intro a' V hsz hdef hoth hok hS
      obtain ⟨us, hu1, hu2, rfl⟩ := act_mix 37 6 rfl hsz hdef (by simp) (fun k hk => hoth k (fun i hi => by show 37 + i ≠ k; omega))
      match us, hu1 with
      | [u37, u38, u39, u40, u41, u42], _ =>
       clear hu2 hok
       have HS := Lib.hid hS
       clear hS
       go_wp2
       go_roundw
       case rel => exact ⟨q + 1, by omega, by go_num, HS⟩
       case measure => simp [intOf]; omega
    ·obtain rfl : q = m := by omega
     have hl : q = l.length := by rw [HR.out, ceilL_len]; simp
     have HRW : Hid (Row wr (some ⟨gc, 0, none⟩) q l) := Row.of_is (PI.out.row.congr (fun j hj => by rw [if_pos hj])) hl
     have hbw := keep_below HB.out PI.out.bel
     have hlt3 := PI.out.row.lt
     have hge : w.heap.size ≤ gc := by rw [← HGC.out]; exact HB.out.size
     clear PI
     go_wp2
     go_ret
     exact ⟨_, _, _, rfl, HRW.out, Nat.le_refl _, hbw, fun p hp => by cases hp; exact ⟨hge, hlt3⟩⟩
end Go.Proofs.YtngehojibcmieaaGreatDoor.Kc
end
