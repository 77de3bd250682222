/- What is proved here: a law for a region whose operations may come in any order: what holds at first and behind each operation, whichever comes, holds at the end. Conditions: those the theorem states. -/
import Derived.Test.YtkkoekfdncoifaaDoorKeep
import Derived.Orders
namespace Go.Proofs.YtkkoekfdncoifaaDoor
open Go.ChangeShapes Go.WideShapes Go.RowKit

/-- How many have not come. -/
def unlB (listed : Array Bool) : Nat := listed.toList.countP (fun x => !x)
theorem unlB_set {listed : Array Bool} {i : Nat} (h : listed.getD i true = false) : unlB (listed.setIfInBounds i true) + 1 = unlB listed := by
  have hi : i < listed.size := by
    rcases Nat.lt_or_ge i listed.size with h' | h'
    · exact h'
    · simp [Array.getElem?_eq_none h'] at h
  have hv : listed[i] = false := by simpa [hi] using h
  unfold unlB
  rw [Array.toList_setIfInBounds]
  have e : listed.toList = listed.toList.take i ++ listed[i] :: listed.toList.drop (i + 1) := by
    have := List.take_append_drop i listed.toList
    rw [List.drop_eq_getElem_cons (by simpa using hi)] at this
    simpa using this.symm
  rw [List.set_eq_take_append_cons_drop, if_pos (by simpa using hi)]
  rw [List.countP_append, List.countP_cons]
  conv => rhs; rw [e, List.countP_append, List.countP_cons, hv]
  simp
  omega
theorem unlB_zero {listed : Array Bool} (h : unlB listed = 0) (i : Nat) : listed.getD i true = true := by
  unfold unlB at h
  rw [List.countP_eq_zero] at h
  rcases Nat.lt_or_ge i listed.size with h' | h'
  · have := h listed[i] (by simp)
    simpa [h'] using this
  · simp [Array.getElem?_eq_none h']
/-- The law. -/
theorem wpAny_inv {P : Program} {md : Region.Mode} {ops : Array Oper} {Q : Exit → Act → World → Prop} (I : Array Bool → Act → World → Prop)
    (hdep : ∀ (i : Nat) o, ops[i]? = some o → ∀ e ∈ o.after, e.on < i)
    (hend : ∀ listed a w, (∀ i : Nat, listed.getD i true = true) → I listed a w → Q .normal a w)
    (hstep : ∀ (listed : Array Bool) a w (i : Nat) o, ops[i]? = some o → listed.getD i true = false → (∀ e ∈ o.after, Region.binds md e = true → listed.getD e.on false = true) → I listed a w →
      o.guard = none ∧ o.wp P a w (I (listed.setIfInBounds i true)) Q) :
    ∀ (fuel : Nat) (listed : Array Bool) (a : Act) (w : World), listed.size = ops.size → unlB listed ≤ fuel → I listed a w → wpAny P md ops Q fuel listed a w := by
  have hall : ∀ listed : Array Bool, listed.size = ops.size → Region.ready md ops listed = [] → ∀ i : Nat, listed.getD i true = true := by
    intro listed hsz hr i
    induction i using Nat.strongRecOn with
    | ind i ih =>
      cases h : listed.getD i true
      · exfalso
        have hi : i < listed.size := by
          rcases Nat.lt_or_ge i listed.size with h' | h'
          · exact h'
          · simp [Array.getElem?_eq_none h'] at h
        obtain ⟨o, ho⟩ : ∃ o, ops[i]? = some o := ⟨ops[i]'(by omega), by simp [← hsz, hi]⟩
        have : i ∈ Region.ready md ops listed := mem_ready.2 ⟨h, o, ho, fun e he _ => by
          have h1 := hdep i o ho e he
          have h2 := ih e.on h1
          have h3 : e.on < listed.size := by omega
          simpa [h3] using h2⟩
        rw [hr] at this; simp at this
      · rfl
  intro fuel
  induction fuel with
  | zero =>
    intro listed a w hsz hu hI
    have ha := unlB_zero (Nat.le_zero.1 hu)
    refine ⟨?_, hend listed a w ha hI⟩
    cases hr : Region.ready md ops listed with
    | nil => rfl
    | cons x r =>
      have := (mem_ready.1 (show x ∈ Region.ready md ops listed by rw [hr]; simp)).1
      rw [ha x] at this; cases this
  | succ fuel ih =>
    intro listed a w hsz hu hI
    refine ⟨fun hr => hend listed a w (hall listed hsz hr) hI, fun i hi => ?_⟩
    obtain ⟨h0, o, ho, hd⟩ := mem_ready.1 hi
    obtain ⟨hg, hw⟩ := hstep listed a w i o ho h0 hd hI
    unfold wpOp
    rw [ho]
    have hwant : Region.wanted o (yielded ops a.tmps) = true := by unfold Region.wanted; rw [hg]
    simp only [hwant, if_true]
    refine Or.inl (Oper.wp_mono (fun a' w' h => ih _ a' w' (by simpa using hsz) ?_ h) hw)
    have := unlB_set h0
    omega
end Go.Proofs.YtkkoekfdncoifaaDoor
