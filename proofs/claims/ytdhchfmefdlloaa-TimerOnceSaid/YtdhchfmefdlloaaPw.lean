/- What is proved here: plain facts on what was collected of what waits, in whatever order. Conditions: none beyond those each theorem states. -/
import Derived.Test.YtdhchfmefdlloaaTm
namespace Go.Proofs.Ytdhchfmefdlloaa

/-- What was collected, the slots of 'left' being still to come. -/
def Coll (L : List Wt) (left : Int → Bool) (l : List (Int × Int)) : Prop := l.Perm ((L.filter (fun x => !left x.2)).map (·.1))
theorem filter_or_perm {α : Type} (p q : α → Bool) : ∀ L : List α, (∀ x ∈ L, q x = true → p x = false) → (L.filter p ++ L.filter q).Perm (L.filter (fun x => p x || q x))
  | [], _ => List.Perm.refl _
  | x :: r, h => by
    have ih := filter_or_perm p q r (fun y hy => h y (List.mem_cons_of_mem _ hy))
    by_cases hq : q x = true
    · have hp := h x (List.mem_cons_self ..) hq
      simp only [List.filter_cons, hp, hq, Bool.or_true, if_true]
      simp only [Bool.false_eq_true, if_false]
      exact List.perm_middle.trans (ih.cons x)
    · by_cases hp : p x = true
      · simp only [List.filter_cons, hp, Bool.true_or, if_true]
        rw [if_neg hq]
        exact ih.cons x
      · simp only [List.filter_cons]
        rw [if_neg hq, if_neg hp, if_neg (by simp [hp, hq])]
        exact ih
theorem Coll.start (L : List Wt) (left : Int → Bool) (h : ∀ x ∈ L, left x.2 = true) : Coll L left [] := by
  unfold Coll
  rw [List.filter_eq_nil_iff.2 (by intro x hx; simp [h x hx])]
  exact List.Perm.refl _
theorem Coll.step {L : List Wt} {left : Int → Bool} {l : List (Int × Int)} (h : Coll L left l) {s : Int} (hs : left s = true) : Coll L (fun z => left z && z != s) (l ++ dueL s L) := by
  unfold Coll at *
  have h2 : (l ++ dueL s L).Perm (((L.filter (fun x => !left x.2)) ++ L.filter (fun x => x.2 == s)).map (·.1)) := by
    rw [List.map_append]
    exact h.append_right _
  refine h2.trans (((filter_or_perm _ _ L ?_).map _).trans ?_)
  · intro x _ hx
    have : x.2 = s := by simpa using hx
    rw [this, hs]; rfl
  · rw [List.filter_congr (q := fun x : Wt => !(left x.2 && x.2 != s)) ?_]
    intro x _
    cases left x.2 <;> cases hx : (x.2 == s) <;> simp [bne, hx]
theorem Coll.len {L : List Wt} {left : Int → Bool} {l : List (Int × Int)} (h : Coll L left l) : l.length ≤ L.length := by
  rw [h.length_eq, List.length_map]; exact List.length_filter_le _ _
theorem Coll.done {L : List Wt} {left : Int → Bool} {l : List (Int × Int)} (h : Coll L left l) (hl : ∀ s, left s = false) : srt l = waitL L := by
  unfold Coll at h
  rw [List.filter_eq_self.2 (by intro x _; simp [hl])] at h
  exact srt_of_perm h
theorem due_nonempty {s : Int} {L : List Wt} {x : Wt} (hx : x ∈ L) (h : x.2 = s) : dueL s L ≠ [] := by
  intro e
  have : x.1 ∈ dueL s L := List.mem_map.2 ⟨x, List.mem_filter.2 ⟨hx, by simp [h]⟩, rfl⟩
  rw [e] at this
  simp at this
end Go.Proofs.Ytdhchfmefdlloaa
