/- What is proved here: plain facts: how stacks flow from an instruction to the next ones, and how deep they get. Conditions: those each theorem states. -/
import Derived.Test.YtkkoekfdncoifaaDoorTy2
namespace Go.Proofs.YtkkoekfdncoifaaDoor

/-- A place has been handed a stack, or two that differ. -/
def HasS (f : Nat → List UInt8 × Bool × Bool) (q : Nat) (X : List UInt8) : Prop := (f q).2.1 = true ∧ ((f q).1 = X ∨ (f q).2.2 = true)
theorem HasS.hand {f : Nat → List UInt8 × Bool × Bool} {q r : Nat} {X s : List UInt8} (h : HasS f q X) : HasS (hand f r s) q X := by
  unfold HasS Go.Proofs.YtkkoekfdncoifaaDoor.hand at *
  by_cases e : q = r
  · subst e
    simp only [if_true]
    refine ⟨trivial, ?_⟩
    rcases h.2 with h2 | h2
    · by_cases e2 : s = X
      · exact Or.inl e2
      · right
        rw [h.1, h2]
        have : (X != s) = true := by simpa using Ne.symm e2
        rw [this]; simp
    · right; rw [h2]; rfl
  · rw [if_neg e]; exact h
theorem HasS.hands {q : Nat} {X s : List UInt8} : ∀ {l : List Nat} {f : Nat → List UInt8 × Bool × Bool}, HasS f q X → HasS (hands f l s) q X
  | [], _, h => h
  | r :: l, f, h => HasS.hands (l := l) (f := Go.Proofs.YtkkoekfdncoifaaDoor.hand f r s) (HasS.hand h)
theorem hands_hit {q : Nat} {s : List UInt8} : ∀ {l : List Nat} {f : Nat → List UInt8 × Bool × Bool}, q ∈ l → HasS (hands f l s) q s
  | [], _, h => by simp at h
  | r :: l, f, h => by
    by_cases e : q = r
    · subst e
      refine HasS.hands (l := l) (f := hand f q s) ?_
      unfold HasS hand
      simp
    · have h2 : q ∈ l := by
        rcases List.mem_cons.1 h with h | h
        · exact absurd h e
        · exact h
      exact hands_hit (l := l) (f := hand f r s) h2
theorem sp_has {L : List (Int × Int × Int)} {p q : Nat} (h : q ∈ nx L p) : ∀ k, p < k → HasS (sp L k) q (bh (at_ L p).1 (at_ L p).2.1 (sf L p))
  | 0, hk => by omega
  | k + 1, hk => by
    rw [sp]
    by_cases e : p = k
    · subst e; exact hands_hit h
    · exact HasS.hands (sp_has h k (by omega))
/-- An instruction hands what is behind it to each one that may come next. -/
theorem flow {L : List (Int × Int × Int)} {p q : Nat} (h : q ∈ nx L p) (he : er L q = 0) : sf L q = bh (at_ L p).1 (at_ L p).2.1 (sf L p) := by
  have h1 := sp_has h q (nx_gt h)
  have h2 := (er_zero he).2.1
  rcases h1.2 with h3 | h3
  · exact h3
  · rw [h2] at h3; cases h3
theorem tE_zero {L : List (Int × Int × Int)} (h : tE L = 0) : wE L = 0 ∧ ∀ p, p < L.length → er L p = 0 := by
  unfold tE at h
  split at h
  · rename_i h1; exact ⟨h1, fun p hp => (fe_zero h hp).2⟩
  · rename_i h1; exact absurd h h1
theorem sf_zero (L : List (Int × Int × Int)) : sf L 0 = [] := rfl
theorem sf_len {L : List (Int × Int × Int)} (h : tE L = 0) {p : Nat} (hp : p < L.length) : (sf L p).length ≤ 16 := by
  unfold tE at h
  split at h
  · exact sp_len (fe_zero h hp).1 p
  · rename_i h1; exact absurd h h1
theorem nx_falls {L : List (Int × Int × Int)} {p : Nat} (h1 : (at_ L p).1 ≠ 19) (h2 : (at_ L p).1 ≠ 25) : p + 1 ∈ nx L p := by
  unfold nx
  rw [if_neg h2, if_neg h1]
  split <;> simp
theorem nx_leads {L : List (Int × Int × Int)} {p : Nat} (h : (at_ L p).1 = 19 ∨ (at_ L p).1 = 20) : led L p ∈ nx L p := by
  unfold nx
  rw [if_neg (by omega)]
  by_cases e : (at_ L p).1 = 19
  · rw [if_pos e]; simp
  · rw [if_neg e, if_pos (by omega)]; simp
theorem dp_mem (P : List (List UInt8)) : ∀ k, 1 ≤ k → ∃ i, i < k ∧ (P.getD i []).length = dp P k
  | 0, h => by omega
  | 1, _ => ⟨0, by omega, by simp [dp]⟩
  | k + 2, _ => by
    obtain ⟨i, h1, h2⟩ := dp_mem P (k + 1) (by omega)
    by_cases e : dp P (k + 1) ≤ (P.getD (k + 1) []).length
    · refine ⟨k + 1, by omega, ?_⟩
      show _ = max (dp P (k + 1)) (P.getD (k + 1) []).length
      omega
    · refine ⟨i, by omega, ?_⟩
      show _ = max (dp P (k + 1)) (P.getD (k + 1) []).length
      omega
theorem dp_ge (P : List (List UInt8)) : ∀ k i, i < k → (P.getD i []).length ≤ dp P k
  | 0, _, h => by omega
  | k + 1, i, h => by
    show _ ≤ max (dp P k) (P.getD k []).length
    by_cases e : i = k
    · subst e; omega
    · have := dp_ge P k i (by omega); omega
end Go.Proofs.YtkkoekfdncoifaaDoor
