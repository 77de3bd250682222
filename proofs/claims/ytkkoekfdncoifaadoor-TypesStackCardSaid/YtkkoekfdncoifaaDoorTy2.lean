/- What is proved here: plain facts on the stacks ahead of the instructions of a row that is whole. Conditions: those each theorem states. -/
import Derived.Test.YtkkoekfdncoifaaDoorTy
namespace Go.Proofs.YtkkoekfdncoifaaDoor

theorem nx_gt {l : List (Int × Int × Int)} {p q : Nat} (h : q ∈ nx l p) : p < q := by
  unfold nx at h
  split at h
  · simp at h
  · split at h
    · simp at h; subst h; unfold led; omega
    · split at h
      · simp at h
        rcases h with rfl | rfl
        · omega
        · unfold led; omega
      · simp at h; omega
theorem nx_lt {l : List (Int × Int × Int)} {p q : Nat} (hw : wE l = 0) (hp : p < l.length) (h : q ∈ nx l p) : q < l.length := by
  obtain ⟨_, he, hj⟩ := wE_zero hw
  have he2 := ends_iff.1 he p hp
  have hj2 := jmps_iff.1 hj p hp
  unfold nx at h
  split at h
  · simp at h
  · rename_i h25
    have hp1 : p + 1 < l.length := by
      have : ¬ p + 1 = l.length := fun e => h25 (he2.2 e)
      omega
    split at h
    · rename_i h19
      simp at h; subst h
      exact (hj2 (by unfold jmp; rw [h19]; rfl)).1
    · split at h
      · rename_i h20
        simp at h
        rcases h with rfl | rfl
        · exact hp1
        · exact (hj2 (by unfold jmp; rw [h20]; rfl)).1
      · simp at h; omega
theorem hands_other {f : Nat → List UInt8 × Bool × Bool} {l : List Nat} {s : List UInt8} {j : Nat} (h : j ∉ l) : hands f l s j = f j := by
  unfold hands
  induction l generalizing f with
  | nil => rfl
  | cons q l ih =>
    rw [List.foldl_cons, ih (by intro h2; exact h (by simp [h2]))]
    unfold hand
    rw [if_neg]
    intro e; exact h (by simp [e])
theorem hands_snoc (f : Nat → List UInt8 × Bool × Bool) (l : List Nat) (q : Nat) (s : List UInt8) : hands f (l ++ [q]) s = hand (hands f l s) q s := by
  unfold hands; rw [List.foldl_append]; rfl
theorem sp_succ {l : List (Int × Int × Int)} {k j : Nat} (h : j ≤ k) : sp l (k + 1) j = sp l k j := by
  rw [sp, hands_other]
  intro h2
  have := nx_gt h2; omega
theorem sp_stable {l : List (Int × Int × Int)} {j : Nat} : ∀ {k : Nat}, j ≤ k → sp l k j = sp l j j
  | 0, h => by obtain rfl : j = 0 := by omega
               rfl
  | k + 1, h => by
    by_cases e : j = k + 1
    · rw [e]
    · rw [sp_succ (by omega), sp_stable (by omega)]
theorem fe_succ {l : List (Int × Int × Int)} {k : Nat} (h : fe l k = 0) : fe l (k + 1) = er l k := by rw [fe, if_pos h]
theorem fe_stay {l : List (Int × Int × Int)} {k : Nat} (h : fe l k ≠ 0) : ∀ {m : Nat}, k ≤ m → fe l m = fe l k
  | 0, hm => by obtain rfl : k = 0 := by omega
                rfl
  | m + 1, hm => by
    by_cases e : k = m + 1
    · rw [e]
    · have := fe_stay h (m := m) (by omega)
      rw [fe, this, if_neg h]
theorem fe_zero {l : List (Int × Int × Int)} : ∀ {m k : Nat}, fe l m = 0 → k < m → fe l k = 0 ∧ er l k = 0
  | 0, k, _, h => by omega
  | m + 1, k, h0, h => by
    have hm : fe l m = 0 := by
      by_cases e : fe l m = 0
      · exact e
      · rw [fe, if_neg e] at h0; exact h0
    by_cases e : k = m
    · subst e; rw [fe_succ hm] at h0; exact ⟨hm, h0⟩
    · exact fe_zero hm (by omega)
theorem tE_err {l : List (Int × Int × Int)} {k : Nat} (hw : wE l = 0) (h : fe l k = 0) (he : er l k ≠ 0) (hk : k < l.length) : tE l = er l k := by
  unfold tE
  rw [if_pos hw]
  have h1 := fe_succ h
  rw [fe_stay (k := k + 1) (by rw [h1]; exact he) (by omega), h1]
theorem er_zero {l : List (Int × Int × Int)} {k : Nat} (h : er l k = 0) : (sp l k k).2.1 = true ∧ (sp l k k).2.2 = false ∧ ((at_ l k).1 = 22 → sf l k = sf l (mt l l.length k).toNat) ∧ bE (at_ l k).1 (at_ l k).2.1 (sf l k) = 0 := by
  unfold er at h
  split at h
  · omega
  · rename_i h1
    split at h
    · omega
    · rename_i h2
      split at h
      · omega
      · rename_i h3
        refine ⟨by simpa using h1, by simpa using h2, fun h4 => ?_, h⟩
        by_cases e : sf l k = sf l (mt l l.length k).toNat
        · exact e
        · exact absurd ⟨h4, e⟩ h3
theorem bE_zero {o a : Int} {s : List UInt8} (h : bE o a s = 0) : (tk o).length ≤ s.length ∧ fit (s.drop (s.length - (tk o).length)) (tk o) = true ∧ (bh o a s).length ≤ 16 := by
  unfold bE at h
  split at h
  · omega
  · split at h
    · split at h
      · omega
      · rename_i h1 h2 h3; exact ⟨by omega, h2, by omega⟩
    · omega
/-- No stack is too long. -/
theorem sp_len {l : List (Int × Int × Int)} : ∀ {k : Nat}, fe l k = 0 → ∀ j, (sp l k j).1.length ≤ 16
  | 0, _, j => by
    unfold sp hand
    split <;> simp
  | k + 1, h, j => by
    have h1 := fe_zero h (Nat.lt_succ_self k)
    have hb := (bE_zero (er_zero h1.2).2.2.2).2.2
    have ih := sp_len h1.1
    rw [sp]
    have gen : ∀ (m : List Nat) (f : Nat → List UInt8 × Bool × Bool), (∀ j, (f j).1.length ≤ 16) → ∀ j, (hands f m (bh (at_ l k).1 (at_ l k).2.1 (sp l k k).1) j).1.length ≤ 16 := by
      intro m
      induction m with
      | nil => intro f hf; exact hf
      | cons q m ih2 =>
        intro f hf
        refine ih2 (hand f q _) (fun j => ?_)
        unfold hand
        split
        · exact hb
        · exact hf j
    exact gen _ _ ih j
theorem tL_len (l : List (Int × Int × Int)) : (tL l).length = l.length := by simp [tL]
theorem tL_at {l : List (Int × Int × Int)} {p : Nat} (h : p < l.length) : (tL l).getD p [] = sf l p := by simp [tL, h]
theorem tL_over {l : List (Int × Int × Int)} {p : Nat} (h : l.length ≤ p) : (tL l).getD p [] = [] := by
  rw [List.getD_eq_getElem?_getD, List.getElem?_eq_none (by rw [tL_len]; exact h)]; rfl
/-- A Next has its Loop ahead. -/
theorem mt_next {l : List (Int × Int × Int)} {k : Nat} (hw : wE l = 0) (hk : k < l.length) (h : (at_ l k).1 = 22) : ∃ t : Nat, mt l l.length k = t ∧ t < k := by
  have hs := (mE_zero (wE_zero hw).1).2
  obtain ⟨t, _, h2, h3, _⟩ := mt_cls hs.1 hk (show cls (at_ l k) = true by unfold cls; rw [h]; rfl)
  exact ⟨t, h3, h2⟩
end Go.Proofs.YtkkoekfdncoifaaDoor
