/- What is proved here: plain facts on releases that are told once. Conditions: none beyond those each theorem states. -/
import Derived.Test.YtdhchfmefdlloaaTm
namespace Go.Proofs.Ytdhchfmefdlloaa

/-- How many tasks are released at a slot. -/
def cntR (now : Int) (l : List Int) : Nat := l.countP (fun p => decide (now % p = 0))
theorem rel_snoc (now : Int) : ∀ (l : List Int) (i : Int) (picks : List Int) (p j : Int), picks.length = cntR now l → now % p = 0 → rel now (l ++ [p]) i (picks ++ [j]) = rel now l i picks ++ [((i + l.length, now), now + cutJ j)]
  | [], i, picks, p, j, hp, h => by
    have : picks = [] := List.eq_nil_of_length_eq_zero (by simpa [cntR] using hp)
    subst this
    simp [rel, h]
  | q :: r, i, picks, p, j, hp, h => by
    rw [List.cons_append]
    unfold rel
    by_cases hq : now % q = 0
    · rw [if_pos hq, if_pos hq]
      have hl : picks.length = cntR now r + 1 := by rw [hp]; simp [cntR, hq]
      obtain ⟨z, zs, rfl⟩ : ∃ z zs, picks = z :: zs := by
        cases picks with
        | nil => simp at hl
        | cons z zs => exact ⟨z, zs, rfl⟩
      rw [List.cons_append, List.cons_append, List.headD_cons, List.headD_cons, List.tail_cons, List.tail_cons, rel_snoc now r (i + 1) zs p j (by simpa using hl) h]
      rw [show i + ((q :: r).length : Int) = i + 1 + (r.length : Int) by simp only [List.length_cons]; omega]
    · rw [if_neg hq, if_neg hq]
      have hl : picks.length = cntR now r := by rw [hp]; simp [cntR, hq]
      rw [rel_snoc now r (i + 1) picks p j hl h]
      rw [show i + ((q :: r).length : Int) = i + 1 + (r.length : Int) by simp only [List.length_cons]; omega]
theorem rel_snoc_no (now : Int) : ∀ (l : List Int) (i : Int) (picks : List Int) (p : Int), now % p ≠ 0 → rel now (l ++ [p]) i picks = rel now l i picks
  | [], i, picks, p, h => by simp [rel, h]
  | q :: r, i, picks, p, h => by
    rw [List.cons_append]
    unfold rel
    by_cases hq : now % q = 0
    · rw [if_pos hq, if_pos hq, rel_snoc_no now r (i + 1) _ p h]
    · rw [if_neg hq, if_neg hq, rel_snoc_no now r (i + 1) _ p h]
theorem cntR_snoc (now : Int) (l : List Int) (p : Int) : cntR now (l ++ [p]) = cntR now l + if now % p = 0 then 1 else 0 := by
  unfold cntR
  rw [List.countP_append]
  by_cases h : now % p = 0 <;> simp [h]
/-- What was told at which slot, what waits, what was wanted. -/
def OnceI (pz : List Int) (s : Nat) (W L T : List Wt) : Prop :=
  T.length + L.length = W.length ∧ (∀ x ∈ T, x ∈ W) ∧ ∀ x ∈ L, x ∈ W ∧ 0 ≤ x.1.1 ∧ x.1.1 < pz.length ∧ x.1.2 < s
theorem OnceI.start (pz : List Int) : OnceI pz 0 [] [] [] := ⟨rfl, by simp, by simp⟩
theorem len_part' (s : Int) (L : List Wt) : (dueL s L).length + (lateL s L).length = L.length := by
  unfold dueL lateL
  rw [List.length_map]
  induction L with
  | nil => rfl
  | cons x l ih =>
    rw [List.filter_cons, List.filter_cons]
    by_cases h : x.2 = s
    · simp [h]; omega
    · simp [h]; omega
theorem OnceI.step {pz : List Int} {s : Nat} {W L T : List Wt} (h : OnceI pz s W L T) (picks : List Int) :
    OnceI pz (s + 1) (W ++ rel s pz 0 picks) (tickL pz s L picks) (T ++ (toldL pz s L picks).map (fun x => (x, (s : Int)))) := by
  obtain ⟨h1, h2, h3⟩ := h
  have hall : ∀ x ∈ L ++ rel s pz 0 picks, x ∈ W ++ rel s pz 0 picks ∧ 0 ≤ x.1.1 ∧ x.1.1 < pz.length ∧ x.1.2 < (s : Int) + 1 := fun x hx => by
    rcases List.mem_append.1 hx with hx | hx
    · obtain ⟨a, b, c, d⟩ := h3 x hx
      exact ⟨List.mem_append_left _ a, b, c, by omega⟩
    · obtain ⟨a, b, c, d, e⟩ := rel_at hx
      exact ⟨List.mem_append_right _ hx, by omega, by omega, by omega⟩
  refine ⟨?_, fun x hx => ?_, fun x hx => ?_⟩
  · unfold tickL toldL
    rw [List.length_append, List.length_map, srt_len, List.length_append]
    have := len_part' s (L ++ rel s pz 0 picks)
    rw [List.length_append] at this
    omega
  · rcases List.mem_append.1 hx with hx | hx
    · exact List.mem_append_left _ (h2 x hx)
    · obtain ⟨y, hy, rfl⟩ := List.mem_map.1 hx
      have hy2 := (srt_perm _).mem_iff.1 hy
      unfold dueL at hy2
      obtain ⟨z, hz, rfl⟩ := List.mem_map.1 hy2
      obtain ⟨hz1, hz2⟩ := List.mem_filter.1 hz
      have e : z.2 = (s : Int) := by simpa using hz2
      have := (hall z hz1).1
      have e2 : (z.1, (s : Int)) = z := Prod.ext rfl e.symm
      show (z.1, (s : Int)) ∈ _
      rw [e2]
      exact this
  · unfold tickL lateL at hx
    exact hall x (List.mem_filter.1 hx).1
end Go.Proofs.Ytdhchfmefdlloaa
