/- What is proved here: plain facts on what a timer tells: releases, in order, and what waits. Conditions: none beyond those each theorem states. -/
namespace Go.Proofs.Ytdhchfmefdlloaa

/-- A release that waits: its task, its nominal slot; when it is due. -/
abbrev Wt := (Int × Int) × Int
/-- The order of releases. -/
def le2 (x y : Int × Int) : Bool := decide (x.1 < y.1) || (decide (x.1 = y.1) && decide (x.2 ≤ y.2))
def srt (l : List (Int × Int)) : List (Int × Int) := l.mergeSort le2
def cutJ (z : Int) : Int := min (max z 0) 1048576
/-- What is released at a slot, of the tasks from i on. -/
def rel (now : Int) : List Int → Int → List Int → List Wt
  | [], _, _ => []
  | p :: r, i, picks => if now % p = 0 then ((i, now), now + cutJ (picks.headD 0)) :: rel now r (i + 1) picks.tail else rel now r (i + 1) picks
def dueL (now : Int) (L : List Wt) : List (Int × Int) := (L.filter (fun x => x.2 == now)).map (·.1)
def lateL (now : Int) (L : List Wt) : List Wt := L.filter (fun x => x.2 != now)
/-- What waits behind a Tick; what it tells. -/
def tickL (pz : List Int) (now : Int) (L : List Wt) (picks : List Int) : List Wt := lateL now (L ++ rel now pz 0 picks)
def toldL (pz : List Int) (now : Int) (L : List Wt) (picks : List Int) : List (Int × Int) := srt (dueL now (L ++ rel now pz 0 picks))
def waitL (L : List Wt) : List (Int × Int) := srt (L.map (·.1))

theorem le2_iff {x y : Int × Int} : le2 x y = true ↔ x.1 < y.1 ∨ x.1 = y.1 ∧ x.2 ≤ y.2 := by
  unfold le2; simp
theorem le2_trans (x y z : Int × Int) (h1 : le2 x y = true) (h2 : le2 y z = true) : le2 x z = true := by
  rw [le2_iff] at *; omega
theorem le2_total (x y : Int × Int) : (le2 x y || le2 y x) = true := by
  rw [Bool.or_eq_true, le2_iff, le2_iff]; omega
theorem le2_anti {x y : Int × Int} (h1 : le2 x y = true) (h2 : le2 y x = true) : x = y := by
  rw [le2_iff] at *; exact Prod.ext (by omega) (by omega)
theorem srt_perm (l : List (Int × Int)) : (srt l).Perm l := List.mergeSort_perm l le2
theorem srt_sorted (l : List (Int × Int)) : (srt l).Pairwise (fun x y => le2 x y = true) := List.pairwise_mergeSort le2_trans le2_total l
theorem srt_len (l : List (Int × Int)) : (srt l).length = l.length := (srt_perm l).length_eq
theorem srt_of_sorted {l : List (Int × Int)} (h : l.Pairwise (fun x y => le2 x y = true)) : srt l = l := List.mergeSort_of_pairwise h
theorem eq_of_sorted {l₁ l₂ : List (Int × Int)} (hp : l₁.Perm l₂) (h1 : l₁.Pairwise (fun x y => le2 x y = true)) (h2 : l₂.Pairwise (fun x y => le2 x y = true)) : l₁ = l₂ :=
  hp.eq_of_pairwise (fun _ _ _ _ => le2_anti) h1 h2
theorem srt_of_perm {l₁ l₂ : List (Int × Int)} (hp : l₁.Perm l₂) : srt l₁ = srt l₂ :=
  eq_of_sorted (((srt_perm l₁).trans hp).trans (srt_perm l₂).symm) (srt_sorted l₁) (srt_sorted l₂)
theorem srt_nil : srt [] = [] := by simp [srt]
theorem srt_one (x : Int × Int) : srt [x] = [x] := srt_of_sorted (by simp)

theorem cutJ_range (z : Int) : 0 ≤ cutJ z ∧ cutJ z ≤ 1048576 := by unfold cutJ; omega
theorem rel_len (now : Int) : ∀ (pz : List Int) (i : Int) (picks : List Int), (rel now pz i picks).length ≤ pz.length
  | [], _, _ => Nat.le_refl _
  | p :: r, i, picks => by
    unfold rel
    split
    · have := rel_len now r (i + 1) picks.tail; simp only [List.length_cons]; omega
    · have := rel_len now r (i + 1) picks; simp only [List.length_cons]; omega
theorem rel_at {now : Int} : ∀ {pz : List Int} {i : Int} {picks : List Int} {x : Wt}, x ∈ rel now pz i picks → x.1.2 = now ∧ now ≤ x.2 ∧ x.2 ≤ now + 1048576 ∧ i ≤ x.1.1 ∧ x.1.1 < i + pz.length
  | [], _, _, _, h => by simp [rel] at h
  | p :: r, i, picks, x, h => by
    unfold rel at h
    split at h
    · rcases List.mem_cons.1 h with e | h
      · subst e
        have := cutJ_range (picks.headD 0)
        refine ⟨rfl, ?_, ?_, Int.le_refl _, ?_⟩ <;> simp only [List.length_cons] <;> omega
      · obtain ⟨a, b, c, d, e⟩ := rel_at h
        simp only [List.length_cons]
        omega
    · obtain ⟨a, b, c, d, e⟩ := rel_at h
      simp only [List.length_cons]
      omega
theorem tick_len (pz : List Int) (now : Int) (L : List Wt) (picks : List Int) : (tickL pz now L picks).length ≤ L.length + pz.length := by
  unfold tickL lateL
  have h1 := List.length_filter_le (fun x : Wt => x.2 != now) (L ++ rel now pz 0 picks)
  have h2 := rel_len now pz 0 picks
  rw [List.length_append] at h1
  omega
theorem due_len (now : Int) (L : List Wt) : (dueL now L).length ≤ L.length := by
  unfold dueL; rw [List.length_map]; exact List.length_filter_le _ _
theorem told_len (pz : List Int) (now : Int) (L : List Wt) (picks : List Int) : (toldL pz now L picks).length ≤ L.length + pz.length := by
  unfold toldL
  rw [srt_len]
  have h1 := due_len now (L ++ rel now pz 0 picks)
  have h2 := rel_len now pz 0 picks
  rw [List.length_append] at h1
  omega
theorem wait_len (L : List Wt) : (waitL L).length = L.length := by unfold waitL; rw [srt_len, List.length_map]
/-- What is due at a slot: one release more. -/
theorem due_snoc (s : Int) (L : List Wt) (x : Wt) : dueL s (L ++ [x]) = if x.2 = s then dueL s L ++ [x.1] else dueL s L := by
  unfold dueL
  rw [List.filter_append, List.map_append]
  by_cases h : x.2 = s
  · simp [h]
  · simp [h]
theorem due_late {now s : Int} (L : List Wt) (h : s ≠ now) : dueL s (lateL now L) = dueL s L := by
  unfold dueL lateL
  rw [List.filter_filter]
  congr 1
  apply List.filter_congr
  intro x _
  by_cases hx : x.2 = s
  · simp [hx, h]
  · simp [hx]
theorem due_late_same (now : Int) (L : List Wt) : dueL now (lateL now L) = [] := by
  unfold dueL lateL
  rw [List.filter_filter]
  simp
end Go.Proofs.Ytdhchfmefdlloaa
