/- What is proved here: plain facts on what timers tell: fixed ones, and those without jitter. Conditions: none beyond those each theorem states. -/
import Derived.Test.YtdhchfmefdlloaaTm
namespace Go.Proofs.Ytdhchfmefdlloaa

theorem told_fix0 : toldL [2, 3] 0 [] [0, 1] = [(0, 0)] := by
  unfold toldL
  rw [show dueL 0 ([] ++ rel 0 [2, 3] 0 [0, 1]) = [(0, 0)] by decide]
  exact srt_one _
theorem tick_fix0 : tickL [2, 3] 0 [] [0, 1] = [((1, 0), 1)] := by decide
theorem wait_fix0 : waitL [((1, 0), 1)] = [(1, 0)] := srt_one _
theorem told_fix1 : toldL [2, 3] 1 [((1, 0), 1)] [] = [(1, 0)] := by
  unfold toldL
  rw [show dueL 1 ([((1, 0), 1)] ++ rel 1 [2, 3] 0 []) = [(1, 0)] by decide]
  exact srt_one _
theorem tick_fix1 : tickL [2, 3] 1 [((1, 0), 1)] [] = [] := by decide
theorem told_fix2 : toldL [2, 3] 2 [] [-5] = [(0, 2)] := by
  unfold toldL
  rw [show dueL 2 ([] ++ rel 2 [2, 3] 0 [-5]) = [(0, 2)] by decide]
  exact srt_one _
theorem tick_fix2 : tickL [2, 3] 2 [] [-5] = [] := by decide
theorem wait_nil : waitL [] = [] := srt_nil

/-- What is told at a slot, without jitter, of the tasks from i on. -/
def stL (now : Int) : List Int → Int → List (Int × Int)
  | [], _ => []
  | p :: r, i => if now % p = 0 then (i, now) :: stL now r (i + 1) else stL now r (i + 1)
theorem rel_steady (now : Int) : ∀ (pz : List Int) (i : Int), rel now pz i [] = (stL now pz i).map (fun x => (x, now))
  | [], _ => rfl
  | p :: r, i => by
    unfold rel stL
    have e : now + cutJ (([] : List Int).headD 0) = now := by show now + cutJ 0 = now; unfold cutJ; omega
    split
    · rw [e, List.tail_nil, rel_steady now r (i + 1)]; rfl
    · exact rel_steady now r (i + 1)
theorem st_ge {now : Int} : ∀ {pz : List Int} {i : Int} {x : Int × Int}, x ∈ stL now pz i → i ≤ x.1
  | [], _, _, h => by simp [stL] at h
  | p :: r, i, x, h => by
    unfold stL at h
    split at h
    · rcases List.mem_cons.1 h with e | h
      · rw [e]; exact Int.le_refl _
      · have := st_ge h; omega
    · have := st_ge h; omega
theorem st_sorted (now : Int) : ∀ (pz : List Int) (i : Int), (stL now pz i).Pairwise (fun x y => le2 x y = true)
  | [], _ => List.Pairwise.nil
  | p :: r, i => by
    unfold stL
    split
    · refine List.pairwise_cons.2 ⟨fun x hx => le2_iff.2 (Or.inl ?_), st_sorted now r (i + 1)⟩
      have := st_ge hx
      show i < x.1
      omega
    · exact st_sorted now r (i + 1)
theorem told_steady (pz : List Int) (now : Int) : toldL pz now [] [] = stL now pz 0 := by
  unfold toldL dueL
  rw [List.nil_append, rel_steady]
  rw [List.filter_eq_self.2 (by intro x hx; obtain ⟨y, _, rfl⟩ := List.mem_map.1 hx; simp)]
  rw [List.map_map]
  rw [show ((fun x : Wt => x.1) ∘ fun x : Int × Int => (x, now)) = id from rfl, List.map_id]
  exact srt_of_sorted (st_sorted now pz 0)
theorem tick_steady (pz : List Int) (now : Int) : tickL pz now [] [] = [] := by
  unfold tickL lateL
  rw [List.nil_append, rel_steady, List.filter_eq_nil_iff]
  intro x hx
  obtain ⟨y, _, rfl⟩ := List.mem_map.1 hx
  simp
end Go.Proofs.Ytdhchfmefdlloaa
