/- What is proved here: plain facts on a task in a timer of two, and alone. Conditions: none beyond those each theorem states. -/
import Derived.Test.YtdhchfmefdlloaaTm
namespace Go.Proofs.Ytdhchfmefdlloaa

/-- A release of the second task, as the first one's. -/
def dnD (x : Int × Int) : Int × Int := (0, x.2)
def dnW (x : Wt) : Wt := (dnD x.1, x.2)
def is1 (x : Int × Int) : Bool := x.1 == 1
/-- What waits of the second task. -/
def alW (L : List Wt) : List Wt := (L.filter (fun x => is1 x.1)).map dnW
theorem alW_append (a b : List Wt) : alW (a ++ b) = alW a ++ alW b := by simp [alW]
theorem rel_alone (a b j s : Int) : alW (rel s [a, b] 0 (if s % a = 0 then [j, j] else [j])) = rel s [b] 0 [j] := by
  by_cases h : s % a = 0 <;> by_cases h2 : s % b = 0 <;> simp [rel, h, h2, alW, is1, dnW, dnD]
theorem late_alone (s : Int) (L : List Wt) : alW (lateL s L) = lateL s (alW L) := by
  unfold alW lateL
  rw [List.filter_map, List.filter_filter, List.filter_filter]
  congr 1
  apply List.filter_congr
  intro x _
  show (is1 x.1 && (x.2 != s)) = ((x.2 != s) && is1 x.1)
  exact Bool.and_comm _ _
theorem tick_alone (a b j s : Int) (L : List Wt) : alW (tickL [a, b] s L (if s % a = 0 then [j, j] else [j])) = tickL [b] s (alW L) [j] := by
  unfold tickL
  rw [late_alone, alW_append, rel_alone]
theorem due_alone (s : Int) (L : List Wt) : ((dueL s L).filter is1).map dnD = dueL s (alW L) := by
  unfold dueL alW
  rw [List.filter_map, List.filter_filter, List.filter_map, List.filter_filter, List.map_map, List.map_map]
  rw [show (dnD ∘ fun x : Wt => x.1) = ((fun x : Wt => x.1) ∘ dnW) from rfl]
  congr 1
  apply List.filter_congr
  intro x _
  show (is1 x.1 && (x.2 == s)) = ((x.2 == s) && is1 x.1)
  exact Bool.and_comm _ _
theorem srt_alone (l : List (Int × Int)) : ((srt l).filter is1).map dnD = srt ((l.filter is1).map dnD) := by
  refine eq_of_sorted ((((srt_perm l).filter is1).map dnD).trans (srt_perm _).symm) ?_ (srt_sorted _)
  refine List.pairwise_map.2 ?_
  have h1 : ((srt l).filter is1).Pairwise (fun x y => le2 x y = true) := (srt_sorted l).filter is1
  refine h1.imp_of_mem ?_
  intro x y hx hy h
  have a := (List.mem_filter.1 hx).2
  have b := (List.mem_filter.1 hy).2
  simp [is1] at a b
  rw [le2_iff] at h ⊢
  show (0 : Int) < 0 ∨ (0 : Int) = 0 ∧ x.2 ≤ y.2
  omega
theorem told_alone (a b j s : Int) (L : List Wt) : ((toldL [a, b] s L (if s % a = 0 then [j, j] else [j])).filter is1).map dnD = toldL [b] s (alW L) [j] := by
  unfold toldL
  rw [srt_alone, due_alone, alW_append, rel_alone]
end Go.Proofs.Ytdhchfmefdlloaa
