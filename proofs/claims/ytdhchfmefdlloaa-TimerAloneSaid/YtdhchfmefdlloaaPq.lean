/- What is proved here: plain facts on a timer of one period, with the same jitter each time: how many are told, and wait. Conditions: none beyond those each theorem states. -/
import Derived.Test.YtdhchfmefdlloaaTm
namespace Go.Proofs.Ytdhchfmefdlloaa

/-- What waits ahead of a slot. -/
def lc (P j s : Nat) : List Wt := ((List.range s).filter (fun n : Nat => decide (n % P = 0) && decide (s ≤ n + j))).map (fun n : Nat => (((0 : Int), ((n : Nat) : Int)), ((n + j : Nat) : Int)))
def lcA (P j s : Nat) : List Wt := ((List.range (s + 1)).filter (fun n : Nat => decide (n % P = 0) && decide (s ≤ n + j))).map (fun n : Nat => (((0 : Int), ((n : Nat) : Int)), ((n + j : Nat) : Int)))
/-- How many nominal releases there are ahead of a slot. -/
def ctN (P s : Nat) : Nat := ((List.range s).filter (fun n : Nat => decide (n % P = 0))).length
theorem rel_one (P j s : Nat) (hj : j ≤ 1048576) : rel (s : Int) [(P : Int)] 0 [(j : Int)] = if s % P = 0 then [(((0 : Int), (s : Int)), ((s + j : Nat) : Int))] else [] := by
  have e : (s : Int) + cutJ ([(j : Int)].headD 0) = ((s + j : Nat) : Int) := by
    show (s : Int) + cutJ (j : Int) = _
    unfold cutJ
    omega
  have hm : ((s : Int) % (P : Int) = 0) ↔ (s % P = 0) := by omega
  unfold rel
  rw [e]
  by_cases h : s % P = 0
  · rw [if_pos (hm.2 h), if_pos h]; rfl
  · rw [if_neg (fun hc => h (hm.1 hc)), if_neg h]; rfl
theorem lc_rel (P j s : Nat) (hj : j ≤ 1048576) : lc P j s ++ rel (s : Int) [(P : Int)] 0 [(j : Int)] = lcA P j s := by
  rw [rel_one P j s hj]
  unfold lc lcA
  rw [List.range_succ, List.filter_append, List.map_append]
  congr 1
  by_cases h : s % P = 0
  · simp [h]
  · simp [h]
theorem late_lcA (P j s : Nat) : lateL (s : Int) (lcA P j s) = lc P j (s + 1) := by
  unfold lateL lcA lc
  rw [List.filter_map, List.filter_filter]
  congr 1
  apply List.filter_congr
  intro n _
  show ((((n + j : Nat) : Int) != (s : Int)) && (decide (n % P = 0) && decide (s ≤ n + j))) = _
  have e : (((n + j : Nat) : Int) != (s : Int)) = decide (n + j ≠ s) := by
    rw [bne, Bool.eq_iff_iff]
    simp
    omega
  rw [e, Bool.eq_iff_iff]
  simp
  omega
theorem tick_lc (P j s : Nat) (hj : j ≤ 1048576) : tickL [(P : Int)] (s : Int) (lc P j s) [(j : Int)] = lc P j (s + 1) := by
  unfold tickL
  rw [lc_rel P j s hj, late_lcA]
theorem count_one (j s : Nat) : ∀ m : Nat, (List.range m).countP (fun n => decide (n + j = s)) ≤ 1
  | 0 => by simp
  | m + 1 => by
    rw [List.range_succ, List.countP_append]
    by_cases h : m + j = s
    · have : (List.range m).countP (fun n => decide (n + j = s)) = 0 := by
        rw [List.countP_eq_zero]
        intro n hn
        have := List.mem_range.1 hn
        simp
        omega
      rw [this]
      simp [h]
    · have := count_one j s m
      simp [h] at this ⊢
      exact this
theorem told_lc_len (P j s : Nat) (hj : j ≤ 1048576) : (toldL [(P : Int)] (s : Int) (lc P j s) [(j : Int)]).length ≤ 1 := by
  unfold toldL
  rw [srt_len, lc_rel P j s hj]
  unfold dueL lcA
  rw [List.length_map, List.filter_map, List.length_map, List.filter_filter, ← List.countP_eq_length_filter]
  refine Nat.le_trans (List.countP_mono_left ?_) (count_one j s (s + 1))
  intro n _ h
  simp at h ⊢
  omega
theorem len_part (s : Int) (L : List Wt) : (dueL s L).length + (lateL s L).length = L.length := by
  unfold dueL lateL
  rw [List.length_map]
  induction L with
  | nil => rfl
  | cons x l ih =>
    rw [List.filter_cons, List.filter_cons]
    by_cases h : x.2 = s
    · simp [h]; omega
    · simp [h]; omega
theorem ct_succ (P s : Nat) : ctN P (s + 1) = ctN P s + if s % P = 0 then 1 else 0 := by
  unfold ctN
  rw [List.range_succ, List.filter_append, List.length_append]
  by_cases h : s % P = 0
  · simp [h]
  · simp [h]
/-- How many are told at a slot. -/
theorem told_lc_sum (P j s : Nat) (hj : j ≤ 1048576) : (toldL [(P : Int)] (s : Int) (lc P j s) [(j : Int)]).length + (lc P j (s + 1)).length = (lc P j s).length + if s % P = 0 then 1 else 0 := by
  unfold toldL
  rw [srt_len, ← tick_lc P j s hj]
  unfold tickL
  rw [len_part, List.length_append, rel_one P j s hj]
  split <;> simp
theorem lc_mono (P : Nat) {i j : Nat} (s : Nat) (h : i ≤ j) : (lc P i s).length ≤ (lc P j s).length := by
  unfold lc
  rw [List.length_map, List.length_map, ← List.countP_eq_length_filter, ← List.countP_eq_length_filter]
  apply List.countP_mono_left
  intro n _ hn
  simp at hn ⊢
  omega
theorem lc_zero (P j : Nat) : lc P j 0 = [] := rfl
theorem ct_zero (P : Nat) : ctN P 0 = 0 := rfl
theorem ct_le (P s : Nat) : ctN P s ≤ s := by unfold ctN; have := List.length_filter_le (fun n => decide (n % P = 0)) (List.range s); simpa using this
end Go.Proofs.Ytdhchfmefdlloaa
