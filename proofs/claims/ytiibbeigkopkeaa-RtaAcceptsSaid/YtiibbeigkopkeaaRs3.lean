/- What is proved here: plain facts on which other rows count: of the first rows, of rows with more slots, of fewer rows, of a row and those above it turned round. Conditions: those each theorem states. -/
import Derived.Test.YtiibbeigkopkeaaRs2
namespace Go.Proofs.Ytiibbeigkopkeaa

/-- Those that count among the first k. -/
def othTo (l : List RtR) (p : Int) (i k : Nat) : List RtR := (l.zipIdx.take k |>.filter (cnt p i)).map (·.1)
theorem othTo_all (l : List RtR) (p : Int) (i : Nat) : othTo l p i l.length = oth l p i := by
  unfold othTo oth
  rw [List.take_of_length_le (by simp)]
theorem othTo_zero (l : List RtR) (p : Int) (i : Nat) : othTo l p i 0 = [] := rfl
theorem othTo_succ {l : List RtR} {k : Nat} {r : RtR} (h : l[k]? = some r) (p : Int) (i : Nat) : othTo l p i (k + 1) = if k ≠ i ∧ p ≤ r.P then othTo l p i k ++ [r] else othTo l p i k := by
  have hz : l.zipIdx[k]? = some (r, k) := by rw [List.getElem?_zipIdx, h]; simp
  have ht : l.zipIdx.take (k + 1) = l.zipIdx.take k ++ [(r, k)] := by
    rw [List.take_add_one, hz]; rfl
  unfold othTo
  rw [ht, List.filter_append, List.map_append]
  by_cases c : k ≠ i ∧ p ≤ r.P
  · rw [if_pos c, List.filter_cons, if_pos (by unfold cnt; simp [c.1, c.2])]; rfl
  · rw [if_neg c, List.filter_cons, if_neg (by unfold cnt; simp only [Bool.and_eq_true, decide_eq_true_eq]; exact c)]; simp
theorem oth_map {l : List RtR} {f : RtR → RtR} (hf : ∀ r, (f r).P = r.P) (p : Int) (i : Nat) : oth (l.map f) p i = (oth l p i).map f := by
  unfold oth
  rw [List.zipIdx_map, List.filter_map, List.map_map, List.map_map]
  congr 1
  apply List.filter_congr
  rintro ⟨r, k⟩ _
  show cnt p i (f r, k) = cnt p i (r, k)
  unfold cnt
  rw [hf]
theorem oth_fewer (l : List RtR) (p : Int) (i k : Nat) : (oth (l.take k) p i).Sublist (oth l p i) := by
  unfold oth
  refine (List.Sublist.filter _ ?_).map _
  conv => rhs; rw [← List.take_append_drop k l]
  rw [List.zipIdx_append]
  exact List.sublist_append_left _ _
/-- The others that count, the last one first. -/
def back (l : List RtR) (p : Int) (i : Nat) : Nat → List RtR
  | 0 => []
  | k + 1 => (match l[k]? with
    | some r => if k ≠ i ∧ p ≤ r.P then [r] else []
    | none => []) ++ back l p i k
theorem back_perm (l : List RtR) (p : Int) (i : Nat) : ∀ k, k ≤ l.length → (back l p i k).Perm (othTo l p i k)
  | 0, _ => List.Perm.refl _
  | k + 1, hk => by
    have hx : l[k]? = some l[k] := List.getElem?_eq_getElem (by omega)
    have ih := back_perm l p i k (by omega)
    unfold back
    rw [othTo_succ hx, hx]
    by_cases c : k ≠ i ∧ p ≤ (l[k]).P
    · rw [if_pos c]
      simp only [if_pos c]
      exact (List.Perm.append_left _ ih).trans List.perm_append_comm
    · rw [if_neg c]
      simp only [if_neg c, List.nil_append]
      exact ih
/-- A row and others above it: all of these count. -/
theorem oth_front {r : RtR} {o : List RtR} (h : ∀ x ∈ o, r.P ≤ x.P) : oth (r :: o) r.P 0 = o := by
  unfold oth
  rw [List.zipIdx_cons, List.filter_cons, if_neg (by unfold cnt; simp)]
  have hall : ∀ x ∈ o.zipIdx (0 + 1), cnt r.P 0 x = true := by
    rintro ⟨x, k⟩ hx
    have hm := List.mem_zipIdx hx
    unfold cnt
    simp only [Bool.and_eq_true, decide_eq_true_eq]
    exact ⟨by omega, h x (hm.2.2 ▸ List.getElem_mem _)⟩
  rw [List.filter_eq_self.2 hall]
  simp
theorem mem_back {l : List RtR} {p : Int} {i : Nat} : ∀ {k : Nat} {x : RtR}, x ∈ back l p i k → x ∈ l ∧ p ≤ x.P
  | 0, _, h => by simp [back] at h
  | k + 1, x, h => by
    unfold back at h
    rcases List.mem_append.1 h with h | h
    · cases hl : l[k]? with
      | none => rw [hl] at h; simp at h
      | some r =>
        rw [hl] at h
        simp only at h
        by_cases c : k ≠ i ∧ p ≤ r.P
        · rw [if_pos c] at h
          obtain rfl : x = r := by simpa using h
          exact ⟨List.mem_of_getElem? hl, c.2⟩
        · rw [if_neg c] at h; simp at h
    · exact mem_back h
end Go.Proofs.Ytiibbeigkopkeaa
