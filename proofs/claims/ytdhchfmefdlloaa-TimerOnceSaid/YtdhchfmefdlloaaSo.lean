/- What is proved here: rows of pairs of ints in memory, and what sorting leaves of them. Conditions: none beyond those each theorem states. -/
import Derived.Shelf.GgSortFunc.InsertionK
import Derived.Laws.AppendOwn
import Derived.Test.YtdhchfmefdlloaaTm
namespace Go.Proofs.Ytdhchfmefdlloaa
open Go.RowKit Go.Sort

def encP (x : Int × Int) : List Value := [.int .i64 x.1, .int .i64 x.2]
/-- The cells of releases. -/
def duC (l : List (Int × Int)) : List Value := l.flatMap encP
theorem duC_append (a b : List (Int × Int)) : duC (a ++ b) = duC a ++ duC b := by simp [duC]
theorem duC_one (x : Int × Int) : duC [x] = encP x := by simp [duC]
theorem duC_cons (x : Int × Int) (l : List (Int × Int)) : duC (x :: l) = encP x ++ duC l := rfl
theorem duC_len (l : List (Int × Int)) : (duC l).length = l.length * 2 := by
  induction l with
  | nil => rfl
  | cons x l ih => rw [duC_cons, List.length_append, ih, List.length_cons, show (encP x).length = 2 from rfl]; omega
theorem duC_at (l : List (Int × Int)) (i j : Nat) (x : Int × Int) (h : l[i]? = some x) (hj : j < 2) : (duC l)[i * 2 + j]? = (encP x)[j]? := by
  induction l generalizing i with
  | nil => simp at h
  | cons y l ih =>
    rw [duC_cons]
    rcases i with _ | i
    · simp at h
      subst h
      rw [List.getElem?_append_left (by show 0 * 2 + j < 2; omega)]
      rw [show 0 * 2 + j = j by omega]
    · rw [List.getElem?_append_right (by show 2 ≤ (i + 1) * 2 + j; omega)]
      rw [show (i + 1) * 2 + j - (encP y).length = i * 2 + j by show (i + 1) * 2 + j - 2 = _; omega]
      exact ih i (by simpa using h)
theorem encP_cell (x : Int × Int) : ∀ u ∈ encP x, u.oneCell' = true := by
  intro u hu
  simp [encP] at hu
  rcases hu with rfl | rfl <;> rfl
theorem duC_cell (l : List (Int × Int)) : ∀ u ∈ duC l, u.oneCell' = true := by
  intro u hu
  unfold duC at hu
  rw [List.mem_flatMap] at hu
  obtain ⟨r, _, hr⟩ := hu
  exact encP_cell r u hr
theorem flat_duC (l : List (Int × Int)) : (flatK encP 2 l.toArray).toList = duC l := by
  apply List.ext_getElem?
  intro t
  by_cases ht : t < l.length * 2
  · have e1 : (flatK encP 2 l.toArray).toList[t]? = some ((encP l.toArray[t / 2]!)[t % 2]!) := by
      rw [Array.getElem?_toList, Array.getElem?_eq_getElem (by simpa using ht), ← getElem!_pos _ t (by simpa using ht), get_flatK encP 2 l.toArray t (by simpa using ht)]
    have hi : t / 2 < l.length := by omega
    have e2 := duC_at l (t / 2) (t % 2) l[t / 2] (List.getElem?_eq_getElem hi) (by omega)
    rw [show t / 2 * 2 + t % 2 = t by omega] at e2
    rw [e1, e2]
    have e3 : l.toArray[t / 2]! = l[t / 2] := by simp [hi]
    rw [e3]
    have h2 : t % 2 < (encP l[t / 2]).length := by show t % 2 < 2; omega
    rw [List.getElem?_eq_getElem h2]
    exact congrArg some (getElem!_pos (encP l[t / 2]) (t % 2) h2)
  · rw [List.getElem?_eq_none (by simp; omega), List.getElem?_eq_none (by rw [duC_len]; omega)]
theorem holds2 {w : World} {g : Nat} {cur : Array Value} {e : TypeId} {l : List (Int × Int)} (hb : w.heap[g]? = some (.cells cur e (0, 0))) (ht : cur.toList.take (l.length * 2) = duC l) : HoldsK encP 2 w g 0 l.toArray := by
  intro j hj
  have hj' : j < l.length * 2 := by simpa using hj
  refine ⟨?_, by simp [World.frozen?, hb]⟩
  have h1 : (cur.toList.take (l.length * 2))[j]? = (flatK encP 2 l.toArray).toList[j]? := by rw [ht, flat_duC]
  rw [List.getElem?_take_of_lt hj', Array.getElem?_toList, Array.getElem?_toList] at h1
  have h2 : (flatK encP 2 l.toArray)[j]? = some (flatK encP 2 l.toArray)[j]! := by rw [getElem!_pos _ j hj]; exact Array.getElem?_eq_getElem hj
  simp only [World.cell?, hb, Nat.zero_add]
  simp only [Option.isSome_none, Bool.false_eq_true, if_false]
  rw [h1, h2]
  rfl
theorem heap_sorted2 {w : World} {g n : Nat} {os : Array Obj} {cur : Array Value} {e : TypeId} {fr : Nat × Nat} (d : Array (Int × Int)) (hb : w.heap[g]? = some (.cells cur e fr)) :
    (sortWorldK encP 2 w g 0 n d os).heap[g]? = some (.cells (putCells id 0 (flatK encP 2 d) cur) e fr) := by
  have hlt : g < w.heap.size := (Array.getElem?_eq_some_iff.1 hb).1
  unfold sortWorldK putRowK
  rw [heap_grow_old _ _ (by simpa using hlt)]
  simp [putRow, mapBlock, Sort.ahead, Array.getElem?_modify, hb, onCells]
theorem grownBy_sorted2 {w : World} {g n : Nat} {os : Array Obj} (d : Array (Int × Int)) : w.grownBy (sortWorldK encP 2 w g 0 n d os) (some g) := by
  refine ⟨rfl, rfl, rfl, by simp [sortWorldK, putRowK], fun k hk hne => ?_⟩
  unfold sortWorldK putRowK
  rw [heap_grow_old _ _ (by simpa using hk)]
  have : g ≠ k := fun e => hne (by rw [e])
  simp [putRow, mapBlock, Sort.ahead, Array.getElem?_modify, this]
theorem take_putCells2 (cur : Array Value) (ts : Array Value) (h : ts.size ≤ cur.size) : (putCells id 0 ts cur).toList.take ts.size = ts.toList := by
  apply List.ext_getElem?
  intro j
  by_cases hj : j < ts.size
  · rw [List.getElem?_take_of_lt hj, Array.getElem?_toList]
    simp [putCells, hj, show j < cur.size by omega]
  · rw [List.getElem?_take_eq_none (by omega), List.getElem?_eq_none (by simp; omega)]
theorem own2_sorted {w : World} {base g cap n : Nat} {e : TypeId} {os : Array Obj} {cur : Array Value} {l ts : List (Int × Int)} (hl : ts.length = l.length) (hbase : base ≤ g) (hb : w.heap[g]? = some (.cells cur e (0, 0)))
    (h1 : l.length ≤ cap) (h2 : cap ≤ maxLen) (h3 : cur.size = cap * 2) :
    (sortWorldK encP 2 w g 0 n ts.toArray os).ownsRow base e 2 (.slice (some ⟨g, 0, none⟩) l.length cap) l.length (duC ts) := by
  refine ⟨by rw [duC_len, hl], .inr ⟨g, cap, _, rfl, hbase, heap_sorted2 _ hb, h1, h2, by simp [putCells, h3], ?_⟩⟩
  have h := take_putCells2 cur (flatK encP 2 ts.toArray) (by simp [hl, h3]; omega)
  rw [flat_duC] at h
  simpa [hl] using h
end Go.Proofs.Ytdhchfmefdlloaa
