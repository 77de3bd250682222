/- What is proved here: plain facts on what one instruction takes and gives. Conditions: those each theorem states. -/
import Derived.Test.YtkkoekfdncoifaaDoorTk
namespace Go.Proofs.YtkkoekfdncoifaaDoor

/-- A byte of what is taken, where any is told by a truth; all of them. -/
def fl1 (a : Bool) (c : UInt8) : UInt8 := if c = 32 then (if a then 105 else 98) else c
def fl (a b : Bool) : List UInt8 → List UInt8
  | [] => []
  | [c] => [fl1 a c]
  | c :: d :: _ => [fl1 a c, fl1 b d]
def gdB (l : List UInt8) : Prop := ∀ c ∈ l, c = 105 ∨ c = 98
/-- What an operation takes is one of seven. -/
theorem tk_seven (o : Int) : tk o ∈ ([[], [32], [32, 32], [105], [105, 105], [98], [98, 98]] : List (List UInt8)) := by
  unfold tk
  split
  · simp
  · split
    · simp
    · split
      · simp
      · split
        · simp
        · split
          · simp
          · split <;> simp
theorem tkI_seven (i : Int × Int × Int) : tkI i ∈ ([[], [32], [32, 32], [105], [105, 105], [98], [98, 98]] : List (List UInt8)) := by
  unfold tkI
  split
  · exact tk_seven i.1
  · simp
theorem tkI_len (i : Int × Int × Int) : (tkI i).length ≤ 2 := by
  have h := tkI_seven i
  generalize tkI i = t at h
  simp only [List.mem_cons, List.not_mem_nil, or_false] at h
  rcases h with rfl | rfl | rfl | rfl | rfl | rfl | rfl <;> simp
theorem fl_facts (a b : Bool) {t : List UInt8} (h : t ∈ ([[], [32], [32, 32], [105], [105, 105], [98], [98, 98]] : List (List UInt8))) : (fl a b t).length = t.length ∧ gdB (fl a b t) ∧ fit (fl a b t) t = true ∧ t.length ≤ 2 := by
  simp only [List.mem_cons, List.not_mem_nil, or_false] at h
  unfold gdB
  rcases h with rfl | rfl | rfl | rfl | rfl | rfl | rfl <;> revert a b <;> decide
theorem gv_good (o x : Int) {t : List UInt8} (h : gdB t) (hl : fit t (tk o) = true) : gdB (gv o x t) ∧ (gv o x t).length ≤ 2 := by
  have hlen : t.length = (tk o).length := by
    have : ∀ {t u : List UInt8}, fit t u = true → t.length = u.length := by
      intro t u
      induction t generalizing u with
      | nil => cases u <;> simp [fit]
      | cons x t ih => cases u with
        | nil => simp [fit]
        | cons y u => simp only [fit, Bool.and_eq_true, List.length_cons]; intro h2; rw [ih h2.2]
    exact this hl
  unfold gv gdB at *
  split
  · simp
  · split
    · rename_i h3
      have : t.length = 1 := by rw [hlen, h3]; rfl
      refine ⟨fun c hc => ?_, by simp; omega⟩
      rcases List.mem_append.1 hc with hc | hc <;> exact h c hc
    · split
      · rename_i h4
        have : t.length = 2 := by rw [hlen, h4]; rfl
        refine ⟨fun c hc => ?_, by simp; omega⟩
        rcases List.mem_append.1 hc with hc | hc
        · exact h c (List.mem_of_mem_drop hc)
        · exact h c (List.mem_of_mem_take hc)
      · split
        · split <;> simp
        · split <;> simp
theorem gvI_good (i : Int × Int × Int) {t : List UInt8} (h : gdB t) : gdB (gvI i t) ∧ (gvI i t).length ≤ 2 := by
  unfold gvI
  split
  · rename_i h2; exact gv_good _ _ h h2.2
  · simp [gdB]
theorem fl_two (a b : Bool) : fl a b [32] = [fl1 a 32] ∧ fl a b [32, 32] = [fl1 a 32, fl1 b 32] := ⟨rfl, rfl⟩
theorem kind_dup (a b : Bool) : gvI (3, 0, 0) (fl a b (tkI (3, 0, 0))) = fl a b (tkI (3, 0, 0)) ++ fl a b (tkI (3, 0, 0)) := by revert a b; decide +kernel
theorem kind_swap (a b : Bool) : gvI (4, 0, 0) (gvI (4, 0, 0) (fl a b (tkI (4, 0, 0)))) = fl a b (tkI (4, 0, 0)) := by revert a b; decide +kernel
theorem kind_more (i : Int × Int × Int) (a b : Bool) : gvI i (fl a b (tkI i) ++ [105]) = [] := by
  unfold gvI
  rw [if_neg]
  rintro ⟨h1, h2⟩
  have h3 : tkI i = tk i.1 := by unfold tkI; rw [h1]; rfl
  rw [h3] at h2
  have h4 := fl_facts a b (tk_seven i.1)
  have h5 := h4.1
  have : ∀ {t u : List UInt8}, fit t u = true → t.length = u.length := by
    intro t u
    induction t generalizing u with
    | nil => cases u <;> simp [fit]
    | cons x t ih => cases u with
      | nil => simp [fit]
      | cons y u => simp only [fit, Bool.and_eq_true, List.length_cons]; intro h2; rw [ih h2.2]
  have h6 := this h2
  simp at h6
  omega
/-- The first k bytes. -/
theorem fl_step (a b : Bool) {t : List UInt8} {k : Nat} (hk : k < t.length) (h2 : t.length ≤ 2) : (fl a b t).take (k + 1) = (fl a b t).take k ++ [fl1 (if k = 0 then a else b) t[k]] := by
  match t, k, hk, h2 with
  | [c], 0, _, _ => rfl
  | [c, d], 0, _, _ => rfl
  | [c, d], 1, _, _ => rfl
end Go.Proofs.YtkkoekfdncoifaaDoor
