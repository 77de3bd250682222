/- What is proved here: plain facts: what is put is got, a number and a list, wherever it stands and whatever stands behind it; cut off it is short; of fewer than there are it is too big. Conditions: numbers fit 64 bits. -/
import Derived.Test.YtdfgdlejmimfcaaW2
namespace Go.Proofs.Ytdfgdlejmimfcaa
open Go.ChangeShapes Go.WideShapes Go.RowKit

theorem get_enc {n : Int} (hf : Fits n) (pre rest : List UInt8) : gN (pre ++ (enc (turn n) ++ rest)) pre.length = n ∧ gT (pre ++ (enc (turn n) ++ rest)) pre.length = pre.length + sz n ∧ gE (pre ++ (enc (turn n) ++ rest)) pre.length = 0 := by
  have hs : scan 0 0 ((pre ++ (enc (turn n) ++ rest)).drop pre.length) = (turn n, (enc (turn n)).length, 0) := by
    rw [List.drop_left]
    exact scan_enc (turn_fits hf) rest
  obtain ⟨h1, h2, h3⟩ := g_in (by simp) hs
  rw [h1, h2, h3, if_pos rfl, if_pos rfl, unturn_turn]
  exact ⟨rfl, rfl, rfl⟩
theorem get_cut {n : Int} (hf : Fits n) (pre : List UInt8) {k : Nat} (hk : k < sz n) : gE (pre ++ (enc (turn n)).take k) pre.length = 2 := by
  have hs : scan 0 0 ((pre ++ (enc (turn n)).take k).drop pre.length) = (0, 0, 2) := by
    rw [List.drop_left]
    exact scan_cut (turn_fits hf) hk
  exact (g_in (by simp) hs).2.2
/-- The bytes of numbers one behind the other. -/
def flat (l : List Int) : List UInt8 := l.flatMap fun x => enc (turn x)
theorem flat_cons (x : Int) (l : List Int) : flat (x :: l) = enc (turn x) ++ flat l := by simp [flat]
theorem encL_flat (l : List Int) : encL l = enc (turn l.length) ++ flat l := by simp [encL, encK, flat]
/-- Each number of a list fits. -/
def AllFit (l : List Int) : Prop := ∀ x ∈ l, Fits x
theorem all_fit {l : List Int} (h : FitsL l) : AllFit l := by
  intro x hx
  obtain ⟨i, hi, rfl⟩ := List.mem_iff_getElem.1 hx
  have := h i
  simpa [hi] using this
theorem nums_enc (l : List Int) (hf : AllFit l) (pre rest : List UInt8) (out : List Int) :
    nums (pre ++ (flat l ++ rest)) l.length out pre.length = (out ++ l, ((pre.length + (flat l).length : Nat) : Int), 0) := by
  induction l generalizing pre out with
  | nil => simp [flat, nums]
  | cons x l ih =>
    obtain ⟨h1, h2, h3⟩ := get_enc (hf x (by simp)) pre (flat l ++ rest)
    rw [flat_cons, List.append_assoc, List.length_cons, nums_ok h3, h1, h2]
    have := ih (fun y hy => hf y (by simp [hy])) (pre ++ enc (turn x)) (out ++ [x])
    rw [List.append_assoc] at this
    have e : ((pre ++ enc (turn x)).length : Int) = (pre.length : Int) + sz x := by unfold sz; simp
    rw [e] at this
    rw [this]
    simp only [List.append_assoc, List.singleton_append, Prod.mk.injEq, true_and, and_true]
    simp only [List.length_append]; omega
theorem nums_cut (l : List Int) (hf : AllFit l) (hl : l ≠ []) (pre : List UInt8) (out : List Int) :
    nums (pre ++ (flat l).take ((flat l).length - 1)) l.length out pre.length = ([], 0, 2) := by
  induction l generalizing pre out with
  | nil => exact absurd rfl hl
  | cons x l ih =>
    have hx := hf x (by simp)
    have hpos := enc_pos (turn x)
    by_cases h0 : l = []
    · subst h0
      have e : flat [x] = enc (turn x) := by simp [flat]
      rw [e]
      have hc := get_cut hx pre (k := (enc (turn x)).length - 1) (by unfold sz; omega)
      rw [List.length_singleton, nums_err (by omega), hc]
    · have hp : 0 < (flat l).length := by
        cases l with
        | nil => exact absurd rfl h0
        | cons y l => rw [flat_cons, List.length_append]; have := enc_pos (turn y); omega
      have e : (flat (x :: l)).take ((flat (x :: l)).length - 1) = enc (turn x) ++ (flat l).take ((flat l).length - 1) := by
        rw [flat_cons, List.length_append, List.take_append, show (enc (turn x)).length + (flat l).length - 1 - (enc (turn x)).length = (flat l).length - 1 by omega, List.take_of_length_le (by omega)]
      obtain ⟨h1, h2, h3⟩ := get_enc hx pre ((flat l).take ((flat l).length - 1))
      rw [e, List.length_cons, nums_ok h3, h1, h2]
      have := ih (fun y hy => hf y (by simp [hy])) h0 (pre ++ enc (turn x)) (out ++ [x])
      rw [List.append_assoc] at this
      have e2 : ((pre ++ enc (turn x)).length : Int) = (pre.length : Int) + sz x := by unfold sz; simp
      rw [e2] at this
      exact this

theorem fits_nat {n : Nat} (h : n ≤ 1000000) : Fits (n : Int) := ⟨by omega, by omega⟩
/-- A list that is put is got. -/
theorem getL_enc (l : List Int) (hf : AllFit l) (hl : l.length ≤ 1000000) (pre rest : List UInt8) (most : Int) (hm : (l.length : Int) ≤ most) :
    getL (pre ++ (encL l ++ rest)) pre.length most = (l, ((pre.length + (encL l).length : Nat) : Int), 0) := by
  rw [encL_flat, List.append_assoc]
  obtain ⟨h1, h2, h3⟩ := get_enc (fits_nat hl) pre (flat l ++ rest)
  rw [getL_ok (by omega) h3 (by rw [h1]; omega) (by rw [h1]; exact hm), h1, h2, Int.toNat_natCast]
  have := nums_enc l hf (pre ++ enc (turn l.length)) rest []
  rw [List.append_assoc] at this
  have e : ((pre ++ enc (turn l.length)).length : Int) = (pre.length : Int) + sz l.length := by unfold sz; simp
  rw [e] at this
  rw [this]
  simp only [List.nil_append, List.length_append, Prod.mk.injEq, true_and, and_true]
  omega
theorem getL_few (l : List Int) (hl : l.length ≤ 1000000) (pre rest : List UInt8) (most : Int) (h0 : 0 ≤ most) (hm : most < l.length) :
    getL (pre ++ (encL l ++ rest)) pre.length most = ([], 0, 4) := by
  rw [encL_flat, List.append_assoc]
  obtain ⟨h1, h2, h3⟩ := get_enc (fits_nat hl) pre (flat l ++ rest)
  exact getL_big h0 h3 (by rw [h1]; omega) (by rw [h1]; exact hm)
theorem getL_cut (l : List Int) (hf : AllFit l) (hl : l.length ≤ 1000000) (pre : List UInt8) (most : Int) (hm : (l.length : Int) ≤ most) :
    getL (pre ++ (encL l).take ((encL l).length - 1)) pre.length most = ([], 0, 2) := by
  have hpos := enc_pos (turn l.length)
  by_cases h0 : l = []
  · subst h0
    have e : encL [] = enc (turn (0 : Nat)) := by simp [encL, encK]
    rw [e]
    have hc := get_cut (fits_nat (n := 0) (by decide)) pre (k := (enc (turn (0 : Nat))).length - 1) (by unfold sz; have := enc_pos (turn (0 : Nat)); omega)
    rw [getL_err (by simp at hm; omega) (by omega), hc]
  · have hp : 0 < (flat l).length := by
      cases l with
      | nil => exact absurd rfl h0
      | cons y l => rw [flat_cons, List.length_append]; have := enc_pos (turn y); omega
    have e : (encL l).take ((encL l).length - 1) = enc (turn l.length) ++ (flat l).take ((flat l).length - 1) := by
      rw [encL_flat, List.length_append, List.take_append, show (enc (turn l.length)).length + (flat l).length - 1 - (enc (turn l.length)).length = (flat l).length - 1 by omega, List.take_of_length_le (by omega)]
    obtain ⟨h1, h2, h3⟩ := get_enc (fits_nat hl) pre ((flat l).take ((flat l).length - 1))
    rw [e, getL_ok (by omega) h3 (by rw [h1]; omega) (by rw [h1]; exact hm), h1, h2, Int.toNat_natCast]
    have := nums_cut l hf h0 (pre ++ enc (turn l.length)) []
    rw [List.append_assoc] at this
    have e2 : ((pre ++ enc (turn l.length)).length : Int) = (pre.length : Int) + sz l.length := by unfold sz; simp
    rw [e2] at this
    exact this
end Go.Proofs.Ytdfgdlejmimfcaa
