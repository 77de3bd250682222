/- What is proved here: plain facts on instructions as lines of text: a line, lines, what a line tells, what lines tell; what is shown is read as it was, and what is read is shown as it was. Conditions: the numbers fit 64 bits. -/
import Derived.Test.YtofmlodfhdjjiaaDoorDig
namespace Go.Proofs.YtofmlodfhdjjiaaDoor
open Go.ChangeShapes Go.WideShapes Go.RowKit

/-- A text cut at the first byte c: ahead, behind, and whether there is one. -/
def cutB (c : UInt8) : List UInt8 → List UInt8 × List UInt8 × Bool
  | [] => ([], [], false)
  | x :: r => if x = c then ([], r, true) else (x :: (cutB c r).1, (cutB c r).2.1, (cutB c r).2.2)
theorem cutB_hit {c : UInt8} : ∀ {p : List UInt8} (q : List UInt8), c ∉ p → cutB c (p ++ c :: q) = (p, q, true)
  | [], q, _ => by simp [cutB]
  | x :: p, q, h => by
    have h1 : x ≠ c := fun e => h (by simp [e])
    have h2 := cutB_hit (p := p) q (fun hm => h (List.mem_cons_of_mem _ hm))
    rw [List.cons_append, cutB, if_neg h1, h2]
theorem cutB_miss {c : UInt8} : ∀ {l : List UInt8}, c ∉ l → cutB c l = (l, [], false)
  | [], _ => rfl
  | x :: p, h => by
    have h1 : x ≠ c := fun e => h (by simp [e])
    have h2 := cutB_miss (l := p) (fun hm => h (List.mem_cons_of_mem _ hm))
    rw [cutB, if_neg h1, h2]
theorem cutB_cases (c : UInt8) (l : List UInt8) : (c ∉ l ∧ cutB c l = (l, [], false)) ∨ ∃ p q, l = p ++ c :: q ∧ c ∉ p ∧ cutB c l = (p, q, true) := by
  induction l with
  | nil => exact Or.inl ⟨by simp, rfl⟩
  | cons x r ih =>
    by_cases hx : x = c
    · subst hx; exact Or.inr ⟨[], r, rfl, by simp, by simp [cutB]⟩
    · rcases ih with ⟨h1, h2⟩ | ⟨p, q, h1, h2, h3⟩
      · refine Or.inl ⟨?_, by rw [cutB, if_neg hx, h2]⟩
        intro hm
        rcases List.mem_cons.1 hm with e | hm
        · exact hx e.symm
        · exact h1 hm
      · refine Or.inr ⟨x :: p, q, by rw [h1]; rfl, ?_, by rw [cutB, if_neg hx, h3]⟩
        intro hm
        rcases List.mem_cons.1 hm with e | hm
        · exact hx e.symm
        · exact h2 hm
theorem cutB_len (c : UInt8) (l : List UInt8) : (cutB c l).1.length ≤ l.length ∧ (cutB c l).2.1.length ≤ l.length := by
  rcases cutB_cases c l with ⟨_, h⟩ | ⟨p, q, h1, _, h⟩
  · rw [h]; simp
  · rw [h, h1]; simp; omega

/-- The operation of a name, or 0. -/
def named (l : List UInt8) : Int := ((((List.range 25).find? fun k => (opNameOf (k + 1)).data.toList == l).map fun k => ((k + 1 : Nat) : Int)).getD 0)
theorem named_range (l : List UInt8) : 0 ≤ named l ∧ named l ≤ 25 := by
  unfold named
  cases h : (List.range 25).find? fun k => (opNameOf (k + 1)).data.toList == l with
  | none => simp
  | some k =>
    have := List.mem_of_find?_eq_some h
    rw [List.mem_range] at this
    simp; omega
theorem named_ok {l : List UInt8} (h : named l ≠ 0) : kn (named l) = true ∧ (onm (named l)).data.toList = l := by
  have hr := named_range l
  have hk : kn (named l) = true := kn_iff.2 (by omega)
  refine ⟨hk, ?_⟩
  rw [onm_in hk]
  unfold named at h ⊢
  cases hf : (List.range 25).find? fun k => (opNameOf (k + 1)).data.toList == l with
  | none => rw [hf] at h; exact absurd rfl h
  | some k =>
    have := List.find?_some hf
    exact eq_of_beq this
theorem named_no {l : List UInt8} (h : named l = 0) (o : Int) (ho : kn o = true) : (onm o).data.toList ≠ l := by
  intro he
  have hk := kn_iff.1 ho
  rw [onm_in ho] at he
  unfold named at h
  cases hf : (List.range 25).find? fun k => (opNameOf (k + 1)).data.toList == l with
  | none =>
    rw [List.find?_eq_none] at hf
    have := hf (o.toNat - 1) (by rw [List.mem_range]; omega)
    rw [show o.toNat - 1 + 1 = o.toNat by omega, he] at this
    simp at this
  | some k => rw [hf] at h; simp at h; omega
theorem onm_inj2 {a b : Int} (ha : kn a = true) (hb : kn b = true) (h : (onm a).data.toList = (onm b).data.toList) : a = b := by
  have h1 := kn_iff.1 ha
  have h2 := kn_iff.1 hb
  rw [onm_in ha, onm_in hb] at h
  have := names_tab ⟨a.toNat, by omega⟩ ⟨b.toNat, by omega⟩ h
  injection this with this
  omega
theorem named_onm {o : Int} (h : kn o = true) : named (onm o).data.toList = o := by
  by_cases h0 : named (onm o).data.toList = 0
  · exact absurd rfl (named_no h0 o h)
  · obtain ⟨h1, h2⟩ := named_ok h0
    exact onm_inj2 h1 h h2

/-- The texts of an instruction's numbers. -/
def numsT (i : Int × Int × Int) : List UInt8 :=
  if nargs i.1 = 0 then [] else if nargs i.1 = 1 then 32 :: Lib.itoa i.2.1 else 32 :: (Lib.itoa i.2.1 ++ 32 :: Lib.itoa i.2.2)
/-- A line without its ending. -/
def lineW (i : Int × Int × Int) : List UInt8 := (onm i.1).data.toList ++ numsT i
/-- An instruction's line, or nothing. -/
def line (i : Int × Int × Int) : List UInt8 := if right i = true then lineW i ++ [10] else []
theorem line_right {i : Int × Int × Int} (h : right i = true) : line i = lineW i ++ [10] := by unfold line; rw [if_pos h]
theorem line_wrong {i : Int × Int × Int} (h : right i = false) : line i = [] := by unfold line; rw [if_neg (by simp [h])]
theorem line_ne {i : Int × Int × Int} : line i = [] ↔ right i = false := by
  cases h : right i
  · simp [line_wrong h]
  · simp [line_right h]
def flatL (L : List (Int × Int × Int)) : List UInt8 := L.flatMap line
theorem flatL_nil : flatL [] = [] := rfl
theorem flatL_cons (i : Int × Int × Int) (L : List (Int × Int × Int)) : flatL (i :: L) = line i ++ flatL L := by simp [flatL]
theorem flatL_append (L M : List (Int × Int × Int)) : flatL (L ++ M) = flatL L ++ flatL M := by simp [flatL]
/-- Instructions' lines, or nothing. -/
def showL (L : List (Int × Int × Int)) : List UInt8 := if L.length ≤ 200 ∧ allR L = true then flatL L else []
theorem show_right {L : List (Int × Int × Int)} (h1 : L.length ≤ 200) (h2 : allR L = true) : showL L = flatL L := by unfold showL; rw [if_pos ⟨h1, h2⟩]
theorem show_long {L : List (Int × Int × Int)} (h1 : 200 < L.length) : showL L = [] := by unfold showL; rw [if_neg (by omega)]
theorem show_wrong {L : List (Int × Int × Int)} (h2 : allR L = false) : showL L = [] := by unfold showL; rw [if_neg (by simp [h2])]

theorem onm_bytes : ∀ k : Fin 26, ∀ b ∈ (opNameOf k.val).data.toList, 65 ≤ b.toNat ∧ b.toNat ≤ 90 := by decide +kernel
theorem onm_last : ∀ k : Fin 26, ∀ b ∈ (opNameOf k.val).data.toList.getLast?, b.toNat ≠ 69 := by decide +kernel
theorem onm_len : ∀ k : Fin 26, (opNameOf k.val).data.toList.length ≤ 6 := by decide +kernel
theorem onm_size (o : Int) : (onm o).data.toList.length ≤ 6 := by
  cases h : kn o
  · rw [onm_out h]; decide
  · have := kn_iff.1 h
    rw [onm_in h]; exact onm_len ⟨o.toNat, by omega⟩
theorem onm_letters {o : Int} (h : kn o = true) : ∀ b ∈ (onm o).data.toList, 65 ≤ b.toNat ∧ b.toNat ≤ 90 := by
  have := kn_iff.1 h
  rw [onm_in h]; exact onm_bytes ⟨o.toNat, by omega⟩
theorem numsT_bytes (i : Int × Int × Int) : ∀ b ∈ numsT i, b.toNat = 32 ∨ b.toNat = 45 ∨ (48 ≤ b.toNat ∧ b.toNat ≤ 57) := by
  unfold numsT
  split
  · intro b hb; simp at hb
  · split
    · intro b hb
      rcases List.mem_cons.1 hb with rfl | hb
      · exact Or.inl rfl
      · exact Or.inr (itoa_mem _ b hb)
    · intro b hb
      rcases List.mem_cons.1 hb with rfl | hb
      · exact Or.inl rfl
      · rcases List.mem_append.1 hb with hb | hb
        · exact Or.inr (itoa_mem _ b hb)
        · rcases List.mem_cons.1 hb with rfl | hb
          · exact Or.inl rfl
          · exact Or.inr (itoa_mem _ b hb)
theorem lineW_no10 {i : Int × Int × Int} (h : right i = true) : (10 : UInt8) ∉ lineW i := by
  intro hm
  rcases List.mem_append.1 hm with hm | hm
  · have := onm_letters (right_parts h).1 _ hm
    have e : (10 : UInt8).toNat = 10 := rfl
    omega
  · have := numsT_bytes i _ hm
    have e : (10 : UInt8).toNat = 10 := rfl
    omega
theorem numsT_len {i : Int × Int × Int} (hf : FitsI i) : (numsT i).length ≤ 44 := by
  have h1 := itoa_len hf.2.1
  have h2 := itoa_len hf.2.2
  unfold numsT
  split
  · simp
  · split
    · simp only [List.length_cons]; omega
    · simp only [List.length_cons, List.length_append]; omega
theorem line_len {i : Int × Int × Int} (hf : FitsI i) : (line i).length ≤ 51 := by
  have h1 := numsT_len hf
  have h2 := onm_size i.1
  cases h : right i
  · rw [line_wrong h]; simp
  · rw [line_right h]; unfold lineW; simp only [List.length_append, List.length_cons, List.length_nil]; omega
theorem flatL_len {L : List (Int × Int × Int)} (h : AllFitI L) : (flatL L).length ≤ 51 * L.length := by
  induction L with
  | nil => simp [flatL]
  | cons i L ih =>
    have h1 := line_len (h i (by simp))
    have h2 := ih (fun j hj => h j (by simp [hj]))
    rw [flatL_cons, List.length_append, List.length_cons]; omega
theorem show_len {L : List (Int × Int × Int)} (h : AllFitI L) : (showL L).length ≤ 10200 := by
  unfold showL
  split
  · rename_i h1
    have := flatL_len h; omega
  · simp

/-- What stands at a line's end. -/
def fin (i : Int × Int × Int) (more : Bool) : (Int × Int × Int) × Int := if more = true then ((0, 0, 0), 3) else if right i = true then (i, 0) else ((0, 0, 0), 6)
/-- The instruction that a line without its ending tells, and what is wrong. -/
def ins (l : List UInt8) : (Int × Int × Int) × Int :=
  if named (cutB 32 l).1 = 0 then ((0, 0, 0), 3)
  else if nargs (named (cutB 32 l).1) = 0 then fin (named (cutB 32 l).1, 0, 0) (cutB 32 l).2.2
  else if (num (cutB 32 (cutB 32 l).2.1).1).2 ≠ 0 then ((0, 0, 0), 3)
  else if nargs (named (cutB 32 l).1) = 1 then fin (named (cutB 32 l).1, (num (cutB 32 (cutB 32 l).2.1).1).1, 0) (cutB 32 (cutB 32 l).2.1).2.2
  else if (num (cutB 32 (cutB 32 (cutB 32 l).2.1).2.1).1).2 ≠ 0 then ((0, 0, 0), 3)
  else fin (named (cutB 32 l).1, (num (cutB 32 (cutB 32 l).2.1).1).1, (num (cutB 32 (cutB 32 (cutB 32 l).2.1).2.1).1).1) (cutB 32 (cutB 32 (cutB 32 l).2.1).2.1).2.2
theorem no32_name {o : Int} (h : kn o = true) : (32 : UInt8) ∉ (onm o).data.toList := by
  intro hm
  have := onm_letters h _ hm
  have e : (32 : UInt8).toNat = 32 := rfl
  omega
theorem no32_itoa (n : Int) : (32 : UInt8) ∉ Lib.itoa n := by
  intro hm
  have := itoa_mem n _ hm
  have e : (32 : UInt8).toNat = 32 := rfl
  omega
theorem fin_right {i : Int × Int × Int} (h : right i = true) : fin i false = (i, 0) := by unfold fin; rw [if_neg (by decide), if_pos h]
theorem ins_line {i : Int × Int × Int} (h : right i = true) (hf : FitsI i) : ins (lineW i) = (i, 0) := by
  have hk := (right_parts h).1
  have hk0 := kn_iff.1 hk
  have hn := named_onm hk
  rcases nargs_012 i.1 with h0 | h1 | h2
  · have hz := right_none h h0
    have e : lineW i = (onm i.1).data.toList := by unfold lineW numsT; rw [if_pos h0, List.append_nil]
    have hc := cutB_miss (no32_name hk)
    have hi' : (i.1, (0 : Int), (0 : Int)) = i := by
      obtain ⟨o, a, b⟩ := i
      simp only at hz ⊢
      rw [hz.1, hz.2]
    rw [e]
    unfold ins
    rw [hc]
    simp only [hn]
    rw [if_neg (by omega), if_pos h0, hi', fin_right h]
  · have hz := right_one h h1
    have e : lineW i = (onm i.1).data.toList ++ 32 :: Lib.itoa i.2.1 := by unfold lineW numsT; rw [if_neg (by omega), if_pos h1]
    have hc := cutB_hit (Lib.itoa i.2.1) (no32_name hk)
    have hc2 := cutB_miss (no32_itoa i.2.1)
    have hi' : (i.1, i.2.1, (0 : Int)) = i := by
      obtain ⟨o, a, b⟩ := i
      simp only at hz ⊢
      rw [hz]
    rw [e]
    unfold ins
    rw [hc]
    simp only [hn, hc2, num_itoa hf.2.1]
    rw [if_neg (by omega), if_neg (by omega), if_neg (by decide), if_pos h1, hi', fin_right h]
  · have e : lineW i = (onm i.1).data.toList ++ 32 :: (Lib.itoa i.2.1 ++ 32 :: Lib.itoa i.2.2) := by unfold lineW numsT; rw [if_neg (by omega), if_neg (by omega)]
    have hc := cutB_hit (Lib.itoa i.2.1 ++ 32 :: Lib.itoa i.2.2) (no32_name hk)
    have hc2 := cutB_hit (Lib.itoa i.2.2) (no32_itoa i.2.1)
    have hc3 := cutB_miss (no32_itoa i.2.2)
    rw [e]
    unfold ins
    rw [hc]
    simp only [hn, hc2, hc3, num_itoa hf.2.1, num_itoa hf.2.2]
    rw [if_neg (by omega), if_neg (by omega), if_neg (by decide), if_neg (by omega), if_neg (by decide)]
    exact fin_right h
theorem fin_ok {i : Int × Int × Int} {m : Bool} (h : (fin i m).2 = 0) : m = false ∧ right i = true ∧ fin i m = (i, 0) := by
  unfold fin at h ⊢
  cases m
  · simp only [Bool.false_eq_true, if_false] at h ⊢
    split at h
    · rename_i hr; rw [if_pos hr]; exact ⟨trivial, hr, rfl⟩
    · cases h
  · cases h
theorem fin_err {i : Int × Int × Int} {m : Bool} (h : (fin i m).2 ≠ 0) : (fin i m).1 = (0, 0, 0) ∧ ((fin i m).2 = 3 ∨ (fin i m).2 = 6) := by
  unfold fin at h ⊢
  split
  · exact ⟨rfl, Or.inl rfl⟩
  · split
    · rename_i h1 h2; rw [if_neg h1, if_pos h2] at h; exact absurd rfl h
    · exact ⟨rfl, Or.inr rfl⟩
theorem ins_err {l : List UInt8} (h : (ins l).2 ≠ 0) : (ins l).1 = (0, 0, 0) ∧ ((ins l).2 = 3 ∨ (ins l).2 = 6) := by
  unfold ins at h ⊢
  split
  · exact ⟨rfl, Or.inl rfl⟩
  · rename_i h1
    rw [if_neg h1] at h
    split
    · rename_i h2
      rw [if_pos h2] at h
      exact fin_err h
    · rename_i h2
      rw [if_neg h2] at h
      split
      · exact ⟨rfl, Or.inl rfl⟩
      · rename_i h3
        rw [if_neg h3] at h
        split
        · rename_i h4
          rw [if_pos h4] at h
          exact fin_err h
        · rename_i h4
          rw [if_neg h4] at h
          split
          · exact ⟨rfl, Or.inl rfl⟩
          · rename_i h5
            rw [if_neg h5] at h
            exact fin_err h
theorem fits_kn {o : Int} (h : kn o = true) : Fits o := by have := kn_iff.1 h; exact ⟨by omega, by omega⟩
theorem ins_ok {l : List UInt8} (h : (ins l).2 = 0) : right (ins l).1 = true ∧ FitsI (ins l).1 ∧ lineW (ins l).1 = l := by
  unfold ins at h ⊢
  split
  · rename_i h1
    rw [if_pos h1] at h; cases h
  · rename_i h1
    rw [if_neg h1] at h
    obtain ⟨hk, hnm⟩ := named_ok h1
    split
    · rename_i h2
      rw [if_pos h2] at h
      obtain ⟨hm, hr, he⟩ := fin_ok h
      rw [he]
      refine ⟨hr, ⟨fits_kn hk, fits0, fits0⟩, ?_⟩
      unfold lineW numsT
      simp only
      rw [if_pos h2, List.append_nil, hnm]
      rcases cutB_cases 32 l with ⟨_, hc⟩ | ⟨p, q, _, _, hc⟩
      · rw [hc]
      · rw [hc] at hm; cases hm
    · rename_i h2
      rw [if_neg h2] at h
      split
      · rename_i h3
        rw [if_pos h3] at h; cases h
      · rename_i h3
        rw [if_neg h3] at h
        have h3' := Classical.not_not.1 h3
        obtain ⟨hn1, hf1⟩ := num_ok h3'
        have hl1 : l = (cutB 32 l).1 ++ 32 :: (cutB 32 l).2.1 := by
          rcases cutB_cases 32 l with ⟨_, hc⟩ | ⟨p, q, hl, _, hc⟩
          · rw [hc] at h3'; cases h3'
          · rw [hc]; exact hl
        split
        · rename_i h4
          rw [if_pos h4] at h
          obtain ⟨hm, hr, he⟩ := fin_ok h
          rw [he]
          refine ⟨hr, ⟨fits_kn hk, hf1, fits0⟩, ?_⟩
          unfold lineW numsT
          simp only
          rw [if_neg h2, if_pos h4, hnm, hn1]
          have e2 : (cutB 32 (cutB 32 l).2.1).1 = (cutB 32 l).2.1 := by
            rcases cutB_cases 32 (cutB 32 l).2.1 with ⟨_, hc⟩ | ⟨p, q, _, _, hc⟩
            · rw [hc]
            · rw [hc] at hm; cases hm
          rw [e2]; exact hl1.symm
        · rename_i h4
          rw [if_neg h4] at h
          split
          · rename_i h5
            rw [if_pos h5] at h; cases h
          · rename_i h5
            rw [if_neg h5] at h
            have h5' := Classical.not_not.1 h5
            obtain ⟨hn2, hf2⟩ := num_ok h5'
            obtain ⟨hm, hr, he⟩ := fin_ok h
            rw [he]
            refine ⟨hr, ⟨fits_kn hk, hf1, hf2⟩, ?_⟩
            unfold lineW numsT
            simp only
            rw [if_neg h2, if_neg h4, hnm, hn1, hn2]
            have hl2 : (cutB 32 l).2.1 = (cutB 32 (cutB 32 l).2.1).1 ++ 32 :: (cutB 32 (cutB 32 l).2.1).2.1 := by
              rcases cutB_cases 32 (cutB 32 l).2.1 with ⟨_, hc⟩ | ⟨p, q, hl, _, hc⟩
              · rw [hc] at h5'; cases h5'
              · rw [hc]; exact hl
            have e2 : (cutB 32 (cutB 32 (cutB 32 l).2.1).2.1).1 = (cutB 32 (cutB 32 l).2.1).2.1 := by
              rcases cutB_cases 32 (cutB 32 (cutB 32 l).2.1).2.1 with ⟨_, hc⟩ | ⟨p, q, _, _, hc⟩
              · rw [hc]
              · rw [hc] at hm; cases hm
            rw [e2, ← hl2]; exact hl1.symm
end Go.Proofs.YtofmlodfhdjjiaaDoor
