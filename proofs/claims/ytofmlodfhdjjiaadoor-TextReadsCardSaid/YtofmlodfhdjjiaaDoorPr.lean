/- What is proved here: plain facts on lines: a text's lines, what they tell one behind the other; what is shown is read as it was, and what is read is shown as it was. Conditions: the numbers fit 64 bits. -/
import Derived.Test.YtofmlodfhdjjiaaDoorTx
namespace Go.Proofs.YtofmlodfhdjjiaaDoor
open Go.ChangeShapes Go.WideShapes Go.RowKit

/-- A text's lines, each with whether it has its ending. -/
def lns : List UInt8 → List (List UInt8 × Bool)
  | [] => []
  | x :: r => if x = 10 then ([], true) :: lns r else match lns r with
    | [] => [([x], false)]
    | (l, e) :: t => (x :: l, e) :: t
theorem lns_hit : ∀ {p : List UInt8} (q : List UInt8), (10 : UInt8) ∉ p → lns (p ++ 10 :: q) = (p, true) :: lns q
  | [], q, _ => by simp [lns]
  | x :: p, q, h => by
    have h1 : x ≠ 10 := fun e => h (by simp [e])
    have h2 := lns_hit (p := p) q (fun hm => h (List.mem_cons_of_mem _ hm))
    rw [List.cons_append, lns, if_neg h1, h2]
theorem lns_miss : ∀ {l : List UInt8}, (10 : UInt8) ∉ l → l ≠ [] → lns l = [(l, false)]
  | [], _, h => absurd rfl h
  | x :: p, h, _ => by
    have h1 : x ≠ 10 := fun e => h (by simp [e])
    rw [lns, if_neg h1]
    cases p with
    | nil => rfl
    | cons y p => rw [lns_miss (l := y :: p) (fun hm => h (List.mem_cons_of_mem _ hm)) (by simp)]
/-- The first line is what is cut off. -/
theorem lns_cut {l : List UInt8} (h : l ≠ []) : lns l = ((cutB 10 l).1, (cutB 10 l).2.2) :: lns (cutB 10 l).2.1 := by
  rcases cutB_cases 10 l with ⟨h1, hc⟩ | ⟨p, q, h1, h2, hc⟩
  · rw [hc, lns_miss h1 h]; rfl
  · rw [hc, h1, lns_hit q h2]
theorem lns_len (l : List UInt8) : (lns l).length ≤ l.length := by
  induction l with
  | nil => simp [lns]
  | cons x r ih =>
    rw [lns]
    split
    · simp only [List.length_cons]; omega
    · split
      · simp
      · rename_i h; rw [h] at ih; simp only [List.length_cons] at ih ⊢; omega

/-- What lines tell, behind instructions that are read already. -/
def pr (acc : List (Int × Int × Int)) : List (List UInt8 × Bool) → List (Int × Int × Int) × Int
  | [] => (acc, 0)
  | x :: t => if acc.length = 200 then ([], 4) else if x.2 = false then ([], 3) else if (ins x.1).2 ≠ 0 then ([], (ins x.1).2) else pr (acc ++ [(ins x.1).1]) t
def parse (s : List UInt8) : List (Int × Int × Int) × Int := pr [] (lns s)
theorem parse_nil : parse [] = ([], 0) := rfl
theorem pr_flat (L : List (Int × Int × Int)) : ∀ (acc : List (Int × Int × Int)) (rest : List UInt8), acc.length + L.length ≤ 200 → allR L = true → AllFitI L → pr acc (lns (flatL L ++ rest)) = pr (acc ++ L) (lns rest) := by
  induction L with
  | nil => intro acc rest _ _ _; simp [flatL]
  | cons i L ih =>
    intro acc rest hl hr hf
    rw [allR_cons] at hr
    simp only [Bool.and_eq_true] at hr
    have hfi := hf i (by simp)
    rw [List.length_cons] at hl
    have e : flatL (i :: L) ++ rest = lineW i ++ 10 :: (flatL L ++ rest) := by rw [flatL_cons, line_right hr.1]; simp
    rw [e, lns_hit _ (lineW_no10 hr.1), pr]
    rw [if_neg (by omega), if_neg (by simp), ins_line hr.1 hfi, if_neg (by simp)]
    rw [ih (acc ++ [i]) rest (by simp; omega) hr.2 (fun j hj => hf j (by simp [hj]))]
    simp
theorem parse_flat {L : List (Int × Int × Int)} (hl : L.length ≤ 200) (hr : allR L = true) (hf : AllFitI L) : parse (flatL L) = (L, 0) := by
  have := pr_flat L [] [] (by simpa using hl) hr hf
  rw [List.append_nil] at this
  unfold parse
  rw [this]; rfl
theorem pr_back : ∀ (n : Nat) (s : List UInt8) (acc L : List (Int × Int × Int)), s.length ≤ n → acc.length ≤ 200 → pr acc (lns s) = (L, 0) → ∃ M, L = acc ++ M ∧ L.length ≤ 200 ∧ allR M = true ∧ AllFitI M ∧ flatL M = s := by
  intro n
  induction n with
  | zero =>
    intro s acc L hs ha h
    obtain rfl : s = [] := List.length_eq_zero_iff.1 (by omega)
    injection h with h1 h2
    exact ⟨[], by rw [← h1]; simp, by rw [← h1]; exact ha, rfl, fun i hi => absurd hi (by simp), rfl⟩
  | succ n ih =>
    intro s acc L hs ha h
    by_cases he : s = []
    · subst he
      injection h with h1 h2
      exact ⟨[], by rw [← h1]; simp, by rw [← h1]; exact ha, rfl, fun i hi => absurd hi (by simp), rfl⟩
    · rw [lns_cut he, pr] at h
      split at h
      · injection h with h1 h2; omega
      · rename_i h200
        split at h
        · injection h with h1 h2; omega
        · rename_i hend
          split at h
          · rename_i hbad; injection h with h1 h2; exact absurd h2 hbad
          · rename_i hok
            have hok' := Classical.not_not.1 hok
            obtain ⟨r1, r2, r3⟩ := ins_ok hok'
            rcases cutB_cases 10 s with ⟨_, hc⟩ | ⟨p, q, hl, _, hc⟩
            · rw [hc] at hend; exact absurd rfl hend
            · rw [hc] at h r1 r2 r3
              obtain ⟨M, m1, m2, m3, m4, m5⟩ := ih q (acc ++ [(ins p).1]) L (by rw [hl] at hs; simp at hs; omega) (by simp; omega) h
              refine ⟨(ins p).1 :: M, by rw [m1]; simp, m2, ?_, ?_, ?_⟩
              · rw [allR_cons, r1, m3]; rfl
              · intro i hi
                rcases List.mem_cons.1 hi with rfl | hi
                · exact r2
                · exact m4 i hi
              · rw [flatL_cons, line_right r1, r3, m5, hl]; simp
theorem parse_back {s : List UInt8} {L : List (Int × Int × Int)} (h : parse s = (L, 0)) : L.length ≤ 200 ∧ allR L = true ∧ AllFitI L ∧ flatL L = s := by
  obtain ⟨M, m1, m2, m3, m4, m5⟩ := pr_back s.length s [] L (Nat.le_refl _) (by simp) h
  obtain rfl : L = M := by simpa using m1
  exact ⟨m2, m3, m4, m5⟩
theorem pr_err : ∀ (t : List (List UInt8 × Bool)) (acc L : List (Int × Int × Int)) (e : Int), pr acc t = (L, e) → e ≠ 0 → L = []
  | [], acc, L, e, h, he => by injection h with h1 h2; exact absurd h2.symm he
  | x :: t, acc, L, e, h, he => by
    rw [pr] at h
    split at h
    · injection h with h1 h2; exact h1.symm
    · split at h
      · injection h with h1 h2; exact h1.symm
      · split at h
        · injection h with h1 h2; exact h1.symm
        · exact pr_err t _ L e h he
theorem pr_errno : ∀ (t : List (List UInt8 × Bool)) (acc : List (Int × Int × Int)), 0 ≤ (pr acc t).2 ∧ (pr acc t).2 ≤ 6
  | [], acc => by simp [pr]
  | x :: t, acc => by
    rw [pr]
    split
    · simp
    · split
      · simp
      · split
        · rename_i h; have := (ins_err h).2; simp only; omega
        · exact pr_errno t _
theorem parse_err {s : List UInt8} {L : List (Int × Int × Int)} {e : Int} (h : parse s = (L, e)) (he : e ≠ 0) : L = [] := pr_err _ _ _ _ h he
/-- What is shown is read as it was. -/
theorem parse_show {L : List (Int × Int × Int)} (hf : AllFitI L) : parse (showL L) = (if L.length ≤ 200 ∧ allR L = true then L else [], 0) := by
  unfold showL
  split
  · rename_i h; exact parse_flat h.1 h.2 hf
  · rfl
/-- What is read is shown as it was. -/
theorem show_parse {s : List UInt8} {L : List (Int × Int × Int)} (h : parse s = (L, 0)) : showL L = s := by
  obtain ⟨h1, h2, _, h4⟩ := parse_back h
  rw [show_right h1 h2, h4]
theorem flatL_ne {L : List (Int × Int × Int)} (hr : allR L = true) (h : flatL L = []) : L = [] := by
  cases L with
  | nil => rfl
  | cons i L =>
    rw [allR_cons] at hr
    simp only [Bool.and_eq_true] at hr
    rw [flatL_cons, line_right hr.1] at h
    simp at h
theorem show_some {L : List (Int × Int × Int)} (h : showL L ≠ []) : L.length ≤ 200 ∧ allR L = true ∧ showL L = flatL L := by
  unfold showL at h ⊢
  split at h
  · rename_i h1; rw [if_pos h1]; exact ⟨h1.1, h1.2, rfl⟩
  · exact absurd rfl h
theorem lineW_last {i : Int × Int × Int} (h : right i = true) : ∃ p b, lineW i = p ++ [b] ∧ b.toNat ≠ 69 := by
  have hk := (right_parts h).1
  have hk0 := kn_iff.1 hk
  by_cases h0 : nargs i.1 = 0
  · have e : lineW i = (opNameOf i.1.toNat).data.toList := by unfold lineW numsT; rw [if_pos h0, List.append_nil, onm_in hk]
    have hne : (opNameOf i.1.toNat).data.toList ≠ [] := by
      intro he
      have := onm_some hk
      rw [onm_in hk, Lib.toList_data, he] at this
      cases this
    refine ⟨_, _, e.trans (List.dropLast_concat_getLast hne).symm, ?_⟩
    have := onm_last ⟨i.1.toNat, by omega⟩ ((opNameOf i.1.toNat).data.toList.getLast hne) (by
      simp [List.getLast?_eq_some_getLast hne])
    exact this
  · by_cases h1 : nargs i.1 = 1
    · obtain ⟨p, b, hb, hb2⟩ := itoa_last i.2.1
      refine ⟨(onm i.1).data.toList ++ 32 :: p, b, ?_, by omega⟩
      unfold lineW numsT; rw [if_neg h0, if_pos h1, hb]; simp
    · obtain ⟨p, b, hb, hb2⟩ := itoa_last i.2.2
      refine ⟨(onm i.1).data.toList ++ 32 :: (Lib.itoa i.2.1 ++ 32 :: p), b, ?_, by omega⟩
      unfold lineW numsT; rw [if_neg h0, if_neg h1, hb]; simp
/-- A line more that is none spoils all. -/
theorem parse_none (s : List UInt8) : (parse (s ++ [78, 79, 78, 69, 10])).2 ≠ 0 := by
  intro h
  obtain ⟨L, hL⟩ : ∃ L, parse (s ++ [78, 79, 78, 69, 10]) = (L, 0) := ⟨(parse (s ++ [78, 79, 78, 69, 10])).1, by rw [← h]⟩
  obtain ⟨h1, h2, _, h4⟩ := parse_back hL
  have hne : L ≠ [] := by rintro rfl; simp [flatL] at h4
  obtain ⟨M, i, rfl⟩ : ∃ M i, L = M ++ [i] := ⟨L.dropLast, L.getLast hne, (List.dropLast_concat_getLast hne).symm⟩
  rw [allR_append] at h2
  simp only [Bool.and_eq_true] at h2
  have hi : right i = true := by have := h2.2; simpa [allR] using this
  obtain ⟨p, b, hb, hb2⟩ := lineW_last hi
  rw [flatL_append, flatL_cons, flatL_nil, List.append_nil, line_right hi, hb] at h4
  have e : flatL M ++ (p ++ [b] ++ [10]) = (flatL M ++ p ++ [b]) ++ [10] := by simp
  have e2 : s ++ [78, 79, 78, 69, 10] = (s ++ [78, 79, 78] ++ [69]) ++ [(10 : UInt8)] := by simp
  rw [e, e2] at h4
  have h5 := (List.append_inj' h4 rfl).1
  have h6 := (List.append_inj' h5 rfl).2
  injection h6 with h6
  rw [h6] at hb2
  exact hb2 rfl
/-- Lines end with the byte 10, each with one. -/
theorem count_flat {L : List (Int × Int × Int)} (hr : allR L = true) : (flatL L).count 10 = L.length := by
  induction L with
  | nil => rfl
  | cons i L ih =>
    rw [allR_cons] at hr
    simp only [Bool.and_eq_true] at hr
    rw [flatL_cons, line_right hr.1, List.count_append, ih hr.2, List.count_append, List.count_eq_zero_of_not_mem (lineW_no10 hr.1)]
    simp; omega
theorem show_inj {L M : List (Int × Int × Int)} (hL : AllFitI L) (hM : AllFitI M) (h1 : showL L ≠ []) (h : showL L = showL M) : L = M := by
  obtain ⟨a1, a2, a3⟩ := show_some h1
  obtain ⟨b1, b2, b3⟩ := show_some (h ▸ h1)
  have p1 := parse_flat a1 a2 hL
  have p2 := parse_flat b1 b2 hM
  rw [← a3, h, b3, p2] at p1
  injection p1 with p1; exact p1.symm
theorem show_cod {L : List (Int × Int × Int)} : showL L = [] ↔ cod L = [] := by
  unfold showL cod
  split
  · rename_i h
    constructor
    · intro h2; rw [flatL_ne h.2 h2]; rfl
    · intro h2
      cases L with
      | nil => rfl
      | cons i L =>
        have hr := h.2
        rw [allR_cons] at hr
        simp only [Bool.and_eq_true] at hr
        rw [flatI_cons, encI_right hr.1] at h2
        simp at h2
  · simp
theorem show_same {L M : List (Int × Int × Int)} (hL : AllFitI L) (hM : AllFitI M) : showL L = showL M ↔ cod L = cod M := by
  by_cases h : showL L = []
  · have h2 := show_cod.1 h
    rw [h, h2]
    constructor
    · intro e; exact (show_cod.1 e.symm).symm
    · intro e; exact (show_cod.2 e.symm).symm
  · have h2 : cod L ≠ [] := fun e => h (show_cod.2 e)
    constructor
    · intro e; rw [show_inj hL hM h e]
    · intro e; rw [cod_inj hL hM h2 e]
end Go.Proofs.YtofmlodfhdjjiaaDoor
