/- What is proved here: plain facts on instructions as rows of bytes: which can be, their bytes, the instruction at a place, rows of them; what is encoded is decoded as it was, cut off it is short, and what is read has the bytes that were read. Conditions: none beyond those each theorem states. -/
import Derived.Test.YtofmlodfhdjjiaaDoorUse
namespace Go.Proofs.YtofmlodfhdjjiaaDoor

/-- Is a number one of the operations? -/
def kn (o : Int) : Bool := decide (1 ≤ o ∧ o ≤ 25)
/-- How many numbers an operation has. -/
def nargs (o : Int) : Nat :=
  if o = 1 ∨ o = 5 ∨ (11 ≤ o ∧ o ≤ 16) ∨ (19 ≤ o ∧ o ≤ 21) ∨ o = 23 ∨ o = 24 then 1 else if o = 17 ∨ o = 18 then 2 else 0
def argsOf (o : Int) : Int := if kn o then nargs o else -1
/-- Is a number in its room? -/
def pl (a m : Int) : Bool := decide (0 ≤ a ∧ a < m)
def rA (o a : Int) : Bool :=
  if o = 1 then true else if o = 5 then decide (1 ≤ a ∧ a ≤ 12)
  else if (11 ≤ o ∧ o ≤ 14) ∨ o = 17 ∨ o = 18 ∨ o = 23 ∨ o = 24 then pl a 8
  else if o = 15 ∨ o = 16 then pl a 16 else if o = 19 ∨ o = 20 then pl a 200
  else if o = 21 then decide (1 ≤ a ∧ a ≤ 1000) else a == 0
def rB (o b : Int) : Bool := if o = 17 ∨ o = 18 then pl b 8 else b == 0
/-- Can an instruction be? -/
def right (i : Int × Int × Int) : Bool := kn i.1 && (rA i.1 i.2.1 && rB i.1 i.2.2)
theorem kn_iff {o : Int} : kn o = true ↔ 1 ≤ o ∧ o ≤ 25 := by unfold kn; simp
theorem pl_iff {a m : Int} : pl a m = true ↔ 0 ≤ a ∧ a < m := by unfold pl; simp
theorem right_kn {i : Int × Int × Int} (h : right i = true) : 1 ≤ i.1 ∧ i.1 ≤ 25 := by
  unfold right at h; simp only [Bool.and_eq_true] at h; exact kn_iff.1 h.1
theorem rA_small {o a : Int} (h : rA o a = true) (h1 : o ≠ 1) : 0 ≤ a ∧ a ≤ 1000 := by
  unfold rA at h
  rw [if_neg h1] at h
  split at h
  · have := of_decide_eq_true h; omega
  · split at h
    · have := pl_iff.1 h; omega
    · split at h
      · have := pl_iff.1 h; omega
      · split at h
        · have := pl_iff.1 h; omega
        · split at h
          · have := of_decide_eq_true h; omega
          · have := eq_of_beq h; omega
theorem rB_small {o b : Int} (h : rB o b = true) : 0 ≤ b ∧ b ≤ 7 := by
  unfold rB at h
  split at h
  · have := pl_iff.1 h; omega
  · have := eq_of_beq h; omega
theorem nargs_le (o : Int) : nargs o ≤ 2 := by unfold nargs; split; · omega
                                               · split <;> omega
theorem rA_zero {o a : Int} (hk : 1 ≤ o ∧ o ≤ 25) (h : rA o a = true) (hn : nargs o = 0) : a = 0 := by
  unfold nargs at hn
  split at hn
  · omega
  · rename_i h1
    split at hn
    · omega
    · rename_i h2
      unfold rA at h
      rw [if_neg (by omega), if_neg (by omega), if_neg (by omega), if_neg (by omega), if_neg (by omega), if_neg (by omega)] at h
      exact eq_of_beq h
theorem rB_zero {o b : Int} (h : rB o b = true) (hn : nargs o ≤ 1) : b = 0 := by
  unfold rB at h
  split at h
  · rename_i h1
    unfold nargs at hn
    rw [if_neg (by omega), if_pos h1] at hn; omega
  · exact eq_of_beq h
theorem right_parts {i : Int × Int × Int} (h : right i = true) : kn i.1 = true ∧ rA i.1 i.2.1 = true ∧ rB i.1 i.2.2 = true := by
  unfold right at h; simp only [Bool.and_eq_true] at h; exact h
theorem right_none {i : Int × Int × Int} (h : right i = true) (hn : nargs i.1 = 0) : i.2.1 = 0 ∧ i.2.2 = 0 := by
  obtain ⟨h1, h2, h3⟩ := right_parts h
  exact ⟨rA_zero (kn_iff.1 h1) h2 hn, rB_zero h3 (by omega)⟩
theorem right_one {i : Int × Int × Int} (h : right i = true) (hn : nargs i.1 = 1) : i.2.2 = 0 := by
  obtain ⟨h1, h2, h3⟩ := right_parts h
  exact rB_zero h3 (by omega)

theorem fits0 : Fits 0 := ⟨by decide, by decide⟩
/-- The numbers of an instruction fit. -/
def FitsI (i : Int × Int × Int) : Prop := Fits i.1 ∧ Fits i.2.1 ∧ Fits i.2.2
/-- The bytes of an instruction's numbers. -/
def tailI (i : Int × Int × Int) : List UInt8 :=
  if nargs i.1 = 0 then [] else if nargs i.1 = 1 then enc (turn i.2.1) else enc (turn i.2.1) ++ enc (turn i.2.2)
/-- The first byte. -/
def opB (o : Int) : UInt8 := UInt8.ofNat o.toNat
theorem opB_val {o : Int} (h : 1 ≤ o ∧ o ≤ 25) : ((opB o).toNat : Int) = o := by unfold opB; simp; omega
def encI (i : Int × Int × Int) : List UInt8 := if right i = true then opB i.1 :: tailI i else []
theorem encI_right {i : Int × Int × Int} (h : right i = true) : encI i = opB i.1 :: tailI i := by unfold encI; rw [if_pos h]
theorem encI_wrong {i : Int × Int × Int} (h : right i = false) : encI i = [] := by unfold encI; rw [if_neg (by simp [h])]
theorem encI_ne {i : Int × Int × Int} : encI i = [] ↔ right i = false := by
  cases h : right i
  · simp [encI_wrong h]
  · simp [encI_right h]
theorem tailI_len {i : Int × Int × Int} (hf : FitsI i) : nargs i.1 ≤ (tailI i).length ∧ (tailI i).length ≤ 10 * nargs i.1 := by
  have h1 := enc_ten (turn_fits hf.2.1)
  have h2 := enc_ten (turn_fits hf.2.2)
  have h3 := enc_pos (turn i.2.1)
  have h4 := enc_pos (turn i.2.2)
  have h5 := nargs_le i.1
  unfold tailI
  split
  · simp; omega
  · split
    · omega
    · rw [List.length_append]; omega
theorem encI_len {i : Int × Int × Int} (hf : FitsI i) : (encI i).length ≤ 21 := by
  have h5 := nargs_le i.1
  have h := (tailI_len hf).2
  cases hr : right i
  · rw [encI_wrong hr]; simp
  · rw [encI_right hr, List.length_cons]; omega

/-- An operation with the numbers that stand at a place, right or not: it, the place behind, what is wrong. -/
def wn (l : List UInt8) (o p : Int) : (Int × Int × Int) × Int × Int :=
  if nargs o = 0 then ((o, 0, 0), p, 0)
  else if gE l p ≠ 0 then ((0, 0, 0), 0, gE l p)
  else if nargs o = 1 then ((o, gN l p, 0), gT l p, 0)
  else if gE l (gT l p) ≠ 0 then ((0, 0, 0), 0, gE l (gT l p))
  else ((o, gN l p, gN l (gT l p)), gT l (gT l p), 0)
/-- The operation at a place. -/
def opAt (l : List UInt8) (p : Int) : Int := ((l.getD p.toNat 0).toNat : Int)
/-- The instruction at a place. -/
def dec (l : List UInt8) (p : Int) : (Int × Int × Int) × Int × Int :=
  if p < 0 ∨ (l.length : Int) < p then ((0, 0, 0), 0, 1)
  else if p = l.length then ((0, 0, 0), 0, 2)
  else if kn (opAt l p) = false then ((0, 0, 0), 0, 6)
  else if (wn l (opAt l p) (p + 1)).2.2 ≠ 0 then ((0, 0, 0), 0, (wn l (opAt l p) (p + 1)).2.2)
  else if right (wn l (opAt l p) (p + 1)).1 = false then ((0, 0, 0), 0, 6)
  else wn l (opAt l p) (p + 1)
theorem dec_out {l : List UInt8} {p : Int} (h : p < 0 ∨ (l.length : Int) < p) : dec l p = ((0, 0, 0), 0, 1) := by unfold dec; rw [if_pos h]
theorem dec_end {l : List UInt8} {p : Int} (h : p = l.length) : dec l p = ((0, 0, 0), 0, 2) := by unfold dec; rw [if_neg (by omega), if_pos h]
theorem dec_op {l : List UInt8} {p : Int} (h0 : 0 ≤ p) (h : p < l.length) (hk : kn (opAt l p) = false) : dec l p = ((0, 0, 0), 0, 6) := by
  unfold dec; rw [if_neg (by omega), if_neg (by omega), if_pos hk]
theorem dec_num {l : List UInt8} {p : Int} (h0 : 0 ≤ p) (h : p < l.length) (hk : kn (opAt l p) = true) (hw : (wn l (opAt l p) (p + 1)).2.2 ≠ 0) : dec l p = ((0, 0, 0), 0, (wn l (opAt l p) (p + 1)).2.2) := by
  unfold dec; rw [if_neg (by omega), if_neg (by omega), if_neg (by simp [hk]), if_pos hw]
theorem dec_bad {l : List UInt8} {p : Int} (h0 : 0 ≤ p) (h : p < l.length) (hk : kn (opAt l p) = true) (hw : (wn l (opAt l p) (p + 1)).2.2 = 0) (hr : right (wn l (opAt l p) (p + 1)).1 = false) : dec l p = ((0, 0, 0), 0, 6) := by
  unfold dec; rw [if_neg (by omega), if_neg (by omega), if_neg (by simp [hk]), if_neg (by simp [hw]), if_pos hr]
theorem dec_good {l : List UInt8} {p : Int} (h0 : 0 ≤ p) (h : p < l.length) (hk : kn (opAt l p) = true) (hw : (wn l (opAt l p) (p + 1)).2.2 = 0) (hr : right (wn l (opAt l p) (p + 1)).1 = true) : dec l p = wn l (opAt l p) (p + 1) := by
  unfold dec; rw [if_neg (by omega), if_neg (by omega), if_neg (by simp [hk]), if_neg (by simp [hw]), if_neg (by simp [hr])]
theorem wn_none {l : List UInt8} {o p : Int} (h : nargs o = 0) : wn l o p = ((o, 0, 0), p, 0) := by unfold wn; rw [if_pos h]
theorem wn_err {l : List UInt8} {o p : Int} (h : nargs o ≠ 0) (he : gE l p ≠ 0) : wn l o p = ((0, 0, 0), 0, gE l p) := by unfold wn; rw [if_neg h, if_pos he]
theorem wn_one {l : List UInt8} {o p : Int} (h : nargs o = 1) (he : gE l p = 0) : wn l o p = ((o, gN l p, 0), gT l p, 0) := by unfold wn; rw [if_neg (by omega), if_neg (by simp [he]), if_pos h]
theorem wn_err2 {l : List UInt8} {o p : Int} (h : nargs o = 2) (he : gE l p = 0) (he2 : gE l (gT l p) ≠ 0) : wn l o p = ((0, 0, 0), 0, gE l (gT l p)) := by unfold wn; rw [if_neg (by omega), if_neg (by simp [he]), if_neg (by omega), if_pos he2]
theorem wn_two {l : List UInt8} {o p : Int} (h : nargs o = 2) (he : gE l p = 0) (he2 : gE l (gT l p) = 0) : wn l o p = ((o, gN l p, gN l (gT l p)), gT l (gT l p), 0) := by
  unfold wn; rw [if_neg (by omega), if_neg (by simp [he]), if_neg (by omega), if_neg (by simp [he2])]
theorem nargs_012 (o : Int) : nargs o = 0 ∨ nargs o = 1 ∨ nargs o = 2 := by have := nargs_le o; omega

/-- Beside an error there are zeros. -/
theorem dec_zero {l : List UInt8} {p : Int} (h : (dec l p).2.2 ≠ 0) : (dec l p).1 = (0, 0, 0) ∧ (dec l p).2.1 = 0 := by
  by_cases h1 : p < 0 ∨ (l.length : Int) < p
  · rw [dec_out h1]; exact ⟨rfl, rfl⟩
  by_cases h2 : p = l.length
  · rw [dec_end h2]; exact ⟨rfl, rfl⟩
  cases hk : kn (opAt l p)
  · rw [dec_op (by omega) (by omega) hk]; exact ⟨rfl, rfl⟩
  by_cases hw : (wn l (opAt l p) (p + 1)).2.2 = 0
  · cases hr : right (wn l (opAt l p) (p + 1)).1
    · rw [dec_bad (by omega) (by omega) hk hw hr]; exact ⟨rfl, rfl⟩
    · rw [dec_good (by omega) (by omega) hk hw hr] at h; exact absurd hw h
  · rw [dec_num (by omega) (by omega) hk hw]; exact ⟨rfl, rfl⟩

theorem opAt_mid (pre rest : List UInt8) (c : UInt8) : opAt (pre ++ c :: rest) pre.length = c.toNat := by
  unfold opAt; simp

/-- What is encoded is decoded as it was, whatever stands ahead and behind. -/
theorem dec_enc {i : Int × Int × Int} (hr : right i = true) (hf : FitsI i) (pre rest : List UInt8) :
    dec (pre ++ (encI i ++ rest)) pre.length = (i, (pre.length : Int) + (encI i).length, 0) := by
  have hk := right_kn hr
  have hkn := (right_parts hr).1
  obtain ⟨o, a, b⟩ := i
  simp only at hk
  have hop : ((opB o).toNat : Int) = o := opB_val hk
  rw [encI_right hr, List.cons_append]
  obtain ⟨l, hl⟩ : ∃ l, l = pre ++ opB o :: (tailI (o, a, b) ++ rest) := ⟨_, rfl⟩
  have ho : opAt l pre.length = o := by rw [hl, opAt_mid, hop]
  have hlen : l.length = pre.length + 1 + (tailI (o, a, b)).length + rest.length := by rw [hl]; simp; omega
  have hl2 : l = (pre ++ [opB o]) ++ (tailI (o, a, b) ++ rest) := by rw [hl]; simp
  have hp1 : ((pre ++ [opB o]).length : Int) = (pre.length : Int) + 1 := by simp
  have hw : wn l o ((pre.length : Int) + 1) = ((o, a, b), (pre.length : Int) + (opB o :: tailI (o, a, b)).length, 0) := by
    rcases nargs_012 o with hn | hn | hn
    · obtain ⟨e1, e2⟩ := right_none hr hn
      simp only at e1 e2
      subst e1 e2
      rw [wn_none hn]
      simp [tailI, hn]
    · have e2 := right_one hr hn
      simp only at e2
      subst e2
      have ht : tailI (o, a, 0) = enc (turn a) := by unfold tailI; rw [if_neg (by simp [hn]), if_pos hn]
      rw [ht] at hl2
      obtain ⟨g1, g2, g3⟩ := get_enc hf.2.1 (pre ++ [opB o]) rest
      simp only at g1 g2 g3
      rw [← hl2, hp1] at g1 g2 g3
      rw [wn_one hn g3, g1, g2, ht]
      unfold sz; simp; omega
    · have ht : tailI (o, a, b) = enc (turn a) ++ enc (turn b) := by unfold tailI; rw [if_neg (by simp [hn]), if_neg (by simp [hn])]
      rw [ht, List.append_assoc (enc (turn a))] at hl2
      obtain ⟨g1, g2, g3⟩ := get_enc hf.2.1 (pre ++ [opB o]) (enc (turn b) ++ rest)
      simp only at g1 g2 g3
      rw [← hl2, hp1] at g1 g2 g3
      have hl3 : l = (pre ++ [opB o] ++ enc (turn a)) ++ (enc (turn b) ++ rest) := by rw [hl2]; simp
      obtain ⟨q1, q2, q3⟩ := get_enc hf.2.2 (pre ++ [opB o] ++ enc (turn a)) rest
      simp only at q1 q2 q3
      have hp2 : ((pre ++ [opB o] ++ enc (turn a)).length : Int) = (pre.length : Int) + 1 + (sz a : Nat) := by unfold sz; simp; omega
      rw [← hl3, hp2] at q1 q2 q3
      rw [wn_two hn g3 (by rw [g2]; exact q3), g1, g2, q1, q2, ht]
      unfold sz; simp; omega
  rw [← hl, dec_good (by omega) (by omega) (by rw [ho]; exact hkn) (by rw [ho, hw]) (by rw [ho, hw]; exact hr), ho, hw]

/-- Cut off it is short. -/
theorem dec_cut {i : Int × Int × Int} (hr : right i = true) (hf : FitsI i) (pre : List UInt8) {k : Nat} (hc : k < (encI i).length) :
    dec (pre ++ (encI i).take k) pre.length = ((0, 0, 0), 0, 2) := by
  have hk := right_kn hr
  have hkn := (right_parts hr).1
  obtain ⟨o, a, b⟩ := i
  simp only at hk
  have hop : ((opB o).toNat : Int) = o := opB_val hk
  rw [encI_right hr] at hc ⊢
  cases k with
  | zero => rw [List.take_zero, List.append_nil]; exact dec_end rfl
  | succ j =>
    rw [List.take_succ_cons]
    rw [List.length_cons] at hc
    obtain ⟨l, hl⟩ : ∃ l, l = pre ++ opB o :: (tailI (o, a, b)).take j := ⟨_, rfl⟩
    have ho : opAt l pre.length = o := by rw [hl, opAt_mid, hop]
    have hlen : l.length = pre.length + 1 + j := by rw [hl]; simp; omega
    have hl2 : l = (pre ++ [opB o]) ++ (tailI (o, a, b)).take j := by rw [hl]; simp
    have hp1 : ((pre ++ [opB o]).length : Int) = (pre.length : Int) + 1 := by simp
    have hw : (wn l o ((pre.length : Int) + 1)).2.2 = 2 := by
      rcases nargs_012 o with hn | hn | hn
      · simp [tailI, hn] at hc
      · have ht : tailI (o, a, b) = enc (turn a) := by unfold tailI; rw [if_neg (by simp [hn]), if_pos hn]
        rw [ht] at hl2 hc
        have g3 := get_cut hf.2.1 (pre ++ [opB o]) (k := j) (by unfold sz; simp only; omega)
        simp only at g3
        rw [← hl2, hp1] at g3
        rw [wn_err (by omega) (by omega), g3]
      · have ht : tailI (o, a, b) = enc (turn a) ++ enc (turn b) := by unfold tailI; rw [if_neg (by simp [hn]), if_neg (by simp [hn])]
        rw [ht] at hl2 hc
        rw [List.length_append] at hc
        by_cases hj : j < (enc (turn a)).length
        · rw [List.take_append_of_le_length (by omega)] at hl2
          have g3 := get_cut hf.2.1 (pre ++ [opB o]) (k := j) (by unfold sz; simp only; omega)
          simp only at g3
          rw [← hl2, hp1] at g3
          rw [wn_err (by omega) (by omega), g3]
        · rw [List.take_append, List.take_of_length_le (by omega)] at hl2
          obtain ⟨g1, g2, g3⟩ := get_enc hf.2.1 (pre ++ [opB o]) ((enc (turn b)).take (j - (enc (turn a)).length))
          simp only at g1 g2 g3
          rw [← hl2, hp1] at g1 g2 g3
          have hl3 : l = (pre ++ [opB o] ++ enc (turn a)) ++ (enc (turn b)).take (j - (enc (turn a)).length) := by rw [hl2]; simp
          have q3 := get_cut hf.2.2 (pre ++ [opB o] ++ enc (turn a)) (k := j - (enc (turn a)).length) (by unfold sz; simp only; omega)
          simp only at q3
          have hp2 : ((pre ++ [opB o] ++ enc (turn a)).length : Int) = (pre.length : Int) + 1 + (sz a : Nat) := by unfold sz; simp; omega
          rw [← hl3, hp2] at q3
          rw [wn_err2 hn g3 (by rw [g2]; omega), g2, q3]
    rw [← hl, dec_num (by omega) (by omega) (by rw [ho]; exact hkn) (by rw [ho, hw]; omega), ho, hw]

theorem take_two {α : Type} (l : List α) (k s t : Nat) (h1 : k ≤ s) (h2 : s ≤ t) : (l.drop k).take (t - k) = (l.drop k).take (s - k) ++ (l.drop s).take (t - s) := by
  have e : t - k = (s - k) + (t - s) := by omega
  rw [e, List.take_add, List.drop_drop]
  congr 3; omega

/-- What is decoded has the bytes that stand there. -/
theorem dec_ok {l : List UInt8} {k : Nat} (h : (dec l k).2.2 = 0) : ∃ t : Nat, (dec l k).2.1 = t ∧ k < t ∧ t ≤ l.length ∧ right (dec l k).1 = true ∧ FitsI (dec l k).1 ∧ encI (dec l k).1 = (l.drop k).take (t - k) := by
  by_cases h1 : (k : Int) < 0 ∨ (l.length : Int) < k
  · rw [dec_out h1] at h; simp at h
  by_cases h2 : (k : Int) = l.length
  · rw [dec_end h2] at h; simp at h
  cases hk : kn (opAt l k)
  · rw [dec_op (by omega) (by omega) hk] at h; simp at h
  by_cases hw : (wn l (opAt l k) (k + 1)).2.2 ≠ 0
  · rw [dec_num (by omega) (by omega) hk hw] at h; exact absurd h hw
  replace hw : (wn l (opAt l k) (k + 1)).2.2 = 0 := Decidable.not_not.1 hw
  cases hr : right (wn l (opAt l k) (k + 1)).1
  · rw [dec_bad (by omega) (by omega) hk hw hr] at h; simp at h
  rw [dec_good (by omega) (by omega) hk hw hr]
  have hkl : k < l.length := by omega
  obtain ⟨o, ho⟩ : ∃ o, o = opAt l k := ⟨_, rfl⟩
  rw [← ho] at hk hw hr ⊢
  have hok := kn_iff.1 hk
  have hfo : Fits o := ⟨by omega, by omega⟩
  have hb : opB o = l[k] := by
    rw [ho]; unfold opAt opB; simp [List.getD_eq_getElem?_getD, List.getElem?_eq_getElem hkl]
  have hd : l.drop k = l[k] :: l.drop (k + 1) := List.drop_eq_getElem_cons hkl
  have cast1 : ((k : Int) + 1) = ((k + 1 : Nat) : Int) := by omega
  rw [cast1] at hw hr ⊢
  rcases nargs_012 o with hn | hn | hn
  · rw [wn_none hn] at hr ⊢
    refine ⟨k + 1, rfl, by omega, by omega, hr, ⟨hfo, fits0, fits0⟩, ?_⟩
    have ht : tailI (o, 0, 0) = [] := by simp [tailI, hn]
    rw [encI_right hr, hb, hd, show k + 1 - k = 0 + 1 by omega, List.take_succ_cons, List.take_zero]
    exact congrArg _ ht
  · by_cases he : gE l ((k + 1 : Nat) : Int) ≠ 0
    · rw [wn_err (by omega) he] at hw; exact absurd hw he
    replace he : gE l ((k + 1 : Nat) : Int) = 0 := Decidable.not_not.1 he
    obtain ⟨t, ht, ht1, ht2, ht3, ht4, htf, _⟩ := g_plain he
    rw [wn_one hn he] at hr ⊢
    refine ⟨t, ht, by omega, by omega, hr, ⟨hfo, htf, fits0⟩, ?_⟩
    rw [encI_right hr, hb, hd, show t - k = (t - (k + 1)) + 1 by omega, List.take_succ_cons, ← ht4]
    congr 1
    unfold tailI; rw [if_neg (by simp [hn]), if_pos hn]
  · by_cases he : gE l ((k + 1 : Nat) : Int) ≠ 0
    · rw [wn_err (by omega) he] at hw; exact absurd hw he
    replace he : gE l ((k + 1 : Nat) : Int) = 0 := Decidable.not_not.1 he
    obtain ⟨t, ht, ht1, ht2, ht3, ht4, htf, _⟩ := g_plain he
    by_cases he2 : gE l (gT l ((k + 1 : Nat) : Int)) ≠ 0
    · rw [wn_err2 hn he he2] at hw; exact absurd hw he2
    replace he2 : gE l (gT l ((k + 1 : Nat) : Int)) = 0 := Decidable.not_not.1 he2
    rw [wn_two hn he he2] at hr ⊢
    rw [ht] at he2 hr ⊢
    obtain ⟨t', hu, hu1, hu2, hu3, hu4, huf, _⟩ := g_plain he2
    refine ⟨t', hu, by omega, by omega, hr, ⟨hfo, htf, huf⟩, ?_⟩
    rw [encI_right hr, hb, hd, show t' - k = (t' - (k + 1)) + 1 by omega, List.take_succ_cons, take_two l (k + 1) t t' (by omega) (by omega), ← ht4, ← hu4]
    congr 1
    unfold tailI; rw [if_neg (by simp [hn]), if_neg (by simp [hn])]
end Go.Proofs.YtofmlodfhdjjiaaDoor
