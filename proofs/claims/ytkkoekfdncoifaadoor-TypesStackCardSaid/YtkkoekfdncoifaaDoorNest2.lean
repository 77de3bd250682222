/- What is proved here: the plain answers of package nest (matches, homes, what is wrong, locks, held blocks) and facts on the bits of held blocks. Conditions: those each theorem states. -/
import Derived.Test.YtkkoekfdncoifaaDoorNest
namespace Go.Proofs.YtkkoekfdncoifaaDoor

/-- Can a row be? -/
def can (l : List (Int × Int × Int)) : Bool := decide (1 ≤ l.length ∧ l.length ≤ 200) && l.all right
def sound (l : List (Int × Int × Int)) : Bool := (List.range l.length).all (gd l) && (sk l l.length).isEmpty
theorem sound_iff {l : List (Int × Int × Int)} : sound l = true ↔ Sound l := by
  unfold sound Sound Good
  simp
theorem can_len {l : List (Int × Int × Int)} (h : can l = true) : 1 ≤ l.length ∧ l.length ≤ 200 := by
  unfold can at h; simp at h; omega
theorem can_right {l : List (Int × Int × Int)} (h : can l = true) {p : Nat} (hp : p < l.length) : right (at_ l p) = true := by
  unfold can at h
  simp only [Bool.and_eq_true, List.all_eq_true] at h
  have e : at_ l p = l[p] := by unfold at_; rw [List.getD_eq_getElem?_getD, List.getElem?_eq_getElem hp]; rfl
  rw [e]; exact h.2 _ (List.getElem_mem hp)
theorem can_iff {l : List (Int × Int × Int)} : can l = true ↔ (1 ≤ l.length ∧ l.length ≤ 200) ∧ ∀ p, p < l.length → right (at_ l p) = true := by
  constructor
  · intro h; exact ⟨can_len h, fun p hp => can_right h hp⟩
  · rintro ⟨h1, h2⟩
    unfold can
    simp only [Bool.and_eq_true, List.all_eq_true, decide_eq_true_eq]
    refine ⟨h1, fun x hx => ?_⟩
    obtain ⟨p, hp, e⟩ := List.getElem_of_mem hx
    have := h2 p hp
    unfold at_ at this
    rw [List.getD_eq_getElem?_getD, List.getElem?_eq_getElem hp] at this
    rw [← e]; exact this
/-- Match's error. -/
def mE (l : List (Int × Int × Int)) : Int := if can l = true then (if sound l = true then 0 else 7) else 1
def mL (l : List (Int × Int × Int)) : List Int := (List.range l.length).map (mt l l.length)
def hL (l : List (Int × Int × Int)) : List Int := (List.range l.length).map (hm l)
/-- Is the last one an End, and no other one? -/
def ends (l : List (Int × Int × Int)) : Bool := (List.range l.length).all fun i => ((at_ l i).1 == 25) == (i + 1 == l.length)
/-- Where a jump leads. -/
def led (l : List (Int × Int × Int)) (p : Nat) : Nat := p + 1 + (at_ l p).2.1.toNat
def jmp (i : Int × Int × Int) : Bool := i.1 == 19 || i.1 == 20
def stay (l : List (Int × Int × Int)) (p : Nat) : Bool := !jmp (at_ l p) || (decide (led l p < l.length) && (hm l (led l p) == hm l p))
def jmps (l : List (Int × Int × Int)) : Bool := (List.range l.length).all (stay l)
/-- Whole's error. -/
def wE (l : List (Int × Int × Int)) : Int := if mE l = 0 then (if ends l = true then (if jmps l = true then 0 else 8) else 7) else mE l
/-- The blocks of the locks of a stack, as a number. -/
def hb (l : List (Int × Int × Int)) : List Nat → Nat
  | [] => 0
  | t :: s => if (at_ l t).1 = 23 then hb l s ||| 2 ^ (at_ l t).2.1.toNat else hb l s
def hdL (l : List (Int × Int × Int)) : List Int := (List.range l.length).map fun p => ((hb l (sk l p) : Nat) : Int)
/-- Does an Unlock stand ahead? -/
def unl (l : List (Int × Int × Int)) (p : Nat) : Bool := (List.range p).any fun k => (at_ l k).1 == 24
def inl (l : List (Int × Int × Int)) (s : List Nat) : Bool := s.any fun t => (at_ l t).1 == 21
def ovr (l : List (Int × Int × Int)) (s : List Nat) (a : Int) : Bool := s.any fun t => (at_ l t).1 == 23 && decide (a ≤ (at_ l t).2.1)
def lkd (l : List (Int × Int × Int)) (s : List Nat) (a : Int) : Bool := s.any fun t => (at_ l t).1 == 23 && (at_ l t).2.1 == a
/-- May an instruction not stand where it does? -/
def bd (l : List (Int × Int × Int)) (p : Nat) : Bool :=
  if (at_ l p).1 = 23 then unl l p || (ovr l (sk l p) (at_ l p).2.1 || inl l (sk l p))
  else if (at_ l p).1 = 17 ∨ (at_ l p).1 = 18 then !lkd l (sk l p) (at_ l p).2.1 else false
def bds (l : List (Int × Int × Int)) (k : Nat) : Bool := (List.range k).any (bd l)
/-- Locks' error. -/
def lE (l : List (Int × Int × Int)) : Int := if wE l = 0 then (if bds l l.length = true then 11 else 0) else wE l
/-- The blocks of the first k instructions' locks. -/
def lks (l : List (Int × Int × Int)) (k : Nat) : List Int := ((l.take k).filter fun i => i.1 == 23).map fun i => i.2.1

theorem mL_len (l : List (Int × Int × Int)) : (mL l).length = l.length := by simp [mL]
theorem hL_len (l : List (Int × Int × Int)) : (hL l).length = l.length := by simp [hL]
theorem hdL_len (l : List (Int × Int × Int)) : (hdL l).length = l.length := by simp [hdL]
theorem mL_at {l : List (Int × Int × Int)} {p : Nat} (h : p < l.length) : (mL l).getD p 0 = mt l l.length p := by simp [mL, h]
theorem hL_at {l : List (Int × Int × Int)} {p : Nat} (h : p < l.length) : (hL l).getD p 0 = hm l p := by simp [hL, h]
theorem hdL_at {l : List (Int × Int × Int)} {p : Nat} (h : p < l.length) : (hdL l).getD p 0 = (hb l (sk l p) : Nat) := by simp [hdL, h]

theorem mE_zero {l : List (Int × Int × Int)} (h : mE l = 0) : can l = true ∧ Sound l := by
  unfold mE at h
  cases hc : can l
  · rw [hc] at h; simp at h
  · cases hs : sound l
    · rw [hc, hs] at h; simp at h
    · exact ⟨rfl, sound_iff.1 hs⟩
theorem mE_of {l : List (Int × Int × Int)} (h : can l = true) (h2 : Sound l) : mE l = 0 := by
  unfold mE; rw [h, sound_iff.2 h2]; rfl
theorem wE_zero {l : List (Int × Int × Int)} (h : wE l = 0) : mE l = 0 ∧ ends l = true ∧ jmps l = true := by
  unfold wE at h
  by_cases hm : mE l = 0
  · rw [if_pos hm] at h
    cases he : ends l
    · rw [he] at h; simp at h
    · cases hj : jmps l
      · rw [he, hj] at h; simp at h
      · exact ⟨hm, rfl, rfl⟩
  · rw [if_neg hm] at h; exact absurd h hm
theorem wE_of {l : List (Int × Int × Int)} (h : mE l = 0) (h2 : ends l = true) (h3 : jmps l = true) : wE l = 0 := by
  unfold wE; rw [if_pos h, h2, h3]; rfl
theorem lE_zero {l : List (Int × Int × Int)} (h : lE l = 0) : wE l = 0 ∧ bds l l.length = false := by
  unfold lE at h
  by_cases hm : wE l = 0
  · rw [if_pos hm] at h
    cases hb : bds l l.length
    · exact ⟨hm, rfl⟩
    · rw [hb] at h; simp at h
  · rw [if_neg hm] at h; exact absurd h hm
theorem lE_of {l : List (Int × Int × Int)} (h : wE l = 0) (h2 : bds l l.length = false) : lE l = 0 := by
  unfold lE; rw [if_pos h, h2]; rfl
theorem lE_bad {l : List (Int × Int × Int)} (h : wE l = 0) (h2 : bds l l.length = true) : lE l = 11 := by
  unfold lE; rw [if_pos h, h2]; rfl
theorem ends_iff {l : List (Int × Int × Int)} : ends l = true ↔ ∀ i, i < l.length → ((at_ l i).1 = 25 ↔ i + 1 = l.length) := by
  unfold ends
  simp only [List.all_eq_true, List.mem_range]
  constructor
  · intro h i hi
    have h2 := h i hi
    by_cases e1 : (at_ l i).1 = 25
    · by_cases e2 : i + 1 = l.length
      · simp [e1, e2]
      · simp [e1, e2] at h2
    · by_cases e2 : i + 1 = l.length
      · simp [e1, e2] at h2
      · simp [e1, e2]
  · intro h i hi
    have h2 := h i hi
    by_cases e1 : (at_ l i).1 = 25
    · simp [e1, h2.1 e1]
    · have : ¬ i + 1 = l.length := fun e => e1 (h2.2 e)
      have h3 : ((at_ l i).1 == 25) = false := by simpa using e1
      have h4 : (i + 1 == l.length) = false := by simpa using this
      rw [h3, h4]; rfl
theorem jmps_iff {l : List (Int × Int × Int)} : jmps l = true ↔ ∀ p, p < l.length → jmp (at_ l p) = true → led l p < l.length ∧ hm l (led l p) = hm l p := by
  unfold jmps stay
  simp only [List.all_eq_true, List.mem_range]
  constructor
  · intro h p hp hj
    have := h p hp
    rw [hj] at this
    simpa using this
  · intro h p hp
    cases hj : jmp (at_ l p)
    · simp
    · have := h p hp hj
      simp [this]
theorem bds_iff {l : List (Int × Int × Int)} {k : Nat} : bds l k = true ↔ ∃ p, p < k ∧ bd l p = true := by
  unfold bds; simp
theorem bds_succ (l : List (Int × Int × Int)) (k : Nat) : bds l (k + 1) = (bds l k || bd l k) := by
  unfold bds; rw [List.range_succ, List.any_append]; simp
theorem unl_succ (l : List (Int × Int × Int)) (k : Nat) : unl l (k + 1) = (unl l k || ((at_ l k).1 == 24)) := by
  unfold unl; rw [List.range_succ, List.any_append]; simp
theorem unl_iff {l : List (Int × Int × Int)} {k : Nat} : unl l k = true ↔ ∃ p, p < k ∧ (at_ l p).1 = 24 := by
  unfold unl; simp
theorem take_at {l : List (Int × Int × Int)} {k : Nat} (h : k < l.length) : l.take (k + 1) = l.take k ++ [at_ l k] := by
  rw [List.take_succ_eq_append_getElem h]
  congr 2
  unfold at_; rw [List.getD_eq_getElem?_getD, List.getElem?_eq_getElem h]; rfl
theorem lks_succ {l : List (Int × Int × Int)} {k : Nat} (h : k < l.length) : lks l (k + 1) = if (at_ l k).1 = 23 then lks l k ++ [(at_ l k).2.1] else lks l k := by
  unfold lks
  rw [take_at h, List.filter_append, List.map_append]
  by_cases e : (at_ l k).1 = 23
  · simp [e]
  · simp [e]
theorem lks_len (l : List (Int × Int × Int)) (k : Nat) : (lks l k).length ≤ k := by
  unfold lks
  rw [List.length_map]
  have h1 := List.length_filter_le (fun i : Int × Int × Int => i.1 == 23) (l.take k)
  have h2 := List.length_take_le k l
  omega

theorem right_lock {i : Int × Int × Int} (h : right i = true) (hi : i.1 = 23 ∨ i.1 = 24 ∨ i.1 = 17 ∨ i.1 = 18) : 0 ≤ i.2.1 ∧ i.2.1 < 8 := by
  have h2 := (right_parts h).2.1
  unfold rA at h2
  rw [if_neg (by omega), if_neg (by omega), if_pos (by omega)] at h2
  exact pl_iff.1 h2
theorem right_jump {i : Int × Int × Int} (h : right i = true) (hi : jmp i = true) : 0 ≤ i.2.1 ∧ i.2.1 < 200 := by
  have h2 := (right_parts h).2.1
  unfold jmp at hi
  simp at hi
  unfold rA at h2
  rw [if_neg (by omega), if_neg (by omega), if_neg (by omega), if_neg (by omega), if_pos (by omega)] at h2
  exact pl_iff.1 h2

/-- All locks' blocks of a row are in their room. -/
def Blk8 (l : List (Int × Int × Int)) : Prop := ∀ t, (at_ l t).1 = 23 → 0 ≤ (at_ l t).2.1 ∧ (at_ l t).2.1 < 8
theorem can_blk {l : List (Int × Int × Int)} (h : can l = true) : Blk8 l := by
  intro t ht
  by_cases e : t < l.length
  · exact right_lock (can_right h e) (Or.inl ht)
  · rw [at_len (by omega)] at ht; simp at ht
theorem hb_test (l : List (Int × Int × Int)) (b : Nat) : ∀ s : List Nat, (hb l s).testBit b = s.any fun t => (at_ l t).1 == 23 && (at_ l t).2.1.toNat == b
  | [] => by simp [hb]
  | t :: s => by
    rw [hb, List.any_cons, ← hb_test l b s]
    by_cases h : (at_ l t).1 = 23
    · rw [if_pos h, Nat.testBit_or, Nat.testBit_two_pow, h]
      simp [Bool.or_comm]
      rfl
    · rw [if_neg h]
      simp [h]
theorem hb_lt {l : List (Int × Int × Int)} (h : Blk8 l) : ∀ s : List Nat, hb l s < 256
  | [] => by simp [hb]
  | t :: s => by
    have := hb_lt h s
    rw [hb]
    by_cases e : (at_ l t).1 = 23
    · rw [if_pos e]
      have h2 := h t e
      exact Nat.or_lt_two_pow (n := 8) this (Nat.pow_lt_pow_right (by decide) (by omega))
    · rw [if_neg e]; exact this
theorem hb_and {l : List (Int × Int × Int)} (h : Blk8 l) (s : List Nat) {a : Int} (ha : 0 ≤ a) : (hb l s &&& 2 ^ a.toNat == 0) = !lkd l s a := by
  have e : lkd l s a = (hb l s).testBit a.toNat := by
    rw [hb_test]
    unfold lkd
    congr 1; funext t
    by_cases e : (at_ l t).1 = 23
    · have := h t e
      have h2 : ((at_ l t).1 == 23) = true := by simpa using e
      rw [h2, Bool.true_and, Bool.true_and, Bool.eq_iff_iff, beq_iff_eq, beq_iff_eq]; omega
    · have h2 : ((at_ l t).1 == 23) = false := by simpa using e
      rw [h2]; rfl
  rw [e]
  cases ht : (hb l s).testBit a.toNat
  · have : hb l s &&& 2 ^ a.toNat = 0 := by
      apply Nat.eq_of_testBit_eq
      intro i
      rw [Nat.testBit_and, Nat.testBit_two_pow]
      by_cases hi : a.toNat = i
      · rw [← hi, ht]; simp
      · simp [hi]
    rw [this]; rfl
  · have : hb l s &&& 2 ^ a.toNat ≠ 0 := by
      intro e
      have h2 : (hb l s &&& 2 ^ a.toNat).testBit a.toNat = true := by
        rw [Nat.testBit_and, Nat.testBit_two_pow, ht]; simp
      rw [e] at h2; simp at h2
    simpa using this
theorem hb_shr {l : List (Int × Int × Int)} (h : Blk8 l) (s : List Nat) {a : Int} (ha : 0 ≤ a) : (hb l s / 2 ^ a.toNat != 0) = ovr l s a := by
  have hp : 0 < 2 ^ a.toNat := Nat.pow_pos (by decide)
  cases ho : ovr l s a
  · have : hb l s < 2 ^ a.toNat := by
      apply Nat.lt_pow_two_of_testBit
      intro i hi
      rw [hb_test, List.any_eq_false]
      intro t ht hc
      simp only [Bool.and_eq_true, beq_iff_eq] at hc
      have h2 := h t hc.1
      unfold ovr at ho
      rw [List.any_eq_false] at ho
      apply ho t ht
      simp only [Bool.and_eq_true, beq_iff_eq, decide_eq_true_eq]
      exact ⟨hc.1, by omega⟩
    rw [Nat.div_eq_of_lt this]; rfl
  · unfold ovr at ho
    rw [List.any_eq_true] at ho
    obtain ⟨t, ht, hc⟩ := ho
    simp only [Bool.and_eq_true, beq_iff_eq, decide_eq_true_eq] at hc
    have h2 := h t hc.1
    have h3 : (hb l s).testBit (at_ l t).2.1.toNat = true := by
      rw [hb_test, List.any_eq_true]
      exact ⟨t, ht, by simp [hc.1]⟩
    have h4 := Nat.ge_two_pow_of_testBit h3
    have h5 : 2 ^ a.toNat ≤ 2 ^ (at_ l t).2.1.toNat := Nat.pow_le_pow_right (by decide) (by omega)
    have : hb l s / 2 ^ a.toNat ≠ 0 := by
      intro e
      rw [Nat.div_eq_zero_iff] at e
      omega
    simpa using this
end Go.Proofs.YtkkoekfdncoifaaDoor
