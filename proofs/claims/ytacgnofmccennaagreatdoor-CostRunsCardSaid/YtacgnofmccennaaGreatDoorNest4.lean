/- What is proved here: plain facts on rows one behind the other, and on a loop around a row: their regions, jumps and locks. Conditions: those each theorem states. -/
import Derived.Test.YtacgnofmccennaaGreatDoorGh
namespace Go.Proofs.YtacgnofmccennaaGreatDoor

theorem sk_congr {P A : List (Int × Int × Int)} : ∀ {k : Nat}, (∀ j, j < k → at_ P j = at_ A j) → sk P k = sk A k
  | 0, _ => rfl
  | k + 1, h => by
    have ih := sk_congr (k := k) (fun j hj => h j (by omega))
    simp only [sk, h k (by omega), ih]
theorem gd_congr {P A : List (Int × Int × Int)} {k : Nat} (h : ∀ j, j ≤ k → at_ P j = at_ A j) : gd P k = gd A k := by
  have e := sk_congr (P := P) (A := A) (k := k) (fun j hj => h j (by omega))
  unfold gd
  rw [e, h k (Nat.le_refl _)]
  cases hs : sk A k with
  | nil => rfl
  | cons t s =>
    have := sk_lt (l := A) (k := k) (t := t) (by rw [hs]; simp)
    simp only [h t (by omega)]
/-- The stack of a row that stands behind another one. -/
theorem sk_shift {Q L : List (Int × Int × Int)} {c : Nat} {S0 : List Nat} (h0 : sk Q c = S0) {m : Nat} (ha : ∀ j, j < m → at_ Q (c + j) = at_ L j) (hg : Good L m) : ∀ {j : Nat}, j ≤ m → sk Q (c + j) = (sk L j).map (fun t => c + t) ++ S0
  | 0, _ => by simpa [sk] using h0
  | j + 1, hj => by
    have ih := sk_shift h0 ha hg (j := j) (by omega)
    have e := ha j (by omega)
    rw [show c + (j + 1) = (c + j) + 1 from rfl]
    cases ho : opn (at_ L j)
    · cases hc : cls (at_ L j)
      · rw [sk_oth (by rw [e]; exact ho) (by rw [e]; exact hc), sk_oth ho hc]; exact ih
      · rw [sk_cls (by rw [e]; exact hc), sk_cls hc, ih]
        have hgj := hg j (by omega)
        unfold gd at hgj
        cases hs : sk L j with
        | nil => rw [hc, hs] at hgj; simp at hgj
        | cons t s => simp
    · rw [sk_opn' (by rw [e]; exact ho), sk_opn' ho, ih]; simp
theorem gd_shift {Q L : List (Int × Int × Int)} {c : Nat} {S0 : List Nat} (h0 : sk Q c = S0) {m : Nat} (ha : ∀ j, j < m → at_ Q (c + j) = at_ L j) (hg : Good L m) {j : Nat} (hj : j < m) : gd Q (c + j) = true := by
  have e := ha j hj
  have es := sk_shift h0 ha hg (j := j) (by omega)
  have hgj := hg j hj
  unfold gd at hgj ⊢
  rw [e]
  cases hc : cls (at_ L j)
  · rfl
  · rw [hc] at hgj
    cases hs : sk L j with
    | nil => rw [hs] at hgj; simp at hgj
    | cons t s =>
      rw [hs] at hgj es
      have := sk_lt (l := L) (k := j) (t := t) (by rw [hs]; simp)
      rw [es]
      simp only [List.map_cons, List.cons_append]
      rw [ha t (by omega)]
      exact hgj
theorem at_append {A B : List (Int × Int × Int)} {k : Nat} (h : k < A.length) : at_ (A ++ B) k = at_ A k := by
  unfold at_; rw [List.getD_eq_getElem?_getD, List.getD_eq_getElem?_getD, List.getElem?_append_left h]
theorem at_append2 {A B : List (Int × Int × Int)} (j : Nat) : at_ (A ++ B) (A.length + j) = at_ B j := by
  unfold at_; rw [List.getD_eq_getElem?_getD, List.getD_eq_getElem?_getD, List.getElem?_append_right (by omega)]; congr 2; omega
theorem at_take {A : List (Int × Int × Int)} {k c : Nat} (h : k < c) : at_ (A.take c) k = at_ A k := by
  unfold at_; rw [List.getD_eq_getElem?_getD, List.getD_eq_getElem?_getD, List.getElem?_take_of_lt h]
theorem unl_shift {Q L : List (Int × Int × Int)} {c m : Nat} (ha : ∀ j, j < m → at_ Q (c + j) = at_ L j) : ∀ {j : Nat}, j ≤ m → unl Q (c + j) = (unl Q c || unl L j)
  | 0, _ => by simp [unl]
  | j + 1, hj => by
    rw [show c + (j + 1) = (c + j) + 1 from rfl, unl_succ, unl_succ, unl_shift ha (j := j) (by omega), ha j (by omega), Bool.or_assoc]
theorem unl_congr {P A : List (Int × Int × Int)} : ∀ {k : Nat}, (∀ j, j < k → at_ P j = at_ A j) → unl P k = unl A k
  | 0, _ => rfl
  | k + 1, h => by rw [unl_succ, unl_succ, unl_congr (k := k) (fun j hj => h j (by omega)), h k (by omega)]
theorem any_shift {Q L : List (Int × Int × Int)} {c m : Nat} (ha : ∀ j, j < m → at_ Q (c + j) = at_ L j) {f : Int × Int × Int → Bool} {s : List Nat} (hs : ∀ t ∈ s, t < m) : ((s.map fun t => c + t).any fun t => f (at_ Q t)) = s.any fun t => f (at_ L t) := by
  rw [List.any_map]
  rw [Bool.eq_iff_iff, List.any_eq_true, List.any_eq_true]
  constructor
  · rintro ⟨t, h1, h2⟩; exact ⟨t, h1, by rw [← ha t (hs t h1)]; exact h2⟩
  · rintro ⟨t, h1, h2⟩; exact ⟨t, h1, by show f (at_ Q (c + t)) = true; rw [ha t (hs t h1)]; exact h2⟩
theorem any_congr {P A : List (Int × Int × Int)} {k : Nat} (h : ∀ j, j < k → at_ P j = at_ A j) {f : Int × Int × Int → Bool} {s : List Nat} (hs : ∀ t ∈ s, t < k) : (s.any fun t => f (at_ P t)) = s.any fun t => f (at_ A t) := by
  rw [Bool.eq_iff_iff, List.any_eq_true, List.any_eq_true]
  constructor
  · rintro ⟨t, h1, h2⟩; exact ⟨t, h1, by rw [← h t (hs t h1)]; exact h2⟩
  · rintro ⟨t, h1, h2⟩; exact ⟨t, h1, by rw [h t (hs t h1)]; exact h2⟩
theorem bd_congr {P A : List (Int × Int × Int)} {k : Nat} (h : ∀ j, j ≤ k → at_ P j = at_ A j) : bd P k = bd A k := by
  have h' : ∀ j, j < k → at_ P j = at_ A j := fun j hj => h j (by omega)
  have e := sk_congr h'
  have hs : ∀ t ∈ sk A k, t < k := fun t ht => sk_lt ht
  unfold bd
  rw [h k (Nat.le_refl _), e, unl_congr h']
  have e1 := any_congr h' (f := fun i => i.1 == 21) hs
  have e2 : ∀ a : Int, ((sk A k).any fun t => (at_ P t).1 == 23 && decide (a ≤ (at_ P t).2.1)) = (sk A k).any fun t => (at_ A t).1 == 23 && decide (a ≤ (at_ A t).2.1) := fun a => any_congr h' (f := fun i => i.1 == 23 && decide (a ≤ i.2.1)) hs
  have e3 : ∀ a : Int, ((sk A k).any fun t => (at_ P t).1 == 23 && (at_ P t).2.1 == a) = (sk A k).any fun t => (at_ A t).1 == 23 && (at_ A t).2.1 == a := fun a => any_congr h' (f := fun i => i.1 == 23 && i.2.1 == a) hs
  unfold inl ovr lkd
  rw [e1, e2, e3]
theorem wE_len {L : List (Int × Int × Int)} (h : wE L = 0) : 1 ≤ L.length ∧ L.length ≤ 200 := can_len (mE_zero (wE_zero h).1).1
/-- The last instruction of a whole row. -/
theorem wE_end {L : List (Int × Int × Int)} (h : wE L = 0) : (at_ L (L.length - 1)).1 = 25 := (ends_iff.1 (wE_zero h).2.1 (L.length - 1) (by have := wE_len h; omega)).2 (by have := wE_len h; omega)
theorem bd_end {L : List (Int × Int × Int)} {k : Nat} (h : (at_ L k).1 = 25) : bd L k = false := by unfold bd; rw [if_neg (by omega), if_neg (by omega)]
theorem lks_some {L : List (Int × Int × Int)} : (lks L L.length = [] ↔ ∀ j, (at_ L j).1 ≠ 23) := by
  constructor
  · intro h j hj
    have hl : j < L.length := by
      by_cases e : j < L.length
      · exact e
      · rw [at_len (by omega)] at hj; simp at hj
    have := (mem_lks (L := L) (b := (at_ L j).2.1) (Nat.le_refl _)).2 ⟨j, hl, hj, rfl⟩
    rw [h] at this; simp at this
  · intro h
    cases hl : lks L L.length with
    | nil => rfl
    | cons b r =>
      obtain ⟨j, _, h2, _⟩ := (mem_lks (L := L) (b := b) (Nat.le_refl _)).1 (by rw [hl]; simp)
      exact absurd h2 (h j)
/-- An Unlock stands behind a Lock. -/
theorem unl_lock {L : List (Int × Int × Int)} (hs : Sound L) {p : Nat} (h : (at_ L p).1 = 24) : ∃ t, t < p ∧ (at_ L t).1 = 23 := by
  obtain ⟨t, _, h2, _, _, h5⟩ := hs.cls (p := p) (by unfold cls; rw [h]; rfl)
  refine ⟨t, h2, ?_⟩
  unfold clo at h5
  rw [h] at h5
  simp at h5
  exact h5.1
theorem lock_unl {L : List (Int × Int × Int)} (hs : Sound L) {p : Nat} (h : (at_ L p).1 = 23) : ∃ d, p < d ∧ d < L.length ∧ (at_ L d).1 = 24 := by
  obtain ⟨d, _, h2, h3, h4, h5, _⟩ := hs.opn (p := p) (by unfold opn; rw [h]; rfl)
  refine ⟨d, h2, h3, ?_⟩
  obtain ⟨t, g1, _, _, _, g5⟩ := hs.cls h4
  rw [h5] at g1
  obtain rfl : p = t := by simpa using (List.cons.inj g1).1
  unfold clo at g5
  unfold cls at h4
  rw [h] at g5
  simp at g5
  exact g5.1
theorem lE_cases {L : List (Int × Int × Int)} (h : wE L = 0) (h2 : lE L ≠ 0) : ∃ p, p < L.length ∧ bd L p = true := by
  cases hb : bds L L.length
  · exact absurd (lE_of h hb) h2
  · exact bds_iff.1 hb

section
variable {A B : List (Int × Int × Int)}
/-- Two rows one behind the other, without the End of the first one. -/
def two (A B : List (Int × Int × Int)) : List (Int × Int × Int) := A.take (A.length - 1) ++ B
theorem two_len (hA : 1 ≤ A.length) : (two A B).length = A.length - 1 + B.length := by
  unfold two; rw [List.length_append, List.length_take]; omega
theorem two_fst (hA : 1 ≤ A.length) {k : Nat} (h : k < A.length - 1) : at_ (two A B) k = at_ A k := by
  unfold two
  rw [at_append (by rw [List.length_take]; omega), at_take h]
theorem two_snd (hA : 1 ≤ A.length) (j : Nat) : at_ (two A B) (A.length - 1 + j) = at_ B j := by
  have e : (A.take (A.length - 1)).length = A.length - 1 := by rw [List.length_take]; omega
  have := at_append2 (A := A.take (A.length - 1)) (B := B) j
  rw [e] at this; exact this
theorem two_sk1 (hA : 1 ≤ A.length) {k : Nat} (h : k ≤ A.length - 1) : sk (two A B) k = sk A k := sk_congr fun j hj => two_fst hA (by omega)
theorem two_c (hA : wE A = 0) : sk (two A B) (A.length - 1) = [] := by
  have hl := wE_len hA
  obtain ⟨h1, h2, _⟩ := wE_zero hA
  rw [two_sk1 hl.1 (Nat.le_refl _)]
  exact held_end (mE_zero h1).2 h2 hl.1
theorem two_sk2 (hA : wE A = 0) (hB : wE B = 0) {j : Nat} (hj : j ≤ B.length) : sk (two A B) (A.length - 1 + j) = (sk B j).map fun t => A.length - 1 + t := by
  have hl := wE_len hA
  have := sk_shift (Q := two A B) (L := B) (two_c hA) (m := B.length) (fun j _ => two_snd hl.1 j) (mE_zero (wE_zero hB).1).2.1 hj
  rw [List.append_nil] at this; exact this
theorem two_hm2 (hA : wE A = 0) (hB : wE B = 0) {i j : Nat} (hi : i ≤ B.length) (hj : j ≤ B.length) (h : hm B i = hm B j) : hm (two A B) (A.length - 1 + i) = hm (two A B) (A.length - 1 + j) := by
  unfold hm; rw [two_sk2 hA hB hi, two_sk2 hA hB hj, sk_hm h]
theorem two_hm1 (hA : 1 ≤ A.length) {k : Nat} (h : k ≤ A.length - 1) : hm (two A B) k = hm A k := by unfold hm; rw [two_sk1 hA h]
theorem two_whole (hA : wE A = 0) (hB : wE B = 0) (hn : A.length + B.length ≤ 190) : wE (two A B) = 0 := by
  have hl := wE_len hA
  have hlB := wE_len hB
  obtain ⟨hmA, heA, hjA⟩ := wE_zero hA
  obtain ⟨hmB, heB, hjB⟩ := wE_zero hB
  obtain ⟨hcA, hsA⟩ := mE_zero hmA
  obtain ⟨hcB, hsB⟩ := mE_zero hmB
  have hlen := two_len (B := B) hl.1
  have hcase : ∀ p, p < (two A B).length → p < A.length - 1 ∨ ∃ j, j < B.length ∧ p = A.length - 1 + j := by
    intro p hp
    by_cases e : p < A.length - 1
    · exact Or.inl e
    · exact Or.inr ⟨p - (A.length - 1), by omega, by omega⟩
  refine wE_of (mE_of ?_ ⟨?_, ?_⟩) ?_ ?_
  · refine can_iff.2 ⟨by omega, fun p hp => ?_⟩
    rcases hcase p hp with e | ⟨j, hj, rfl⟩
    · rw [two_fst hl.1 e]; exact can_right hcA (by omega)
    · rw [two_snd hl.1]; exact can_right hcB hj
  · intro p hp
    rcases hcase p hp with e | ⟨j, hj, rfl⟩
    · rw [gd_congr (A := A) (fun i hi => two_fst hl.1 (by omega))]; exact hsA.1 p (by omega)
    · exact gd_shift (two_c hA) (fun j _ => two_snd hl.1 j) hsB.1 hj
  · rw [hlen, two_sk2 hA hB (Nat.le_refl _), hsB.2]; rfl
  · refine ends_iff.2 fun p hp => ?_
    rcases hcase p hp with e | ⟨j, hj, rfl⟩
    · rw [two_fst hl.1 e]
      have := ends_iff.1 heA p (by omega)
      constructor
      · intro h; have := this.1 h; omega
      · intro h; omega
    · rw [two_snd hl.1]
      have := ends_iff.1 heB j hj
      constructor
      · intro h; have := this.1 h; omega
      · intro h; exact this.2 (by omega)
  · refine jmps_iff.2 fun p hp hj => ?_
    rcases hcase p hp with e | ⟨j, hj2, rfl⟩
    · rw [two_fst hl.1 e] at hj
      obtain ⟨h1, h2⟩ := jmps_iff.1 hjA p (by omega) hj
      have hled : led (two A B) p = led A p := by unfold led; rw [two_fst hl.1 e]
      rw [hled]
      refine ⟨by omega, ?_⟩
      rw [two_hm1 hl.1 (by omega), two_hm1 hl.1 (by omega)]; exact h2
    · rw [two_snd hl.1] at hj
      obtain ⟨h1, h2⟩ := jmps_iff.1 hjB j hj2 hj
      have hled : led (two A B) (A.length - 1 + j) = A.length - 1 + led B j := by unfold led; rw [two_snd hl.1]; omega
      rw [hled]
      exact ⟨by omega, two_hm2 hA hB (by omega) (by omega) h2⟩
theorem two_bd1 (hA : 1 ≤ A.length) {k : Nat} (h : k < A.length - 1) : bd (two A B) k = bd A k := bd_congr fun j hj => two_fst hA (by omega)
theorem two_bd2 (hA : wE A = 0) (hB : wE B = 0) {j : Nat} (hj : j < B.length) : bd (two A B) (A.length - 1 + j) = (bd B j || ((at_ B j).1 == 23 && unl A (A.length - 1))) := by
  have hl := wE_len hA
  have ha : ∀ i, i < B.length → at_ (two A B) (A.length - 1 + i) = at_ B i := fun i _ => two_snd hl.1 i
  have hs : ∀ t ∈ sk B j, t < B.length := fun t ht => by have := sk_lt ht; omega
  have eu : unl (two A B) (A.length - 1 + j) = (unl A (A.length - 1) || unl B j) := by
    rw [unl_shift ha (by omega), unl_congr (A := A) (fun i hi => two_fst hl.1 hi)]
  unfold bd
  rw [two_snd hl.1, two_sk2 hA hB (by omega), eu]
  have e1 := any_shift ha (f := fun i => i.1 == 21) hs
  have e2 : ∀ a : Int, (((sk B j).map fun t => A.length - 1 + t).any fun t => (at_ (two A B) t).1 == 23 && decide (a ≤ (at_ (two A B) t).2.1)) = (sk B j).any fun t => (at_ B t).1 == 23 && decide (a ≤ (at_ B t).2.1) := fun a => any_shift ha (f := fun i => i.1 == 23 && decide (a ≤ i.2.1)) hs
  have e3 : ∀ a : Int, (((sk B j).map fun t => A.length - 1 + t).any fun t => (at_ (two A B) t).1 == 23 && (at_ (two A B) t).2.1 == a) = (sk B j).any fun t => (at_ B t).1 == 23 && (at_ B t).2.1 == a := fun a => any_shift ha (f := fun i => i.1 == 23 && i.2.1 == a) hs
  unfold inl ovr lkd
  rw [e1, e2, e3]
  by_cases h : (at_ B j).1 = 23
  · rw [if_pos h, if_pos h, h]
    cases unl A (A.length - 1) <;> cases unl B j <;> simp
  · rw [if_neg h, if_neg h]
    have : ((at_ B j).1 == 23) = false := by simpa using h
    rw [this, Bool.false_and, Bool.or_false]
theorem two_bad (hA : wE A = 0) (hB : wE B = 0) (hn : A.length + B.length ≤ 190) (h : lE A ≠ 0 ∨ lE B ≠ 0) : lE (two A B) = 11 := by
  have hl := wE_len hA
  have hlen := two_len (B := B) hl.1
  refine lE_bad (two_whole hA hB hn) (bds_iff.2 ?_)
  rcases h with h | h
  · obtain ⟨p, hp, hb⟩ := lE_cases hA h
    have : p ≠ A.length - 1 := by
      intro e; rw [e, bd_end (wE_end hA)] at hb; cases hb
    exact ⟨p, by have := wE_len hB; omega, by rw [two_bd1 hl.1 (by omega)]; exact hb⟩
  · obtain ⟨p, hp, hb⟩ := lE_cases hB h
    exact ⟨A.length - 1 + p, by omega, by rw [two_bd2 hA hB hp, hb]; rfl⟩
theorem two_both (hA : wE A = 0) (hB : wE B = 0) (hn : A.length + B.length ≤ 190) (h1 : lks A A.length ≠ []) (h2 : lks B B.length ≠ []) : lE (two A B) = 11 := by
  have hl := wE_len hA
  have hlen := two_len (B := B) hl.1
  refine lE_bad (two_whole hA hB hn) (bds_iff.2 ?_)
  have hu : unl A (A.length - 1) = true := by
    obtain ⟨j, hj⟩ : ∃ j, (at_ A j).1 = 23 := by
      cases hc : lks A A.length with
      | nil => exact absurd hc h1
      | cons b r =>
        obtain ⟨j, _, h2, _⟩ := (mem_lks (L := A) (b := b) (Nat.le_refl _)).1 (by rw [hc]; simp)
        exact ⟨j, h2⟩
    obtain ⟨d, _, hd, h24⟩ := lock_unl (mE_zero (wE_zero hA).1).2 hj
    have : d ≠ A.length - 1 := by intro e; rw [e, wE_end hA] at h24; omega
    exact unl_iff.2 ⟨d, by omega, h24⟩
  obtain ⟨j, hj, h23⟩ : ∃ j, j < B.length ∧ (at_ B j).1 = 23 := by
    cases hc : lks B B.length with
    | nil => exact absurd hc h2
    | cons b r =>
      obtain ⟨j, h1, h2, _⟩ := (mem_lks (L := B) (b := b) (Nat.le_refl _)).1 (by rw [hc]; simp)
      exact ⟨j, h1, h2⟩
  exact ⟨A.length - 1 + j, by omega, by rw [two_bd2 hA hB hj, hu, h23]; simp⟩
theorem two_lks (hA : wE A = 0) : lks (two A B) (two A B).length = lks A A.length ++ lks B B.length := by
  have hl := wE_len hA
  have h25 := wE_end hA
  have e1 : lks A A.length = lks A (A.length - 1) := by
    have := lks_succ (l := A) (k := A.length - 1) (by omega)
    rw [if_neg (by omega)] at this
    rw [← this]; congr 1; omega
  rw [e1]
  unfold lks
  rw [List.take_length, List.take_length]
  unfold two
  rw [List.filter_append, List.map_append]
theorem two_ok (hA : wE A = 0) (hB : wE B = 0) (hn : A.length + B.length ≤ 190) (h1 : lE A = 0) (h2 : lE B = 0) (h : lks A A.length = [] ∨ lks B B.length = []) : lE (two A B) = 0 := by
  have hl := wE_len hA
  have hlen := two_len (B := B) hl.1
  refine lE_of (two_whole hA hB hn) ?_
  have hbA := (lE_zero h1).2
  have hbB := (lE_zero h2).2
  have nb : ∀ {L : List (Int × Int × Int)} {p : Nat}, bds L L.length = false → p < L.length → bd L p = false := by
    intro L p hb hp
    cases hv : bd L p
    · rfl
    · rw [bds_iff.2 ⟨p, hp, hv⟩] at hb; cases hb
  cases hv : bds (two A B) (two A B).length
  · rfl
  · obtain ⟨p, hp, hb⟩ := bds_iff.1 hv
    exfalso
    by_cases e : p < A.length - 1
    · rw [two_bd1 hl.1 e, nb hbA (by omega)] at hb; cases hb
    · obtain ⟨j, rfl⟩ : ∃ j, p = A.length - 1 + j := ⟨p - (A.length - 1), by omega⟩
      have hj : j < B.length := by omega
      rw [two_bd2 hA hB hj, nb hbB hj, Bool.false_or, Bool.and_eq_true, beq_iff_eq] at hb
      rcases h with h | h
      · obtain ⟨q, hq, h24⟩ := unl_iff.1 hb.2
        obtain ⟨t, _, ht⟩ := unl_lock (mE_zero (wE_zero hA).1).2 h24
        exact lks_some.1 h t ht
      · exact lks_some.1 h j hb.1
end
end Go.Proofs.YtacgnofmccennaaGreatDoor
