/- What is proved here: plain facts on the stacks of two rows one behind the other. Conditions: those each theorem states. -/
import Derived.Test.YthhcabddcgckcaaGreatDoorGh
import Derived.Test.YthhcabddcgckcaaGreatDoorNest4
namespace Go.Proofs.YthhcabddcgckcaaGreatDoor

section
variable {A B : List (Int × Int × Int)}
theorem two_whole2 (hA : wE A = 0) (hB : wE B = 0) (hn : A.length + B.length ≤ 200) : wE (two A B) = 0 := by
  have hl := wE_len hA
  have hlB := wE_len hB
  obtain ⟨hmA, heA, hjA⟩ := wE_zero hA
  obtain ⟨hmB, heB, hjB⟩ := wE_zero hB
  obtain ⟨hcA, hsA⟩ := mE_zero hmA
  obtain ⟨hcB, hsB⟩ := mE_zero hmB
  have hlen := two_len (B := B) hl.1
  have hcase : ∀ p, p < (two A B).length → p < A.length - 1 ∨ ∃ j, j < B.length ∧ p = A.length - 1 + j := by
    intro p hp
    by_cases e : p < A.length - 1
    · exact Or.inl e
    · exact Or.inr ⟨p - (A.length - 1), by omega, by omega⟩
  refine wE_of (mE_of ?_ ⟨?_, ?_⟩) ?_ ?_
  · refine can_iff.2 ⟨by omega, fun p hp => ?_⟩
    rcases hcase p hp with e | ⟨j, hj, rfl⟩
    · rw [two_fst hl.1 e]; exact can_right hcA (by omega)
    · rw [two_snd hl.1]; exact can_right hcB hj
  · intro p hp
    rcases hcase p hp with e | ⟨j, hj, rfl⟩
    · rw [gd_congr (A := A) (fun i hi => two_fst hl.1 (by omega))]; exact hsA.1 p (by omega)
    · exact gd_shift (two_c hA) (fun j _ => two_snd hl.1 j) hsB.1 hj
  · rw [hlen, two_sk2 hA hB (Nat.le_refl _), hsB.2]; rfl
  · refine ends_iff.2 fun p hp => ?_
    rcases hcase p hp with e | ⟨j, hj, rfl⟩
    · rw [two_fst hl.1 e]
      have := ends_iff.1 heA p (by omega)
      constructor
      · intro h; have := this.1 h; omega
      · intro h; omega
    · rw [two_snd hl.1]
      have := ends_iff.1 heB j hj
      constructor
      · intro h; have := this.1 h; omega
      · intro h; exact this.2 (by omega)
  · refine jmps_iff.2 fun p hp hj => ?_
    rcases hcase p hp with e | ⟨j, hj2, rfl⟩
    · rw [two_fst hl.1 e] at hj
      obtain ⟨h1, h2⟩ := jmps_iff.1 hjA p (by omega) hj
      have hled : led (two A B) p = led A p := by unfold led; rw [two_fst hl.1 e]
      rw [hled]
      refine ⟨by omega, ?_⟩
      rw [two_hm1 hl.1 (by omega), two_hm1 hl.1 (by omega)]; exact h2
    · rw [two_snd hl.1] at hj
      obtain ⟨h1, h2⟩ := jmps_iff.1 hjB j hj2 hj
      have hled : led (two A B) (A.length - 1 + j) = A.length - 1 + led B j := by unfold led; rw [two_snd hl.1]; omega
      rw [hled]
      exact ⟨by omega, two_hm2 hA hB (by omega) (by omega) h2⟩

theorem nx_congr {P A : List (Int × Int × Int)} {k : Nat} (h : at_ P k = at_ A k) : nx P k = nx A k := by
  unfold nx led; rw [h]
theorem sp_congr {P A : List (Int × Int × Int)} : ∀ {k : Nat}, (∀ j, j < k → at_ P j = at_ A j) → sp P k = sp A k
  | 0, _ => rfl
  | k + 1, h => by
    rw [sp, sp, sp_congr (k := k) (fun j hj => h j (by omega)), nx_congr (h k (by omega)), h k (by omega)]
/-- What nobody leads to has been handed nothing. -/
theorem sp_none {A : List (Int × Int × Int)} {j : Nat} : ∀ {k : Nat}, (∀ p, p < k → ∀ q, q ∈ nx A p → q < j) → 0 < j → sp A k j = ([], false, false)
  | 0, _, hj => by unfold sp hand; rw [if_neg (by omega)]
  | k + 1, h, hj => by
    rw [sp, hands_other (by intro h2; have := h k (by omega) j h2; omega)]
    exact sp_none (fun p hp => h p (by omega)) hj
theorem two_first (hA : tE A = 0) (he : sf A (A.length - 1) = []) : ∀ j, sp (two A B) (A.length - 1) (A.length - 1 + j) = sp B 0 j := by
  obtain ⟨hw, her⟩ := tE_zero hA
  have hl := wE_len hw
  have e0 : sp (two A B) (A.length - 1) = sp A (A.length - 1) := sp_congr fun j hj => two_fst hl.1 hj
  intro j
  rw [e0]
  by_cases hj : j = 0
  · subst hj
    have h1 := er_zero (her (A.length - 1) (by omega))
    have h2 : (sp A (A.length - 1) (A.length - 1)).1 = [] := he
    rw [Nat.add_zero]
    have e : sp A (A.length - 1) (A.length - 1) = ((sp A (A.length - 1) (A.length - 1)).1, (sp A (A.length - 1) (A.length - 1)).2.1, (sp A (A.length - 1) (A.length - 1)).2.2) := rfl
    rw [e, h2, h1.1, h1.2.1]; rfl
  · rw [sp_none (fun p hp q hq => by have := nx_lt hw (show p < A.length by omega) hq; omega) (by omega)]
    unfold sp hand; rw [if_neg hj]
theorem hands_shift {c : Nat} {s : List UInt8} : ∀ {l : List Nat} {f g : Nat → List UInt8 × Bool × Bool}, (∀ j, f (c + j) = g j) → ∀ j, hands f (l.map fun q => c + q) s (c + j) = hands g l s j
  | [], _, _, h, j => h j
  | q :: l, f, g, h, j => by
    show hands (hand f (c + q) s) (l.map fun q => c + q) s (c + j) = hands (hand g q s) l s j
    refine hands_shift (l := l) ?_ j
    intro j
    unfold hand
    by_cases e : j = q
    · subst e; rw [if_pos rfl, if_pos rfl, h]
    · rw [if_neg (by omega), if_neg e, h]
theorem nx_shift {Q B : List (Int × Int × Int)} {c j : Nat} (h : at_ Q (c + j) = at_ B j) : nx Q (c + j) = (nx B j).map fun q => c + q := by
  unfold nx led
  rw [h]
  split
  · rfl
  · split
    · simp; omega
    · split
      · simp; omega
      · simp; omega
theorem two_second (hA : tE A = 0) (he : sf A (A.length - 1) = []) : ∀ k j, sp (two A B) (A.length - 1 + k) (A.length - 1 + j) = sp B k j
  | 0, j => two_first hA he j
  | k + 1, j => by
    have hl := wE_len (tE_zero hA).1
    have ih := two_second hA he k
    show sp (two A B) (A.length - 1 + k + 1) (A.length - 1 + j) = _
    rw [sp, sp, nx_shift (two_snd hl.1 k), two_snd hl.1 k, ih k]
    exact hands_shift (fun j => ih j) j
theorem two_sf2 (hA : tE A = 0) (he : sf A (A.length - 1) = []) (j : Nat) : sf (two A B) (A.length - 1 + j) = sf B j := by
  unfold sf; rw [two_second hA he]
theorem two_sf1 (hA : 1 ≤ A.length) {j : Nat} (h : j ≤ A.length - 1) : sf (two A B) j = sf A j := by
  unfold sf; rw [sp_congr (A := A) fun i hi => two_fst hA (by omega)]
/-- A Next's Loop is the head of the open regions. -/
theorem mt_sk {l : List (Int × Int × Int)} {k : Nat} (hw : wE l = 0) (hk : k < l.length) (h : (at_ l k).1 = 22) : ∃ t s, sk l k = t :: s ∧ mt l l.length k = (t : Nat) ∧ t < k := by
  have hs := (mE_zero (wE_zero hw).1).2
  obtain ⟨t, h1, h2, h3, _⟩ := mt_cls hs.1 hk (show cls (at_ l k) = true by unfold cls; rw [h]; rfl)
  exact ⟨t, _, h1, h3, h2⟩
theorem er_same {l m : List (Int × Int × Int)} {k j : Nat} (h1 : sp l k k = sp m j j) (h2 : at_ l k = at_ m j) (h3 : (at_ l k).1 = 22 → (sf l k = sf l (mt l l.length k).toNat ↔ sf m j = sf m (mt m m.length j).toNat)) : er l k = er m j := by
  unfold er
  have h4 : sf l k = sf m j := by unfold sf; rw [h1]
  rw [h1, h4, h2]
  rw [h2, h4] at h3
  by_cases e : (at_ m j).1 = 22
  · have h5 := h3 e
    by_cases e2 : sf m j = sf m (mt m m.length j).toNat
    · have e3 := h5.2 e2
      rw [if_neg (show ¬ ((at_ m j).1 = 22 ∧ sf m j ≠ sf l (mt l l.length k).toNat) from fun h => h.2 e3), if_neg (show ¬ ((at_ m j).1 = 22 ∧ sf m j ≠ sf m (mt m m.length j).toNat) from fun h => h.2 e2)]
    · have e3 : ¬ sf m j = sf l (mt l l.length k).toNat := fun h => e2 (h5.1 h)
      rw [if_pos (show (at_ m j).1 = 22 ∧ sf m j ≠ sf l (mt l l.length k).toNat from ⟨e, e3⟩), if_pos (show (at_ m j).1 = 22 ∧ sf m j ≠ sf m (mt m m.length j).toNat from ⟨e, e2⟩)]
  · rw [if_neg (show ¬ ((at_ m j).1 = 22 ∧ sf m j ≠ sf l (mt l l.length k).toNat) from fun h => e h.1), if_neg (show ¬ ((at_ m j).1 = 22 ∧ sf m j ≠ sf m (mt m m.length j).toNat) from fun h => e h.1)]
theorem fe_all {l : List (Int × Int × Int)} : ∀ {m : Nat}, (∀ k, k < m → er l k = 0) → fe l m = 0
  | 0, _ => rfl
  | m + 1, h => by rw [fe_succ (fe_all fun k hk => h k (by omega))]; exact h m (by omega)
theorem two_err (hA : tE A = 0) (hB : tE B = 0) (he : sf A (A.length - 1) = []) (hn : A.length + B.length ≤ 200) : tE (two A B) = 0 := by
  obtain ⟨hwA, heA⟩ := tE_zero hA
  obtain ⟨hwB, heB⟩ := tE_zero hB
  have hw := two_whole2 hwA hwB hn
  have hl := wE_len hwA
  have hlen := two_len (B := B) hl.1
  unfold tE
  rw [if_pos hw]
  refine fe_all fun k hk => ?_
  by_cases e : k < A.length - 1
  · rw [er_same (m := A) (j := k) (by rw [sp_congr (A := A) fun i hi => two_fst hl.1 (by omega)]) (two_fst hl.1 e) ?_]
    · exact heA k (by omega)
    · intro h22
      obtain ⟨t, s, h1, h2, h3⟩ := mt_sk hw hk h22
      rw [two_fst hl.1 e] at h22
      obtain ⟨t', s', g1, g2, g3⟩ := mt_sk hwA (by omega) h22
      rw [two_sk1 hl.1 (by omega), g1] at h1
      cases h1
      rw [h2, g2, Int.toNat_natCast, two_sf1 hl.1 (by omega), two_sf1 hl.1 (by omega)]
  · obtain ⟨j, hj, rfl⟩ : ∃ j, j < B.length ∧ k = A.length - 1 + j := ⟨k - (A.length - 1), by omega, by omega⟩
    rw [er_same (m := B) (j := j) (two_second hA he j j) (two_snd hl.1 j) ?_]
    · exact heB j hj
    · intro h22
      obtain ⟨t, s, h1, h2, h3⟩ := mt_sk hw hk h22
      rw [two_snd hl.1] at h22
      obtain ⟨t', s', g1, g2, g3⟩ := mt_sk hwB hj h22
      rw [two_sk2 hwA hwB (by omega), g1] at h1
      simp only [List.map_cons, List.cons.injEq] at h1
      rw [h2, g2, Int.toNat_natCast, Int.toNat_natCast, ← h1.1, two_sf2 hA he, two_sf2 hA he]
theorem two_stacks (hA : tE A = 0) (he : sf A (A.length - 1) = []) : tL (two A B) = (tL A).take (A.length - 1) ++ tL B := by
  have hl := wE_len (tE_zero hA).1
  have hlen := two_len (B := B) hl.1
  have hlt : ((tL A).take (A.length - 1)).length = A.length - 1 := by rw [List.length_take, tL_len]; omega
  apply List.ext_getElem?
  intro i
  by_cases h1 : i < A.length - 1
  · rw [List.getElem?_append_left (by rw [hlt]; exact h1), List.getElem?_take_of_lt h1]
    unfold tL
    rw [List.getElem?_map, List.getElem?_map, List.getElem?_range (by omega), List.getElem?_range (by omega)]
    simp only [Option.map_some]
    rw [two_sf1 hl.1 (by omega)]
  · obtain ⟨j, rfl⟩ : ∃ j, i = A.length - 1 + j := ⟨i - (A.length - 1), by omega⟩
    rw [List.getElem?_append_right (by rw [hlt]; omega), hlt, show A.length - 1 + j - (A.length - 1) = j by omega]
    unfold tL
    rw [List.getElem?_map, List.getElem?_map]
    by_cases h2 : j < B.length
    · rw [List.getElem?_range (by omega), List.getElem?_range h2]
      simp only [Option.map_some]
      rw [two_sf2 hA he]
    · rw [List.getElem?_eq_none (by simp; omega), List.getElem?_eq_none (by simp; omega)]; rfl
end
end Go.Proofs.YthhcabddcgckcaaGreatDoor
