/- What is proved here: plain facts on going from sum to sum, from 0 on, until a number is its own sum, or too great. Conditions: of a greater number the sum is no less. -/
namespace Go.Proofs.Ytiibbeigkopkeaa

/-- From sum to sum: what is told, and what is wrong (4: a sum is too great; eT: too late). -/
def itr (f : Int → Option Int) (D J eT : Int) : Nat → Int → Int × Int
  | 0, _ => (0, eT)
  | k + 1, w => match f w with
    | none => (0, 4)
    | some n => if D < n ∨ D - n < J then (0, eT) else if n = w then (n + J, 0) else itr f D J eT k n
/-- Of a greater number the sum is no less; no sum is below 0. -/
structure Grows (f : Int → Option Int) : Prop where
  mono : ∀ a b, 0 ≤ a → a ≤ b → ∀ y, f b = some y → ∃ x, f a = some x ∧ x ≤ y
  pos : ∀ a x, 0 ≤ a → f a = some x → 0 ≤ x
/-- A number on the way: not above its sum. -/
def OnWay (f : Int → Option Int) (w : Int) : Prop := 0 ≤ w ∧ ∀ n, f w = some n → w ≤ n
theorem OnWay.zero {f : Int → Option Int} (g : Grows f) : OnWay f 0 := ⟨Int.le_refl _, fun n h => g.pos 0 n (Int.le_refl _) h⟩
theorem OnWay.next {f : Int → Option Int} (g : Grows f) {w n : Int} (h : OnWay f w) (hn : f w = some n) : OnWay f n :=
  ⟨Int.le_trans h.1 (h.2 n hn), fun m hm => by
    obtain ⟨x, hx, hxm⟩ := g.mono w n h.1 (h.2 n hn) m hm
    rw [hn] at hx
    cases hx
    exact hxm⟩
theorem itr_sound {f : Int → Option Int} {D J eT : Int} (heT : eT ≠ 0) (g : Grows f) : ∀ (k : Nat) (w v : Int), OnWay f w → itr f D J eT k w = (v, 0) → ∃ n, v = n + J ∧ f n = some n ∧ n ≤ D ∧ J ≤ D - n ∧ w ≤ n
  | 0, w, v, _, h => by unfold itr at h; cases h; exact absurd rfl heT
  | k + 1, w, v, ho, h => by
    unfold itr at h
    cases hf : f w with
    | none => rw [hf] at h; simp at h
    | some n =>
      rw [hf] at h
      simp only at h
      by_cases h1 : D < n ∨ D - n < J
      · rw [if_pos h1] at h; cases h; exact absurd rfl heT
      · rw [if_neg h1] at h
        by_cases h2 : n = w
        · rw [if_pos h2] at h
          cases h
          exact ⟨n, rfl, by rw [← h2] at hf; exact hf, by omega, by omega, by omega⟩
        · rw [if_neg h2] at h
          obtain ⟨q, e1, e2, e3, e4, e5⟩ := itr_sound heT g k n v (ho.next g hf) h
          have := ho.2 n hf
          exact ⟨q, e1, e2, e3, e4, by omega⟩
/-- A number that is not below its sum, and not too great, is never passed. -/
theorem itr_pre {f : Int → Option Int} {D J eT : Int} (g : Grows f) {x y : Int} (hx : f x = some y) (hyx : y ≤ x) (hD : x ≤ D) (hJ : J ≤ D - x) : ∀ (k : Nat) (w : Int), OnWay f w → w ≤ x → (x - w).toNat < k →
    ∃ n, itr f D J eT k w = (n + J, 0) ∧ n ≤ x
  | 0, w, _, _, h => absurd h (by omega)
  | k + 1, w, ho, hw, hk => by
    obtain ⟨n, hn, hny⟩ := g.mono w x ho.1 hw y hx
    have h1 := ho.2 n hn
    unfold itr
    rw [hn]
    simp only
    rw [if_neg (by omega)]
    by_cases h2 : n = w
    · rw [if_pos h2]; exact ⟨n, rfl, by omega⟩
    · rw [if_neg h2]; exact itr_pre g hx hyx hD hJ k n (ho.next g hn) (by omega) (by omega)
/-- What is told as an error is one of two. -/
theorem itr_err {f : Int → Option Int} {D J eT : Int} : ∀ (k : Nat) (w : Int), (itr f D J eT k w).2 = 0 ∨ itr f D J eT k w = (0, 4) ∨ itr f D J eT k w = (0, eT)
  | 0, _ => Or.inr (Or.inr rfl)
  | k + 1, w => by
    unfold itr
    cases hf : f w with
    | none => exact Or.inr (Or.inl rfl)
    | some n =>
      simp only
      split
      · exact Or.inr (Or.inr rfl)
      · split
        · exact Or.inl rfl
        · exact itr_err k n
/-- More rounds than are left make no difference. -/
theorem itr_more {f : Int → Option Int} {D J eT : Int} (g : Grows f) : ∀ (k j : Nat) (w : Int), OnWay f w → w ≤ D + 1 → (D + 1 - w).toNat < k → itr f D J eT (k + j) w = itr f D J eT k w
  | 0, _, _, _, _, h => absurd h (by omega)
  | k + 1, j, w, ho, hw, hk => by
    rw [show k + 1 + j = (k + j) + 1 by omega]
    unfold itr
    cases hf : f w with
    | none => rfl
    | some n =>
      simp only
      by_cases h1 : D < n ∨ D - n < J
      · rw [if_pos h1, if_pos h1]
      · rw [if_neg h1, if_neg h1]
        by_cases h2 : n = w
        · rw [if_pos h2, if_pos h2]
        · rw [if_neg h2, if_neg h2]
          have := ho.2 n hf
          exact itr_more g k j n (ho.next g hf) (by omega) (by omega)
/-- How long it takes. -/
def rsp (f : Int → Option Int) (D J eT : Int) : Int × Int := itr f D J eT (D.toNat + 2) 0
theorem rsp_sound {f : Int → Option Int} {D J eT v : Int} (heT : eT ≠ 0) (g : Grows f) (h : rsp f D J eT = (v, 0)) : ∃ n, v = n + J ∧ f n = some n ∧ n ≤ D ∧ J ≤ D - n ∧ 0 ≤ n :=
  itr_sound heT g _ 0 v (OnWay.zero g) h
theorem rsp_pre {f : Int → Option Int} {D J eT : Int} (g : Grows f) {x y : Int} (h0 : 0 ≤ x) (hx : f x = some y) (hyx : y ≤ x) (hD : x ≤ D) (hJ : J ≤ D - x) : ∃ n, rsp f D J eT = (n + J, 0) ∧ n ≤ x :=
  itr_pre g hx hyx hD hJ _ 0 (OnWay.zero g) h0 (by omega)
/-- The least number that is its own sum. -/
theorem rsp_least {f : Int → Option Int} {D J eT v : Int} (heT : eT ≠ 0) (g : Grows f) (h : rsp f D J eT = (v, 0)) {x : Int} (h0 : 0 ≤ x) (hx : f x = some x) : v - J ≤ x := by
  obtain ⟨n, e1, e2, e3, e4, e5⟩ := rsp_sound heT g h
  by_cases hxn : x ≤ D ∧ J ≤ D - x
  · obtain ⟨q, h1, h2⟩ := rsp_pre (eT := eT) g h0 hx (Int.le_refl _) hxn.1 hxn.2
    rw [h] at h1
    have : v = q + J := congrArg Prod.fst h1
    omega
  · omega
/-- Where there is none, each number that is its own sum is too great. -/
theorem rsp_none {f : Int → Option Int} {D J eT : Int} (g : Grows f) (h : (rsp f D J eT).2 ≠ 0) {x : Int} (h0 : 0 ≤ x) (hx : f x = some x) : D < x ∨ D - x < J := by
  by_cases hxn : x ≤ D ∧ J ≤ D - x
  · obtain ⟨q, h1, h2⟩ := rsp_pre (eT := eT) g h0 hx (Int.le_refl _) hxn.1 hxn.2
    rw [h1] at h; exact absurd rfl h
  · omega
/-- Of lesser sums the response is no longer; with a deadline that is no nearer, too. -/
theorem rsp_le {f h : Int → Option Int} {D D' J eT v : Int} (heT : eT ≠ 0) (g : Grows f) (g' : Grows h) (hfh : ∀ w, 0 ≤ w → ∀ y, h w = some y → ∃ x, f w = some x ∧ x ≤ y) (hD : D ≤ D') (e : rsp h D J eT = (v, 0)) :
    ∃ u, rsp f D' J eT = (u, 0) ∧ u ≤ v := by
  obtain ⟨n, e1, e2, e3, e4, e5⟩ := rsp_sound heT g' e
  obtain ⟨x, h1, h2⟩ := hfh n e5 n e2
  obtain ⟨q, k1, k2⟩ := rsp_pre (J := J) (eT := eT) g e5 h1 h2 (by omega : n ≤ D') (by omega)
  exact ⟨_, k1, by omega⟩
end Go.Proofs.Ytiibbeigkopkeaa
