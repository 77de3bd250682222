/- What is proved here: the walk of the law NatMost. Condition: a slice is no longer than Go's. -/
import Derived.Test.YtpgmakhojehalaaW1
namespace Go.Proofs.Ytpgmakhojehalaa
open Go.ChangeShapes Go.WideShapes Go.RowKit

theorem bst_mem (p : Int → Int → Bool) (l : List Int) : ∀ k, 0 < k → k ≤ l.length → ∃ i, i < k ∧ bst p l k = l.getD i 0 := by
  intro k
  induction k with
  | zero => intro h; omega
  | succ k ih =>
    intro _ hk
    by_cases h : k = 0 ∨ p (l.getD k 0) (bst p l k) = true
    · exact ⟨k, by omega, bst_take h⟩
    · have h0 : k ≠ 0 := fun e => h (Or.inl e)
      have h1 : p (l.getD k 0) (bst p l k) = false := by cases e : p (l.getD k 0) (bst p l k) <;> simp_all
      obtain ⟨i, hi, e⟩ := ih (by omega) (by omega)
      exact ⟨i, by omega, by rw [bst_keep h0 h1, e]⟩
theorem bst_max (l : List Int) : ∀ k i, i < k → l.getD i 0 ≤ bst (fun a b => decide (b < a)) l k := by
  intro k
  induction k with
  | zero => intro i h; omega
  | succ k ih =>
    intro i hi
    by_cases h : k = 0 ∨ decide (bst (fun a b => decide (b < a)) l k < l.getD k 0) = true
    · rw [bst_take h]
      by_cases e : i = k
      · rw [e]; omega
      · rcases h with h | h
        · omega
        · have := ih i (by omega); rw [decide_eq_true_iff] at h; omega
    · have h0 : k ≠ 0 := fun e => h (Or.inl e)
      have h1 : decide (bst (fun a b => decide (b < a)) l k < l.getD k 0) = false := by rw [decide_eq_false_iff_not]; exact fun e => h (Or.inr (decide_eq_true e))
      rw [bst_keep h0 h1]
      by_cases e : i = k
      · rw [e]; rw [decide_eq_false_iff_not] at h1; omega
      · exact ih i (by omega)
theorem bst_min (l : List Int) : ∀ k i, i < k → bst (fun a b => decide (a < b)) l k ≤ l.getD i 0 := by
  intro k
  induction k with
  | zero => intro i h; omega
  | succ k ih =>
    intro i hi
    by_cases h : k = 0 ∨ decide (l.getD k 0 < bst (fun a b => decide (a < b)) l k) = true
    · rw [bst_take h]
      by_cases e : i = k
      · rw [e]; omega
      · rcases h with h | h
        · omega
        · have := ih i (by omega); rw [decide_eq_true_iff] at h; omega
    · have h0 : k ≠ 0 := fun e => h (Or.inl e)
      have h1 : decide (l.getD k 0 < bst (fun a b => decide (a < b)) l k) = false := by rw [decide_eq_false_iff_not]; exact fun e => h (Or.inr (decide_eq_true e))
      rw [bst_keep h0 h1]
      by_cases e : i = k
      · rw [e]; rw [decide_eq_false_iff_not] at h1; omega
      · exact ih i (by omega)
theorem tail_at (l : List Int) (i : Nat) : l.tail.getD i 0 = l.getD (i + 1) 0 := by cases l <;> simp
theorem mo_tail {l : List Int} (h : 2 ≤ l.length) : mo l.tail ≤ mo l := by
  obtain ⟨i, hi, e⟩ := bst_mem (fun a b => decide (b < a)) l.tail l.tail.length (by simp; omega) (Nat.le_refl _)
  unfold mo
  rw [e, tail_at]
  rw [List.length_tail] at hi
  exact bst_max l _ _ (by omega)
theorem lea_tail {l : List Int} (h : 2 ≤ l.length) : lea l ≤ lea l.tail := by
  obtain ⟨i, hi, e⟩ := bst_mem (fun a b => decide (a < b)) l.tail l.tail.length (by simp; omega) (Nat.le_refl _)
  unfold lea
  rw [e, tail_at]
  rw [List.length_tail] at hi
  exact bst_min l _ _ (by omega)
theorem Row.tail {w : World} {b off n : Nat} {l : List Int} (h : Row w (some ⟨b, off, none⟩) n l) (hn : 2 ≤ n) : Row w (some ⟨b, off + 1, none⟩) (n - 1) l.tail := by
  have hl := h.1
  refine ⟨by rw [List.length_tail]; omega, fun h0 => ?_⟩
  obtain ⟨b', off', e', hlt, hc⟩ := h.2 (by omega)
  simp only [Option.some.injEq, Addr.mk.injEq] at e'
  obtain ⟨rfl, rfl, _⟩ := e'
  refine ⟨b, off + 1, rfl, hlt, fun i hi => ?_⟩
  rw [tail_at]
  have := hc (i + 1) (by omega)
  rw [show off + 1 + i = off + (i + 1) by omega]; exact this
set_option maxHeartbeats 4000000 in
set_option maxRecDepth 100000 in
theorem most_walk (a : Option Addr) (n c : Nat) (l : List Int) (hcap : n ≤ c) (hmx : n ≤ maxLen) (w : World) (hr : Row w a n l) :
    Calls Try.prog 6 #[.slice a n c] w fun e w' => e = .returned (.bool true) ∧ Below w.heap.size w w' := by
  have hm63 : n ≤ 9223372036854775807 := hmx
  have G := Below.refl w.heap.size w
  have KK := Lib.hid (fun W => known_any W)
  have O0 := Lib.hid (fun W => most_at (c := 0) (show mo [] = 0 by decide +kernel) (by omega) W (Row.nil W none))
  have L0 := Lib.hid (fun W => least_at (c := 0) (show lea [] = 0 by decide +kernel) (by omega) W (Row.nil W none))
  by_cases h0 : n = 0
  · subst h0
    go_enter Try.func6, Try.ntmps6
    go_wp2_with fail
    refine (O0.out _).mono ?_; rintro e v1 ⟨rfl, hb⟩
    replace G := keep_below G hb; clear hb
    go_wp2_with fail
    refine (L0.out _).mono ?_; rintro e v2 ⟨rfl, hb⟩
    replace G := keep_below G hb; clear hb
    go_wp2_with fail
    refine (KK.out _).mono ?_; rintro e v3 ⟨rfl, hb⟩
    replace G := keep_below G hb; clear hb
    go_wp2
    go_ret
    exact ⟨rfl, G⟩
  by_cases h100 : 100 < n
  · have h1 : (100 : Int) < (n : Int) := by omega
    have h2 : ¬ ((n : Int) = 0) := by omega
    go_enter Try.func6, Try.ntmps6
    go_wp2_with fail
    refine (O0.out _).mono ?_; rintro e v1 ⟨rfl, hb⟩
    replace G := keep_below G hb; clear hb
    go_wp2_with fail
    refine (L0.out _).mono ?_; rintro e v2 ⟨rfl, hb⟩
    replace G := keep_below G hb; clear hb
    go_wp2_with fail
    refine (KK.out _).mono ?_; rintro e v3 ⟨rfl, hb⟩
    replace G := keep_below G hb; clear hb
    go_wp2
    go_ret
    exact ⟨rfl, G⟩
  have h1 : ¬ (100 : Int) < (n : Int) := by omega
  have h2 : ¬ ((n : Int) = 0) := by omega
  have HL := Lib.hid hr.1
  obtain ⟨m, hm⟩ : ∃ k, k = mo l := ⟨_, rfl⟩
  obtain ⟨t, ht⟩ : ∃ k, k = lea l := ⟨_, rfl⟩
  have C1 := Lib.hid (most_at (a := a) (n := n) (c := c) hm.symm (by omega))
  have C2 := Lib.hid (least_at (a := a) (n := n) (c := c) ht.symm (by omega))
  have HM1 : Hid (∀ i, i < n → l.getD i 0 ≤ m) := fun i hi => by rw [hm]; exact bst_max l _ i (by rw [← HL.out]; exact hi)
  have HM2 : Hid (∃ i, i < n ∧ l.getD i 0 = m) := by
    obtain ⟨i, hi, e⟩ := bst_mem (fun a b => decide (b < a)) l l.length (by rw [← HL.out]; omega) (Nat.le_refl _)
    exact ⟨i, by rw [HL.out]; exact hi, by rw [hm, ← e]; rfl⟩
  have HT1 : Hid (∀ i, i < n → t ≤ l.getD i 0) := fun i hi => by rw [ht]; exact bst_min l _ i (by rw [← HL.out]; exact hi)
  have HT2 : Hid (∃ i, i < n ∧ l.getD i 0 = t) := by
    obtain ⟨i, hi, e⟩ := bst_mem (fun a b => decide (a < b)) l l.length (by rw [← HL.out]; omega) (Nat.le_refl _)
    exact ⟨i, by rw [HL.out]; exact hi, by rw [ht, ← e]; rfl⟩
  have HM3 : Hid (2 ≤ n → mo l.tail ≤ m) := fun h => by rw [hm]; exact mo_tail (by rw [← HL.out]; exact h)
  have HT3 : Hid (2 ≤ n → t ≤ lea l.tail) := fun h => by rw [ht]; exact lea_tail (by rw [← HL.out]; exact h)
  have HR := Lib.hid hr
  clear hm ht hr hmx
  go_enter Try.func6, Try.ntmps6
  go_wp2_with fail
  refine (C1.out _ (HR.out.below G)).mono ?_; rintro e v1 ⟨rfl, hb⟩
  replace G := keep_below G hb; clear hb
  go_wp2_with fail
  refine (C2.out _ (HR.out.below G)).mono ?_; rintro e v2 ⟨rfl, hb⟩
  replace G := keep_below G hb; clear hb
  go_wp2
  go_loopw [5, 6, 7] (fun x y i wr => ∃ k : Nat, ∃ B1 B2 : Bool, k ≤ n ∧ i = .int .i64 k ∧ x = .bool B1 ∧ y = .bool B2 ∧ Hid (B1 = true ↔ ∃ j, j < k ∧ l.getD j 0 = m) ∧ Hid (B2 = true ↔ ∃ j, j < k ∧ l.getD j 0 = t) ∧ Below w.heap.size w wr) (fun _ _ i _ => n - (intOf i).toNat)
  case atStart => exact ⟨0, false, false, by omega, rfl, rfl, rfl, ⟨fun h => (by cases h), fun ⟨j, h, _⟩ => absurd h (by omega)⟩, ⟨fun h => (by cases h), fun ⟨j, h, _⟩ => absurd h (by omega)⟩, G⟩
  case round =>
    obtain ⟨k, B1, B2, hk, rfl, rfl, rfl, H1, H2, hbl⟩ := hrel
    clear G
    by_cases hlt : k < n
    · obtain ⟨b1, o1, x, rfl, hB1, hx, hc1⟩ := (HR.out.below hbl).at_ hlt
      have hx1 : ¬ (m < x) := by have := HM1.out k hlt; omega
      have hx2 : ¬ (x < t) := by have := HT1.out k hlt; omega
      have K1 : Hid (∀ b : Bool, b = (B1 || (x == m)) → (b = true ↔ ∃ j, j < k + 1 ∧ l.getD j 0 = m)) := by
        rintro b rfl
        rw [Bool.or_eq_true, H1.out, beq_iff_eq]
        constructor
        · rintro (⟨j, h1, h2⟩ | h)
          · exact ⟨j, by omega, h2⟩
          · exact ⟨k, by omega, by rw [hx, h]⟩
        · rintro ⟨j, h1, h2⟩
          by_cases e : j = k
          · subst e; exact Or.inr (by rw [← hx, h2])
          · exact Or.inl ⟨j, by omega, h2⟩
      have K2 : Hid (∀ b : Bool, b = (B2 || (x == t)) → (b = true ↔ ∃ j, j < k + 1 ∧ l.getD j 0 = t)) := by
        rintro b rfl
        rw [Bool.or_eq_true, H2.out, beq_iff_eq]
        constructor
        · rintro (⟨j, h1, h2⟩ | h)
          · exact ⟨j, by omega, h2⟩
          · exact ⟨k, by omega, by rw [hx, h]⟩
        · rintro ⟨j, h1, h2⟩
          by_cases e : j = k
          · subst e; exact Or.inr (by rw [← hx, h2])
          · exact Or.inl ⟨j, by omega, h2⟩
      clear hx H1 H2
      cases B1 <;> cases B2 <;> cases hxm : (x == m) <;> cases hxt : (x == t) <;> rw [hxm] at K1 <;> rw [hxt] at K2
      all_goals
        go_wp2
        go_roundw
        case rel => exact ⟨k + 1, _, _, by omega, by go_num, rfl, rfl, K1.out _ rfl, K2.out _ rfl, hbl⟩
        case measure => simp [intOf]; omega
    · have hkn : k = n := by omega
      subst hkn
      have hB1 := H1.out.2 HM2.out
      have hB2 := H2.out.2 HT2.out
      subst hB1 hB2
      clear H1 H2
      by_cases hn1 : k = 1
      · subst hn1
        go_wp2_with fail
        refine (KK.out _).mono ?_; rintro e v3 ⟨rfl, hb⟩
        replace hbl := keep_below hbl hb; clear hb
        go_wp2
        go_ret
        exact ⟨rfl, hbl⟩
      · obtain ⟨b1, o1, x, rfl, hB1, hx, hc1⟩ := HR.out.at_ (show 0 < k by omega)
        have hn1' : ¬ ((k : Int) = 1) := by omega
        have hc2 : ¬ (c = 1) := by omega
        have hc3 : ¬ (c - 1 = 0) := by omega
        obtain ⟨p, hp⟩ : ∃ p, p = mo l.tail := ⟨_, rfl⟩
        obtain ⟨q, hq⟩ : ∃ p, p = lea l.tail := ⟨_, rfl⟩
        have e1 : p ≤ m := by rw [hp]; exact HM3.out (by omega)
        have e2 : t ≤ q := by rw [hq]; exact HT3.out (by omega)
        have C3 := Lib.hid (most_at (a := some ⟨b1, o1 + 1, none⟩) (n := k - 1) (c := c - 1) hp.symm (by omega))
        have C4 := Lib.hid (least_at (a := some ⟨b1, o1 + 1, none⟩) (n := k - 1) (c := c - 1) hq.symm (by omega))
        have HR2 := Lib.hid (fun W (h : Below w.heap.size w W) => (HR.out.below h).tail (by omega))
        clear hp hq hx hc1
        go_wp2_with fail
        refine (C3.out _ (HR2.out _ hbl)).mono ?_; rintro e v3 ⟨rfl, hb⟩
        replace hbl := keep_below hbl hb; clear hb
        go_wp2_with fail
        refine (C4.out _ (HR2.out _ hbl)).mono ?_; rintro e v4 ⟨rfl, hb⟩
        replace hbl := keep_below hbl hb; clear hb
        go_wp2_with fail
        refine (KK.out _).mono ?_; rintro e v5 ⟨rfl, hb⟩
        replace hbl := keep_below hbl hb; clear hb
        go_wp2
        go_ret
        exact ⟨rfl, hbl⟩
end Go.Proofs.Ytpgmakhojehalaa
