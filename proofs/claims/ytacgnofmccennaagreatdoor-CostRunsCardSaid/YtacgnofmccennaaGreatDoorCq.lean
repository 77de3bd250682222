/- What is proved here: plain facts: the steps of first instructions, sections, straight rows. Conditions: those each theorem states. -/
import Derived.Test.YtacgnofmccennaaGreatDoorCs
namespace Go.Proofs.YtacgnofmccennaaGreatDoor

/-- Downward on places. -/
theorem down {n : Nat} {P : Nat → Prop} (h : ∀ p, p < n → (∀ q, p < q → P q) → P p) (h0 : ∀ p, n ≤ p → P p) : ∀ p, P p := by
  have : ∀ f p, n - p ≤ f → P p := by
    intro f
    induction f with
    | zero => intro p hp; exact h0 p (by omega)
    | succ f ih =>
      intro p hp
      by_cases e : n ≤ p
      · exact h0 p e
      · exact h p (by omega) (fun q hq => ih q (by omega))
  intro p; exact this (n - p) p (Nat.le_refl _)
theorem of_le (x y : Nat) : of_ false x y ≤ of_ true x y := by unfold of_; simp; omega
theorem of_mono {m : Bool} {x y x' y' : Nat} (h : x ≤ x') (h2 : y ≤ y') : of_ m x y ≤ of_ m x' y' := by unfold of_; cases m <;> simp <;> omega
theorem of_same (m : Bool) (x : Nat) : of_ m x x = x := by unfold of_; cases m <;> simp
theorem ub_le (L : List (Int × Int × Int)) : ∀ p, ub false L p ≤ ub true L p := by
  refine down (n := L.length) (fun p hp ih => ?_) (fun p hp => by rw [ub_over hp, ub_over hp]; omega)
  rw [ub_eq false hp, ub_eq true hp]
  have i1 := ih (p + 1) (by omega)
  have i2 := ih (nb L p) (nb_gt L p)
  have i3 := ih (led L p) (led_gt L p)
  unfold wv
  split
  · omega
  · split
    · have := Nat.mul_le_mul (Nat.le_refl (at_ L p).2.1.toNat) (Nat.succ_le_succ i1)
      simp only [Nat.succ_eq_add_one] at this
      omega
    · split
      · omega
      · split
        · omega
        · split
          · have h1 := of_mono (m := false) i1 i3
            have h2 := of_le (ub true L (p + 1)) (ub true L (led L p))
            omega
          · omega

/-- What has been handed a stack comes next to something ahead. -/
theorem sp_from {L : List (Int × Int × Int)} {j : Nat} : ∀ k, (sp L k j).2.1 = true → j = 0 ∨ ∃ r, r < k ∧ j ∈ nx L r
  | 0, h => by
    unfold sp hand at h
    by_cases e : j = 0
    · exact Or.inl e
    · rw [if_neg e] at h; simp at h
  | k + 1, h => by
    by_cases e : j ∈ nx L k
    · exact Or.inr ⟨k, by omega, e⟩
    · rw [sp, hands_other e] at h
      rcases sp_from k h with h | ⟨r, h1, h2⟩
      · exact Or.inl h
      · exact Or.inr ⟨r, by omega, h2⟩
theorem nx_cases {L : List (Int × Int × Int)} {r q : Nat} (h : q ∈ nx L r) : ((at_ L r).1 = 19 ∧ q = led L r) ∨ ((at_ L r).1 = 20 ∧ (q = r + 1 ∨ q = led L r)) ∨ ((at_ L r).1 ≠ 19 ∧ (at_ L r).1 ≠ 20 ∧ (at_ L r).1 ≠ 25 ∧ q = r + 1) := by
  unfold nx at h
  split at h
  · simp at h
  · split at h
    · rename_i h1; simp at h; exact Or.inl ⟨h1, h⟩
    · split at h
      · rename_i h1; simp at h; exact Or.inr (Or.inl ⟨h1, h⟩)
      · simp at h; exact Or.inr (Or.inr ⟨by assumption, by assumption, by assumption, h⟩)
/-- The first place of a region. -/
def fsp_ (L : List (Int × Int × Int)) (p : Nat) : Nat := (hm L p + 1).toNat
theorem hm_sk {L : List (Int × Int × Int)} {i j : Nat} (h : sk L i = sk L j) : hm L i = hm L j := by unfold hm; rw [h]
theorem sk_same {L : List (Int × Int × Int)} {p : Nat} (h : (at_ L p).1 ≠ 21 ∧ (at_ L p).1 ≠ 22 ∧ (at_ L p).1 ≠ 23 ∧ (at_ L p).1 ≠ 24) : sk L (p + 1) = sk L p :=
  sk_oth (by unfold opn; simp; omega) (by unfold cls; simp; omega)
theorem led_hm {L : List (Int × Int × Int)} (hw : wE L = 0) {p : Nat} (hp : p < L.length) (h : (at_ L p).1 = 19 ∨ (at_ L p).1 = 20) : led L p < L.length ∧ hm L (led L p) = hm L p :=
  jmps_iff.1 (wE_zero hw).2.2 p hp (by unfold jmp; simp; exact h)
/-- The steps of the first one of a region, at most, are no fewer than those of each one. -/
theorem ub_first {L : List (Int × Int × Int)} (hw : wE L = 0) (ht : tE L = 0) : ∀ q, q < L.length → ub true L q ≤ ub true L (fsp_ L q) := by
  intro q
  induction q using Nat.strongRecOn with
  | _ q ih =>
    intro hq
    have hs := (mE_zero (wE_zero hw).1).2
    have he := (er_zero ((tE_zero ht).2 q hq)).1
    rcases sp_from q he with rfl | ⟨r, hr, hn⟩
    · exact Nat.le_refl _
    have ihr := ih r hr (by omega)
    rcases nx_cases hn with ⟨h1, h2⟩ | ⟨h1, h2⟩ | ⟨h1, h2, h3, h4⟩
    · have := (led_hm hw (by omega : r < L.length) (Or.inl h1)).2
      rw [← h2] at this
      have e : fsp_ L q = fsp_ L r := by unfold fsp_; rw [this]
      rw [e, h2]
      rw [ub_jump true h1] at ihr
      omega
    · have hl := (led_hm hw (by omega : r < L.length) (Or.inr h1)).2
      have hsk : hm L (r + 1) = hm L r := hm_sk (sk_same (by omega))
      have e : fsp_ L q = fsp_ L r := by
        unfold fsp_
        rcases h2 with h2 | h2
        · rw [h2, hsk]
        · rw [h2, hl]
      rw [ub_branch true h1] at ihr
      rw [e]
      unfold of_ at ihr
      rw [if_pos rfl] at ihr
      rcases h2 with h2 | h2
      · rw [h2]; omega
      · rw [h2]; omega
    · subst h4
      cases ho : opn (at_ L r)
      · cases hc : cls (at_ L r)
        · have hsk : hm L (r + 1) = hm L r := hm_sk (sk_oth ho hc)
          have e : fsp_ L (r + 1) = fsp_ L r := by unfold fsp_; rw [hsk]
          have hno : (at_ L r).1 ≠ 21 ∧ (at_ L r).1 ≠ 23 ∧ (at_ L r).1 ≠ 22 ∧ (at_ L r).1 ≠ 24 := by
            unfold opn at ho; unfold cls at hc; simp at ho hc; omega
          rw [ub_else true (by omega) (by omega) hno.1 hno.2.1 h1 h2] at ihr
          rw [e]; omega
        · obtain ⟨t, g1, g2, g3, g4, g5⟩ := hs.cls hc
          have hsk : sk L (r + 1) = sk L t := by rw [sk_cls hc, g1]; rfl
          have e : fsp_ L (r + 1) = fsp_ L t := by unfold fsp_; rw [hm_sk hsk]
          have iht := ih t (by omega) (by omega)
          have hnb : nb L t = r + 1 := by unfold nb; rw [g4]; simp; omega
          have hot : (at_ L t).1 = 21 ∨ (at_ L t).1 = 23 := by
            have := sk_open (l := L) (k := r) (t := t) (by rw [g1]; simp)
            unfold opn at this; simp at this; exact this
          rw [e]
          rcases hot with hot | hot
          · rw [ub_loop true hot, hnb] at iht; omega
          · rw [ub_lock true hot, hnb] at iht; omega
      · have e : fsp_ L (r + 1) = r + 1 := by
          unfold fsp_
          rw [hm_cons (sk_opn' ho)]; omega
        rw [e]; exact Nat.le_refl _

theorem sec_succ (L : List (Int × Int × Int)) (k : Nat) : sec L (k + 1) = if (at_ L k).1 = 23 then sec L k ++ [((at_ L k).2.1, ((cut (ub true L (k + 1)) + 1 : Nat) : Int))] else sec L k := rfl
theorem sec_lks {L : List (Int × Int × Int)} : ∀ {k : Nat}, k ≤ L.length → (sec L k).length = (lks L k).length
  | 0, _ => by simp [sec, lks]
  | k + 1, h => by
    rw [sec_succ, lks_succ (by omega)]
    have := sec_lks (L := L) (k := k) (by omega)
    split <;> simp [this]
theorem getD_snoc {α : Type} (l : List α) (x d : α) (i : Nat) (h : i < l.length) : (l ++ [x]).getD i d = l.getD i d := by
  rw [List.getD_eq_getElem?_getD, List.getD_eq_getElem?_getD, List.getElem?_append_left h]
theorem getD_last {α : Type} (l : List α) (x d : α) : (l ++ [x]).getD l.length d = x := by
  rw [List.getD_eq_getElem?_getD, List.getElem?_append_right (Nat.le_refl _)]; simp
/-- The sections of the first k instructions: each is shorter than the one around it, and blocks rise. -/
structure Secs (L : List (Int × Int × Int)) (k : Nat) : Prop where
  one : ∀ i, i < (sec L k).length → 1 ≤ ((sec L k).getD i (0, 0)).2 ∧ ((sec L k).getD i (0, 0)).2 + 2 ≤ ((ub true L 0 + 1 : Nat) : Int)
  two : ∀ i, 0 < i → i < (sec L k).length → ((sec L k).getD i (0, 0)).2 + 2 ≤ ((sec L k).getD (i - 1) (0, 0)).2 ∧ ((sec L k).getD (i - 1) (0, 0)).1 < ((sec L k).getD i (0, 0)).1
  none : sec L k = [] → ∀ p, p < k → (at_ L p).1 ≠ 23
  last : sec L k ≠ [] → ∃ p, p < k ∧ (at_ L p).1 = 23 ∧ (sec L k).getD ((sec L k).length - 1) (0, 0) = ((at_ L p).2.1, ((ub true L (p + 1) + 1 : Nat) : Int)) ∧ ∀ q, p < q → q < k → (at_ L q).1 ≠ 23
theorem secs_all {L : List (Int × Int × Int)} (h : cE true L = 0) : ∀ k, k ≤ L.length → Secs L k
  | 0, _ => ⟨fun i hi => by simp [sec] at hi, fun i _ hi => by simp [sec] at hi, fun _ p hp => by omega, fun h => by simp [sec] at h⟩
  | k + 1, hk => by
    obtain ⟨hr, hW⟩ := cE_zero h
    obtain ⟨hl, ht⟩ := rE_zero hr
    obtain ⟨hw, hbs⟩ := lE_zero hl
    have hs := (mE_zero (wE_zero hw).1).2
    have ih := secs_all h k (by omega)
    by_cases e : (at_ L k).1 = 23
    · have hbd : bd L k = false := by
        cases hv : bd L k
        · rfl
        · have := bds_iff.2 ⟨k, hk, hv⟩
          rw [this] at hbs; cases hbs
      rw [show bd L k = (unl L k || (ovr L (sk L k) (at_ L k).2.1 || inl L (sk L k))) from by unfold bd; rw [if_pos e], Bool.or_eq_false_iff, Bool.or_eq_false_iff] at hbd
      obtain ⟨b1, b2, b3⟩ := hbd
      have hlock : ∀ t, t ∈ sk L k → (at_ L t).1 = 23 := by
        intro t htm
        have h1 := sk_open htm
        unfold inl at b3
        rw [List.any_eq_false] at b3
        have h2 := b3 t htm
        unfold opn at h1; simp at h1 h2; omega
      have hub := ub_first hw ht k (by omega)
      rw [ub_lock true e] at hub
      have hub0 : ∀ t, t < L.length → hm L t = -1 → ub true L t ≤ ub true L 0 := fun t h1 h2 => by
        have := ub_first hw ht t h1
        unfold fsp_ at this; rw [h2] at this; exact this
      have hS : sec L (k + 1) = sec L k ++ [((at_ L k).2.1, ((cut (ub true L (k + 1)) + 1 : Nat) : Int))] := by rw [sec_succ, if_pos e]
      by_cases hne : sec L k = []
      · have hno := ih.none hne
        have hnil : sk L k = [] := by
          cases hc : sk L k with
          | nil => rfl
          | cons t s =>
            have htm : t ∈ sk L k := by rw [hc]; simp
            exact absurd (hlock t htm) (hno t (sk_lt htm))
        have hf : fsp_ L k = 0 := by unfold fsp_; rw [hm_nil hnil]; rfl
        rw [hf] at hub
        have hcut : cut (ub true L (k + 1)) = ub true L (k + 1) := by unfold cut cap; omega
        rw [hne, hcut] at hS
        have hlen : (sec L (k + 1)).length = 1 := by rw [hS]; rfl
        refine ⟨fun i hi => ?_, fun i h0 hi => by omega, fun h => by rw [hS] at h; simp at h, fun _ => ⟨k, by omega, e, ?_, fun q h1 h2 => by omega⟩⟩
        · obtain rfl : i = 0 := by omega
          rw [hS]
          show 1 ≤ ((ub true L (k + 1) + 1 : Nat) : Int) ∧ ((ub true L (k + 1) + 1 : Nat) : Int) + 2 ≤ _
          omega
        · rw [hS]; rfl
      · obtain ⟨p, p1, p2, p3, p4⟩ := ih.last hne
        have hpm : p ∈ sk L k := locks_open (k := k) (fun i (hi : i < k) => hs.1 i (by omega)) b1 p p1 p2
        have hhm : hm L k = p := by
          cases hc : sk L k with
          | nil => rw [hc] at hpm; simp at hpm
          | cons t s =>
            have htm : t ∈ sk L k := by rw [hc]; simp
            have h1 := hm_max hpm
            rw [hm_cons hc] at h1 ⊢
            have h2 := sk_lt htm
            by_cases h3 : p < t
            · exact absurd (hlock t htm) (p4 t h3 h2)
            · omega
        have hf : fsp_ L k = p + 1 := by unfold fsp_; rw [hhm]; omega
        rw [hf] at hub
        have hlt : 0 < (sec L k).length := by
          cases hc : sec L k with
          | nil => exact absurd hc hne
          | cons x l => simp
        have hone := ih.one ((sec L k).length - 1) (by omega)
        rw [p3] at hone
        simp only at hone
        have hcut : cut (ub true L (k + 1)) = ub true L (k + 1) := by unfold cut cap; omega
        rw [hcut] at hS
        have hlen : (sec L (k + 1)).length = (sec L k).length + 1 := by rw [hS]; simp
        have hat : ∀ i, i < (sec L k).length → (sec L (k + 1)).getD i (0, 0) = (sec L k).getD i (0, 0) := fun i hi => by rw [hS, getD_snoc _ _ _ _ hi]
        have hlast : (sec L (k + 1)).getD (sec L k).length (0, 0) = ((at_ L k).2.1, ((ub true L (k + 1) + 1 : Nat) : Int)) := by rw [hS, getD_last]
        have hblk : (at_ L p).2.1 < (at_ L k).2.1 := by
          unfold ovr at b2
          rw [List.any_eq_false] at b2
          have := b2 p hpm
          simp [p2] at this
          omega
        refine ⟨fun i hi => ?_, fun i h0 hi => ?_, fun h => by rw [hS] at h; simp at h, fun _ => ⟨k, by omega, e, by rw [hlen, Nat.add_sub_cancel, hlast], fun q h1 h2 => by omega⟩⟩
        · by_cases e2 : i < (sec L k).length
          · rw [hat i e2]; exact ih.one i e2
          · obtain rfl : i = (sec L k).length := by omega
            rw [hlast]
            show 1 ≤ ((ub true L (k + 1) + 1 : Nat) : Int) ∧ ((ub true L (k + 1) + 1 : Nat) : Int) + 2 ≤ _
            omega
        · by_cases e2 : i < (sec L k).length
          · rw [hat i e2, hat (i - 1) (by omega)]; exact ih.two i h0 e2
          · obtain rfl : i = (sec L k).length := by omega
            rw [hlast, hat _ (by omega), p3]
            show ((ub true L (k + 1) + 1 : Nat) : Int) + 2 ≤ ((ub true L (p + 1) + 1 : Nat) : Int) ∧ (at_ L p).2.1 < (at_ L k).2.1
            refine ⟨by omega, hblk⟩
    · have hS : sec L (k + 1) = sec L k := by rw [sec_succ, if_neg e]
      refine ⟨by rw [hS]; exact ih.one, by rw [hS]; exact ih.two, fun h p hp => ?_, fun h => ?_⟩
      · rw [hS] at h
        by_cases e2 : p = k
        · rw [e2]; exact e
        · exact ih.none h p (by omega)
      · rw [hS] at h ⊢
        obtain ⟨p, p1, p2, p3, p4⟩ := ih.last h
        refine ⟨p, by omega, p2, p3, fun q h1 h2 => ?_⟩
        by_cases e2 : q = k
        · rw [e2]; exact e
        · exact p4 q h1 (by omega)

theorem strt_at {L : List (Int × Int × Int)} (h : strt L = true) (p : Nat) : lv (at_ L p) = false := by
  unfold strt at h
  have h2 : L.any lv = false := by simpa using h
  by_cases e : p < L.length
  · rw [List.any_eq_false] at h2
    have : at_ L p = L[p] := by unfold at_; rw [List.getD_eq_getElem?_getD, List.getElem?_eq_getElem e]; rfl
    rw [this]
    simpa using h2 _ (List.getElem_mem e)
  · rw [at_len (by omega)]; rfl
theorem strt_led {L : List (Int × Int × Int)} (h : strt L = true) {p : Nat} (ho : (at_ L p).1 = 19 ∨ (at_ L p).1 = 20) : led L p = p + 1 := by
  have := strt_at h p
  unfold lv at this
  unfold led
  rcases ho with ho | ho <;> rw [ho] at this <;> simp at this <;> omega
/-- Of a straight row both are the same. -/
theorem ub_strt {L : List (Int × Int × Int)} (h : strt L = true) : ∀ p, ub false L p = ub true L p := by
  refine down (n := L.length) (fun p hp ih => ?_) (fun p hp => by rw [ub_over hp, ub_over hp])
  rw [ub_eq false hp, ub_eq true hp]
  have i1 := ih (p + 1) (by omega)
  have i2 := ih (nb L p) (nb_gt L p)
  have i3 := ih (led L p) (led_gt L p)
  unfold wv
  rw [i1, i2, i3]
  split
  · rfl
  · split
    · rfl
    · split
      · rfl
      · split
        · rfl
        · split
          · rename_i h20
            rw [strt_led h (Or.inr h20), of_same, of_same]
          · rfl
end Go.Proofs.YtacgnofmccennaaGreatDoor
