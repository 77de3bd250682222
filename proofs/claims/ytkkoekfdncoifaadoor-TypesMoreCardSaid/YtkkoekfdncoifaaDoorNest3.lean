/- What is proved here: plain facts on matches, homes and locks of rows whose regions stand in one another: regions that meet stand in one another, homes lead out, blocks that are locked rise. Conditions: those each theorem states. -/
import Derived.Test.YtkkoekfdncoifaaDoorNest2
namespace Go.Proofs.YtkkoekfdncoifaaDoor

theorem Sound.nest {L : List (Int × Int × Int)} (h : Sound L) {i k : Nat} (hi : Go.Proofs.YtkkoekfdncoifaaDoor.opn (at_ L i) = true) (hk : k < i) : ¬ ((i : Int) < mt L L.length k ∧ mt L L.length k < mt L L.length i) := by
  rintro ⟨h1, h2⟩
  obtain ⟨c, e1, e2, e3, _⟩ := h.opn hi
  have hin := opn_len hi
  have hki : k ∈ sk L i := (h.within (by omega)).2 ⟨hk, by omega⟩
  obtain ⟨d, f1, f2, f3, _⟩ := h.opn (sk_open hki)
  have hid : i ∈ sk L (d + 1) := (h.within (by omega)).2 ⟨by omega, by omega⟩
  have := (h.within (i := d + 1) (by omega)).1 (sk_trans hid hki)
  omega
theorem Sound.jump {L : List (Int × Int × Int)} (h : Sound L) {i to k : Nat} (hi : i ≤ L.length) (ht : to ≤ L.length) (he : hm L to = hm L i) :
    (decide (k < i) && decide ((i : Int) ≤ mt L L.length k)) = (decide (k < to) && decide ((to : Int) ≤ mt L L.length k)) := by
  rw [Bool.eq_iff_iff, Bool.and_eq_true, Bool.and_eq_true, decide_eq_true_iff, decide_eq_true_iff, decide_eq_true_iff, decide_eq_true_iff, ← h.within hi, ← h.within ht, sk_hm he]
theorem Sound.home {L : List (Int × Int × Int)} (h : Sound L) {i t : Nat} (hi : i ≤ L.length) (he : hm L i = t) : (i : Int) ≤ mt L L.length t := by
  cases hs : sk L i with
  | nil => rw [hm_nil hs] at he; omega
  | cons u s =>
    rw [hm_cons hs] at he
    obtain rfl : u = t := by omega
    exact ((h.within hi).1 (by rw [hs]; simp)).2
theorem Sound.last {L : List (Int × Int × Int)} (h : Sound L) {i k : Nat} (hi : i ≤ L.length) (hk : k < i) (he : (i : Int) ≤ mt L L.length k) : (k : Int) ≤ hm L i :=
  hm_max ((h.within hi).2 ⟨hk, he⟩)

/-- With no Unlock ahead all locks ahead are open. -/
theorem locks_open {L : List (Int × Int × Int)} : ∀ {k : Nat}, Good L k → unl L k = false → ∀ j, j < k → (at_ L j).1 = 23 → j ∈ sk L k
  | 0, _, _, j, hj, _ => by omega
  | k + 1, hg, hu, j, hj, h23 => by
    rw [unl_succ, Bool.or_eq_false_iff] at hu
    have ih := locks_open (L := L) (k := k) (fun i hi => hg i (by omega)) hu.1
    have h24 : (at_ L k).1 ≠ 24 := by simpa using hu.2
    cases ho : opn (at_ L k)
    · have hjk : j ≠ k := by intro e; rw [e] at h23; unfold opn at ho; rw [h23] at ho; simp at ho
      have hm := ih j (by omega) h23
      cases hc : cls (at_ L k)
      · rw [sk_oth ho hc]; exact hm
      · have hgk := hg k (by omega)
        unfold gd at hgk
        rw [sk_cls hc]
        cases hs : sk L k with
        | nil => rw [hs] at hm; simp at hm
        | cons t s =>
          rw [hc, hs] at hgk
          rw [hs] at hm
          rcases List.mem_cons.1 hm with e | e
          · exfalso
            subst e
            simp only [clo, cls, h23] at hgk hc
            simp at hgk hc
            omega
          · exact e
    · rw [sk_opn' ho]
      by_cases e : j = k
      · rw [e]; simp
      · exact List.mem_cons_of_mem _ (ih j (by omega) h23)
theorem mem_lks {L : List (Int × Int × Int)} {b : Int} : ∀ {k : Nat}, k ≤ L.length → (b ∈ lks L k ↔ ∃ j, j < k ∧ (at_ L j).1 = 23 ∧ (at_ L j).2.1 = b)
  | 0, _ => by simp [lks]
  | k + 1, h => by
    have ih := mem_lks (L := L) (b := b) (k := k) (by omega)
    rw [lks_succ (by omega)]
    by_cases e : (at_ L k).1 = 23
    · rw [if_pos e, List.mem_append, ih]
      constructor
      · rintro (⟨j, h1, h2, h3⟩ | h1)
        · exact ⟨j, by omega, h2, h3⟩
        · simp at h1; exact ⟨k, by omega, e, h1.symm⟩
      · rintro ⟨j, h1, h2, h3⟩
        by_cases ej : j = k
        · subst ej; exact Or.inr (by simp [h3])
        · exact Or.inl ⟨j, by omega, h2, h3⟩
    · rw [if_neg e, ih]
      constructor
      · rintro ⟨j, h1, h2, h3⟩; exact ⟨j, by omega, h2, h3⟩
      · rintro ⟨j, h1, h2, h3⟩
        have : j ≠ k := by intro ej; rw [ej] at h2; exact e h2
        exact ⟨j, by omega, h2, h3⟩
theorem lks_rise {L : List (Int × Int × Int)} (hg : Good L L.length) (hb : bds L L.length = false) : ∀ {k : Nat}, k ≤ L.length → (lks L k).Pairwise (· < ·)
  | 0, _ => by simp [lks]
  | k + 1, h => by
    have ih := lks_rise hg hb (k := k) (by omega)
    rw [lks_succ (by omega)]
    by_cases e : (at_ L k).1 = 23
    · rw [if_pos e, List.pairwise_append]
      refine ⟨ih, by simp, ?_⟩
      intro x hx y hy
      simp at hy
      subst hy
      have hbd : bd L k = false := by
        cases hv : bd L k
        · rfl
        · have := bds_iff.2 ⟨k, h, hv⟩
          rw [this] at hb; cases hb
      rw [show bd L k = (unl L k || (ovr L (sk L k) (at_ L k).2.1 || inl L (sk L k))) from by unfold bd; rw [if_pos e], Bool.or_eq_false_iff, Bool.or_eq_false_iff] at hbd
      obtain ⟨j, h1, h2, h3⟩ := (mem_lks (by omega)).1 hx
      have hj := locks_open (fun i hi => hg i (by omega)) hbd.1 j h1 h2
      have ho := hbd.2.1
      unfold ovr at ho
      rw [List.any_eq_false] at ho
      have := ho j hj
      simp [h2] at this
      omega
    · rw [if_neg e]; exact ih
/-- The sum of the powers of 2 of the first k numbers. -/
def smB (B : List Int) : Nat → Nat
  | 0 => 0
  | k + 1 => smB B k + 2 ^ (B.getD k 0).toNat
theorem smB_lt {B : List Int} (hp : B.Pairwise (· < ·)) (h0 : ∀ b ∈ B, 0 ≤ b) : ∀ {k : Nat}, k ≤ B.length → ∀ x : Nat, (∀ i, i < k → B.getD i 0 < x) → smB B k < 2 ^ x
  | 0, _, x, _ => Nat.pow_pos (by decide)
  | k + 1, hk, x, hx => by
    have e : ∀ i, i < B.length → B.getD i 0 ∈ B := by
      intro i hi
      rw [List.getD_eq_getElem?_getD, List.getElem?_eq_getElem hi]; exact List.getElem_mem hi
    have hb0 := h0 _ (e k (by omega))
    have hr : ∀ i, i < k → B.getD i 0 < B.getD k 0 := by
      intro i hi
      have := List.pairwise_iff_getElem.1 hp i k (by omega) (by omega) hi
      rw [List.getD_eq_getElem?_getD, List.getElem?_eq_getElem (by omega), List.getD_eq_getElem?_getD, List.getElem?_eq_getElem (by omega)]
      exact this
    have ih := smB_lt hp h0 (k := k) (by omega) (B.getD k 0).toNat (fun i hi => by have := hr i hi; omega)
    have hxk := hx k (by omega)
    have h2 : 2 ^ ((B.getD k 0).toNat + 1) ≤ 2 ^ x := Nat.pow_le_pow_right (by decide) (by omega)
    rw [Nat.pow_succ] at h2
    rw [smB]; omega
theorem smB_test {B : List Int} (hp : B.Pairwise (· < ·)) (h0 : ∀ b ∈ B, 0 ≤ b) (x : Nat) : ∀ {k : Nat}, k ≤ B.length → ((smB B k).testBit x = true ↔ ∃ i, i < k ∧ B.getD i 0 = x)
  | 0, _ => by simp [smB]
  | k + 1, hk => by
    have e : ∀ i, i < B.length → B.getD i 0 ∈ B := by
      intro i hi
      rw [List.getD_eq_getElem?_getD, List.getElem?_eq_getElem hi]; exact List.getElem_mem hi
    have hb0 := h0 _ (e k (by omega))
    have hr : ∀ i, i < k → B.getD i 0 < B.getD k 0 := by
      intro i hi
      have := List.pairwise_iff_getElem.1 hp i k (by omega) (by omega) hi
      rw [List.getD_eq_getElem?_getD, List.getElem?_eq_getElem (by omega), List.getD_eq_getElem?_getD, List.getElem?_eq_getElem (by omega)]
      exact this
    have hlt := smB_lt hp h0 (k := k) (by omega) (B.getD k 0).toNat (fun i hi => by have := hr i hi; omega)
    have hor := Nat.two_pow_add_eq_or_of_lt hlt 1
    rw [Nat.mul_one] at hor
    rw [smB, Nat.add_comm, hor, Nat.testBit_or, Nat.testBit_two_pow, Bool.or_eq_true, smB_test hp h0 x (k := k) (by omega), decide_eq_true_iff]
    constructor
    · rintro (h | ⟨i, h1, h2⟩)
      · exact ⟨k, by omega, by omega⟩
      · exact ⟨i, by omega, h2⟩
    · rintro ⟨i, h1, h2⟩
      by_cases ei : i = k
      · subst ei; exact Or.inl (by omega)
      · exact Or.inr ⟨i, by omega, h2⟩
theorem lks_room {L : List (Int × Int × Int)} (h : Blk8 L) {k : Nat} (hk : k ≤ L.length) {b : Int} (hb : b ∈ lks L k) : 0 ≤ b ∧ b < 8 := by
  obtain ⟨j, _, h2, h3⟩ := (mem_lks hk).1 hb
  rw [← h3]; exact h j h2
/-- What is held is among what is locked. -/
theorem held_all {L : List (Int × Int × Int)} (h8 : Blk8 L) (hg : Good L L.length) (hbs : bds L L.length = false) {i : Nat} (hi : i ≤ L.length) :
    hb L (sk L i) &&& smB (lks L L.length) (lks L L.length).length = hb L (sk L i) := by
  have hp := lks_rise hg hbs (Nat.le_refl _)
  have h0 : ∀ b ∈ lks L L.length, 0 ≤ b := fun b hm => (lks_room h8 (Nat.le_refl _) hm).1
  apply Nat.eq_of_testBit_eq
  intro x
  rw [Nat.testBit_and]
  cases ht : (hb L (sk L i)).testBit x
  · rfl
  · rw [Bool.true_and, smB_test hp h0 x (Nat.le_refl _)]
    rw [hb_test, List.any_eq_true] at ht
    obtain ⟨t, h1, h2⟩ := ht
    simp only [Bool.and_eq_true, beq_iff_eq] at h2
    have h3 := h8 t h2.1
    have hm : (x : Int) ∈ lks L L.length := (mem_lks (Nat.le_refl _)).2 ⟨t, by have := sk_lt h1; omega, h2.1, by omega⟩
    obtain ⟨j, hj, e⟩ := List.getElem_of_mem hm
    exact ⟨j, hj, by rw [List.getD_eq_getElem?_getD, List.getElem?_eq_getElem hj]; exact e⟩
theorem smB_small {L : List (Int × Int × Int)} (h8 : Blk8 L) (hg : Good L L.length) (hb : bds L L.length = false) {k : Nat} (hk : k ≤ (lks L L.length).length) : smB (lks L L.length) k < 256 := by
  have hp := lks_rise hg hb (Nat.le_refl _)
  have h0 : ∀ b ∈ lks L L.length, 0 ≤ b := fun b hb => (lks_room h8 (Nat.le_refl _) hb).1
  refine smB_lt hp h0 hk 8 (fun i hi => ?_)
  have hm : (lks L L.length).getD i 0 ∈ lks L L.length := by
    rw [List.getD_eq_getElem?_getD, List.getElem?_eq_getElem (by omega)]; exact List.getElem_mem (by omega)
  exact (lks_room h8 (Nat.le_refl _) hm).2
theorem held_end {L : List (Int × Int × Int)} (hs : Sound L) (he : ends L = true) (hl : 1 ≤ L.length) : sk L (L.length - 1) = [] := by
  have h25 := (ends_iff.1 he (L.length - 1) (by omega)).2 (by omega)
  have h2 := hs.2
  have e : L.length = L.length - 1 + 1 := by omega
  rw [e, sk_oth (by unfold opn; rw [h25]; rfl) (by unfold cls; rw [h25]; rfl)] at h2
  exact h2
theorem held_get {L : List (Int × Int × Int)} (hb : bds L L.length = false) {i : Nat} (hi : i < L.length) (hg : (at_ L i).1 = 17 ∨ (at_ L i).1 = 18) : lkd L (sk L i) (at_ L i).2.1 = true := by
  cases hv : lkd L (sk L i) (at_ L i).2.1
  · have : bd L i = true := by unfold bd; rw [if_neg (by omega), if_pos hg, hv]; rfl
    have := bds_iff.2 ⟨i, hi, this⟩
    rw [this] at hb; cases hb
  · rfl
end Go.Proofs.YtkkoekfdncoifaaDoor
