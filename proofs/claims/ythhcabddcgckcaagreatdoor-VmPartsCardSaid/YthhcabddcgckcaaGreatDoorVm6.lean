/- What is proved here: a run ends: behind no more steps than the instructions, each as often as the rounds of all loops that it stands in. Conditions: New takes the row. -/
import Derived.Test.YthhcabddcgckcaaGreatDoorGh
namespace Go.Proofs.YthhcabddcgckcaaGreatDoor

/-- The rounds of the loops from a place on, all together. -/
def prd (L : List (Int × Int × Int)) (f : Nat) : List Nat → Nat
  | [] => 1
  | u :: s => if (at_ L u).1 = 21 ∧ f ≤ u then (at_ L u).2.1.toNat * prd L f s else prd L f s
/-- The sum of it over places. -/
def sm (L : List (Int × Int × Int)) (f : Nat) : Nat → Nat → Nat
  | _, 0 => 0
  | p, n + 1 => prd L f (sk L p) + sm L f (p + 1) n
/-- The place behind the end of a loop, by the place behind its beginning. -/
def clP (L : List (Int × Int × Int)) (f : Nat) : Nat := (mt L L.length (f - 1)).toNat + 1
/-- How many steps are left at most. -/
def ph (L : List (Int × Int × Int)) : List (Nat × Int) → Nat → Nat
  | [], p => sm L 0 p (L.length - p)
  | (f, k) :: r, p => sm L f p (clP L f - p) + (k.toNat - 1) * sm L f f (clP L f - f) + ph L r (clP L f)
theorem prd_append (L : List (Int × Int × Int)) (f : Nat) (a b : List Nat) : prd L f (a ++ b) = prd L f a * prd L f b := by
  induction a with
  | nil => simp [prd]
  | cons u a ih =>
    simp only [List.cons_append, prd, ih]
    split
    · rw [Nat.mul_assoc]
    · rfl
theorem prd_one {L : List (Int × Int × Int)} {f : Nat} : ∀ {s : List Nat}, (∀ u ∈ s, (at_ L u).1 = 21 → u < f) → prd L f s = 1
  | [], _ => rfl
  | u :: s, h => by
    unfold prd
    rw [if_neg (by intro hc; have := h u (by simp) hc.1; omega)]
    exact prd_one fun x hx => h x (List.mem_cons_of_mem _ hx)
theorem prd_same {L : List (Int × Int × Int)} {f g : Nat} : ∀ {s : List Nat}, (∀ u ∈ s, f ≤ u ∧ g ≤ u) → prd L f s = prd L g s
  | [], _ => rfl
  | u :: s, h => by
    have h1 := h u (by simp)
    have ih := prd_same (L := L) (f := f) (g := g) (s := s) fun x hx => h x (List.mem_cons_of_mem _ hx)
    unfold prd
    rw [ih]
    by_cases e : (at_ L u).1 = 21
    · rw [if_pos ⟨e, h1.1⟩, if_pos ⟨e, h1.2⟩]
    · rw [if_neg (fun h => e h.1), if_neg (fun h => e h.1)]
theorem sm_split (L : List (Int × Int × Int)) (f : Nat) : ∀ (m p n : Nat), sm L f p (m + n) = sm L f p m + sm L f (p + m) n
  | 0, p, n => by rw [Nat.zero_add]; show _ = 0 + _; rw [Nat.zero_add]; rfl
  | m + 1, p, n => by
    rw [show m + 1 + n = (m + n) + 1 by omega]
    show prd L f (sk L p) + sm L f (p + 1) (m + n) = prd L f (sk L p) + sm L f (p + 1) m + sm L f (p + (m + 1)) n
    rw [sm_split L f m (p + 1) n, show p + 1 + m = p + (m + 1) by omega]; omega
theorem sm_mul {L : List (Int × Int × Int)} {f g c : Nat} : ∀ {n p : Nat}, (∀ j, p ≤ j → j < p + n → prd L f (sk L j) = c * prd L g (sk L j)) → sm L f p n = c * sm L g p n
  | 0, _, _ => rfl
  | n + 1, p, h => by
    unfold sm
    rw [h p (Nat.le_refl _) (by omega), sm_mul (n := n) (p := p + 1) fun j h1 h2 => h j (by omega) (by omega), Nat.mul_add]
theorem sm_less (L : List (Int × Int × Int)) (f : Nat) {p q e : Nat} (h : p < q) (h2 : q ≤ e) (h1 : prd L f (sk L p) = 1) : sm L f q (e - q) + 1 ≤ sm L f p (e - p) := by
  rw [show e - p = (q - p) + (e - q) by omega, sm_split, show p + (q - p) = q by omega]
  have : 1 ≤ sm L f p (q - p) := by
    rw [show q - p = (q - p - 1) + 1 by omega]
    show 1 ≤ prd L f (sk L p) + _
    omega
  omega
/-- The innermost loop's first place and the place behind its end. -/
def fst_ : List (Nat × Int) → Nat
  | [] => 0
  | x :: _ => x.1
def lst_ (L : List (Int × Int × Int)) : List (Nat × Int) → Nat
  | [] => L.length
  | x :: _ => clP L x.1
theorem ph_form (L : List (Int × Int × Int)) (c : List (Nat × Int)) : ∃ R, ∀ p, ph L c p = sm L (fst_ c) p (lst_ L c - p) + R := by
  cases c with
  | nil => exact ⟨0, fun p => rfl⟩
  | cons x r => exact ⟨(x.2.toNat - 1) * sm L x.1 x.1 (clP L x.1 - x.1) + ph L r (clP L x.1), fun p => by show sm L x.1 p (clP L x.1 - p) + _ + _ = _; unfold fst_ lst_; simp only; omega⟩
theorem lo_mem {L : List (Int × Int × Int)} {s : List Nat} {u : Nat} : u ∈ lo L s ↔ u ∈ s ∧ (at_ L u).1 = 21 := by unfold lo; simp
/-- Facts on a place with its open loops. -/
theorem place_facts {L : List (Int × Int × Int)} (w : Takes L) {p : Nat} {c : List (Nat × Int)} (hp : p < L.length) (h : Lm L (lo L (sk L p)) c) :
    prd L (fst_ c) (sk L p) = 1 ∧ p < lst_ L c ∧ fst_ c ≤ p ∧ lst_ L c ≤ L.length ∧ (∀ q, q < L.length → sk L q = sk L p → q < lst_ L c) := by
  cases c with
  | nil =>
    have hl : lo L (sk L p) = [] := by
      cases hq : lo L (sk L p) with
      | nil => rfl
      | cons t r => rw [hq] at h; exact h.elim
    refine ⟨prd_one fun u hu h21 => ?_, hp, Nat.zero_le _, Nat.le_refl _, fun q hq _ => hq⟩
    have := lo_mem.2 ⟨hu, h21⟩
    rw [hl] at this; cases this
  | cons x r =>
    cases hq : lo L (sk L p) with
    | nil => rw [hq] at h; exact h.elim
    | cons t s =>
      rw [hq] at h
      have hx : x.1 = t + 1 := h.1
      have htm : t ∈ lo L (sk L p) := by rw [hq]; simp
      obtain ⟨ht1, ht2⟩ := lo_mem.1 htm
      have htp := sk_lt ht1
      have hmt := (w.sound.opn (p := t) (by unfold opn; rw [ht2]; rfl))
      have hw : ∀ q, q < L.length → t ∈ sk L q → q < clP L (t + 1) := by
        intro q hq1 hq2
        have := (w.sound.within (k := t) (i := q) (by omega)).1 hq2
        unfold clP; rw [Nat.add_sub_cancel]; omega
      have hlast : clP L (t + 1) ≤ L.length := by
        unfold clP; rw [Nat.add_sub_cancel]
        obtain ⟨m, hm1, hm2, hm3, _⟩ := hmt
        omega
      refine ⟨?_, ?_, ?_, ?_, ?_⟩
      · show prd L x.1 (sk L p) = 1
        rw [hx]
        refine prd_one fun u hu h21 => ?_
        -- t is the first of the loops
        obtain ⟨a, ha⟩ := sk_mem ht1
        rw [ha] at hu
        rcases List.mem_append.1 hu with hu1 | hu1
        · have hlo : lo L (sk L p) = lo L a ++ lo L (t :: sk L t) := by rw [ha]; unfold lo; rw [List.filter_append]
          rw [hq] at hlo
          have hua : u ∈ lo L a := lo_mem.2 ⟨hu1, h21⟩
          cases hla : lo L a with
          | nil => rw [hla] at hua; cases hua
          | cons y z =>
            rw [hla] at hlo
            have hy : t = y := by simp at hlo; exact hlo.1
            have hy2 : y ∈ a := (lo_mem.1 (by rw [hla]; simp : y ∈ lo L a)).1
            obtain ⟨a1, a2, ha2⟩ := List.append_of_mem hy2
            rw [ha2] at ha
            have := sk_chain (l := L) (k := p) (t := y) (u := a1) (s := a2 ++ t :: sk L t) (by rw [ha]; simp)
            have h3 : t ∈ sk L y := by rw [← this]; simp
            have := sk_lt h3
            omega
        · rcases List.mem_cons.1 hu1 with rfl | hu2
          · omega
          · have := sk_lt hu2; omega
      · show p < clP L x.1
        rw [hx]; exact hw p hp ht1
      · show x.1 ≤ p
        omega
      · show clP L x.1 ≤ _
        rw [hx]; exact hlast
      · intro q hq1 hq2
        show q < clP L x.1
        rw [hx]; exact hw q hq1 (by rw [hq2]; exact ht1)
end Go.Proofs.YthhcabddcgckcaaGreatDoor
