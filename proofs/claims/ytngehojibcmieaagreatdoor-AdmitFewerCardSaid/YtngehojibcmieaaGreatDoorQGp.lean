/- What is proved here: plain facts on the steps of ways through rows of instructions. Conditions: those each theorem states. plain facts: the steps of first instructions, sections, straight rows. -/
import Derived.Test.YtngehojibcmieaaGreatDoorQGa
section
section
namespace Go.Proofs.YtngehojibcmieaaGreatDoor
def cap : Nat := 1048577
def of_ (m : Bool) (x y : Nat) : Nat := if m = true then max x y else min x y
def nb (L : List (Int × Int × Int)) (p : Nat) : Nat := max p (mt L L.length p).toNat + 1
def wv (m : Bool) (L : List (Int × Int × Int)) (g : Nat → Nat) (p : Nat) : Nat :=
 if (at_ L p).1 = 22 ∨ (at_ L p).1 = 24 ∨ (at_ L p).1 = 25 then 0
 else if (at_ L p).1 = 21 then 1 + (at_ L p).2.1.toNat * (g (p + 1) + 1) + g (nb L p)
 else if (at_ L p).1 = 23 then 1 + (g (p + 1) + 1) + g (nb L p)
 else if (at_ L p).1 = 19 then 1 + g (led L p)
 else if (at_ L p).1 = 20 then 1 + of_ m (g (p + 1)) (g (led L p))
 else 1 + g (p + 1)
def uf (m : Bool) (L : List (Int × Int × Int)) : Nat → Nat → Nat
 | 0, _ => 0
 | f + 1, p => if p < L.length then wv m L (uf m L f) p else 0
def ub (m : Bool) (L : List (Int × Int × Int)) (p : Nat) : Nat := uf m L L.length p
theorem led_gt (L : List (Int × Int × Int)) (p : Nat) : p < led L p := by unfold led; omega
theorem nb_gt (L : List (Int × Int × Int)) (p : Nat) : p < nb L p := by unfold nb; omega
theorem wv_congr {m : Bool} {L : List (Int × Int × Int)} {g g' : Nat → Nat} {p : Nat} (h : ∀ q, p < q → g q = g' q) : wv m L g p = wv m L g' p := by
 unfold wv
 rw [h (p + 1) (by omega), h (nb L p) (nb_gt L p), h (led L p) (led_gt L p)]
theorem uf_stable {m : Bool} {L : List (Int × Int × Int)} : ∀ (f f' p : Nat), L.length - p ≤ f → L.length - p ≤ f' → uf m L f p = uf m L f' p
 | 0, 0, _, _, _ => rfl
 | 0, f' + 1, p, h, _ => by
  have e : ¬ p < L.length := by omega
  rw [uf, uf, if_neg e]
 | f + 1, 0, p, _, h => by
  have e : ¬ p < L.length := by omega
  rw [uf, uf, if_neg e]
 | f + 1, f' + 1, p, h, h' => by
  rw [uf, uf]
  by_cases e : p < L.length
  ·rw [if_pos e, if_pos e]
   exact wv_congr fun q hq => uf_stable f f' q (by omega) (by omega)
  ·rw [if_neg e, if_neg e]
theorem ub_over {m : Bool} {L : List (Int × Int × Int)} {p : Nat} (h : L.length ≤ p) : ub m L p = 0 := by
 unfold ub
 cases hl : L.length with
 | zero => rfl
 | succ f => rw [uf, if_neg (by omega)]
theorem ub_eq (m : Bool) {L : List (Int × Int × Int)} {p : Nat} (h : p < L.length) : ub m L p = wv m L (ub m L) p := by
 have : uf m L L.length p = uf m L (L.length + 1) p := uf_stable _ _ _ (by omega) (by omega)
 show uf m L L.length p = _
 rw [this, uf, if_pos h]
 rfl
theorem ub_stop (m : Bool) {L : List (Int × Int × Int)} {p : Nat} (h : (at_ L p).1 = 22 ∨ (at_ L p).1 = 24 ∨ (at_ L p).1 = 25) : ub m L p = 0 := by
 by_cases e : p < L.length
 ·rw [ub_eq m e, wv, if_pos h]
 ·exact ub_over (by omega)
theorem op_len {L : List (Int × Int × Int)} {p : Nat} (h : (at_ L p).1 ≠ 0) : p < L.length := by
 by_cases e : p < L.length
 ·exact e
 ·rw [at_len (by omega)] at h; exact absurd rfl h
theorem ub_loop (m : Bool) {L : List (Int × Int × Int)} {p : Nat} (h : (at_ L p).1 = 21) : ub m L p = 1 + (at_ L p).2.1.toNat * (ub m L (p + 1) + 1) + ub m L (nb L p) := by
 rw [ub_eq m (op_len (by omega)), wv, if_neg (by omega), if_pos h]
theorem ub_lock (m : Bool) {L : List (Int × Int × Int)} {p : Nat} (h : (at_ L p).1 = 23) : ub m L p = 1 + (ub m L (p + 1) + 1) + ub m L (nb L p) := by
 rw [ub_eq m (op_len (by omega)), wv, if_neg (by omega), if_neg (by omega), if_pos h]
theorem ub_jump (m : Bool) {L : List (Int × Int × Int)} {p : Nat} (h : (at_ L p).1 = 19) : ub m L p = 1 + ub m L (led L p) := by
 rw [ub_eq m (op_len (by omega)), wv, if_neg (by omega), if_neg (by omega), if_neg (by omega), if_pos h]
theorem ub_branch (m : Bool) {L : List (Int × Int × Int)} {p : Nat} (h : (at_ L p).1 = 20) : ub m L p = 1 + of_ m (ub m L (p + 1)) (ub m L (led L p)) := by
 rw [ub_eq m (op_len (by omega)), wv, if_neg (by omega), if_neg (by omega), if_neg (by omega), if_neg (by omega), if_pos h]
theorem ub_else (m : Bool) {L : List (Int × Int × Int)} {p : Nat} (hp : p < L.length) (h1 : ¬ ((at_ L p).1 = 22 ∨ (at_ L p).1 = 24 ∨ (at_ L p).1 = 25)) (h2 : (at_ L p).1 ≠ 21) (h3 : (at_ L p).1 ≠ 23) (h4 : (at_ L p).1 ≠ 19) (h5 : (at_ L p).1 ≠ 20) : ub m L p = 1 + ub m L (p + 1) := by
 rw [ub_eq m hp, wv, if_neg h1, if_neg h2, if_neg h3, if_neg h4, if_neg h5]
def cut (n : Nat) : Nat := min cap n
theorem cut_le (n : Nat) : cut n ≤ cap := Nat.min_le_left _ _
theorem cut_of (m : Bool) (x y : Nat) : cut (1 + of_ m (cut x) (cut y)) = cut (1 + of_ m x y) := by
 unfold cut of_; cases m <;> simp <;> omega
theorem cut_mul (A x y : Nat) : cut (1 + A * (cut x + 1) + cut y) = cut (1 + A * (x + 1) + y) := by
 by_cases e : x ≤ cap
 ·have : cut x = x := by unfold cut; omega
  rw [this]; unfold cut; omega
 ·have : cut x = cap := by unfold cut; omega
  rw [this]
  cases A with
  | zero => unfold cut; omega
  | succ A =>
   have h1 : (A + 1) * (cap + 1) = A * (cap + 1) + (cap + 1) := Nat.succ_mul _ _
   have h2 : (A + 1) * (x + 1) = A * (x + 1) + (x + 1) := Nat.succ_mul _ _
   unfold cut; omega
theorem cut_one (x : Nat) : cut (1 + cut x) = cut (1 + x) := by unfold cut; omega
theorem cut_wv (m : Bool) (L : List (Int × Int × Int)) (g : Nat → Nat) (p : Nat) : cut (wv m L (fun q => cut (g q)) p) = cut (wv m L g p) := by
 unfold wv
 split
 ·rfl
 ·split
  ·exact cut_mul _ _ _
  ·split
   ·have := cut_mul 1 (g (p + 1)) (g (nb L p))
    rw [Nat.one_mul, Nat.one_mul] at this; exact this
   ·split
    ·exact cut_one _
    ·split
     ·exact cut_of _ _ _
     ·exact cut_one _
def cE (m : Bool) (L : List (Int × Int × Int)) : Int := if lE L = 0 then (if tE L = 0 then (if 1048576 < ub m L 0 + 1 then 4 else 0) else tE L) else lE L
def rE (L : List (Int × Int × Int)) : Int := if lE L = 0 then tE L else lE L
theorem cE_eq (m : Bool) (L : List (Int × Int × Int)) : cE m L = if rE L = 0 then (if 1048576 < ub m L 0 + 1 then 4 else 0) else rE L := by
 unfold cE rE
 by_cases h : lE L = 0
 ·rw [if_pos h, if_pos h]
 ·rw [if_neg h, if_neg h, if_neg h]
def cW (m : Bool) (L : List (Int × Int × Int)) : Int := if cE m L = 0 then ((ub m L 0 + 1 : Nat) : Int) else 0
def sec (L : List (Int × Int × Int)) : Nat → List (Int × Int)
 | 0 => []
 | k + 1 => if (at_ L k).1 = 23 then sec L k ++ [((at_ L k).2.1, ((cut (ub true L (k + 1)) + 1 : Nat) : Int))] else sec L k
def sA (L : List (Int × Int × Int)) : List (Int × Int) := if cE true L = 0 then sec L L.length else []
theorem rE_zero {L : List (Int × Int × Int)} (h : rE L = 0) : lE L = 0 ∧ tE L = 0 := by
 unfold rE at h
 by_cases e : lE L = 0
 ·rw [if_pos e] at h; exact ⟨e, h⟩
 ·rw [if_neg e] at h; exact absurd h e
theorem rE_of {L : List (Int × Int × Int)} (h : lE L = 0) (h2 : tE L = 0) : rE L = 0 := by unfold rE; rw [if_pos h, h2]
theorem cE_zero {m : Bool} {L : List (Int × Int × Int)} (h : cE m L = 0) : rE L = 0 ∧ ub m L 0 + 1 ≤ 1048576 := by
 rw [cE_eq] at h
 by_cases e : rE L = 0
 ·rw [if_pos e] at h
  refine ⟨e, ?_⟩
  split at h
  ·omega
  ·omega
 ·rw [if_neg e] at h; exact absurd h e
theorem sec_len (L : List (Int × Int × Int)) : ∀ k, (sec L k).length ≤ k
 | 0 => by simp [sec]
 | k + 1 => by
  have := sec_len L k
  rw [sec]
  split
  ·simp; omega
  ·omega
end Go.Proofs.YtngehojibcmieaaGreatDoor
end
section
namespace Go.Proofs.YtngehojibcmieaaGreatDoor
theorem down {n : Nat} {P : Nat → Prop} (h : ∀ p, p < n → (∀ q, p < q → P q) → P p) (h0 : ∀ p, n ≤ p → P p) : ∀ p, P p := by
 have : ∀ f p, n - p ≤ f → P p := by
  intro f
  induction f with
  | zero => intro p hp; exact h0 p (by omega)
  | succ f ih =>
   intro p hp
   by_cases e : n ≤ p
   ·exact h0 p e
   ·exact h p (by omega) (fun q hq => ih q (by omega))
 intro p; exact this (n - p) p (Nat.le_refl _)
theorem of_le (x y : Nat) : of_ false x y ≤ of_ true x y := by unfold of_; simp; omega
theorem of_mono {m : Bool} {x y x' y' : Nat} (h : x ≤ x') (h2 : y ≤ y') : of_ m x y ≤ of_ m x' y' := by unfold of_; cases m <;> simp <;> omega
theorem ub_le (L : List (Int × Int × Int)) : ∀ p, ub false L p ≤ ub true L p := by
 refine down (n := L.length) (fun p hp ih => ?_) (fun p hp => by rw [ub_over hp, ub_over hp]; omega)
 rw [ub_eq false hp, ub_eq true hp]
 have i1 := ih (p + 1) (by omega)
 have i2 := ih (nb L p) (nb_gt L p)
 have i3 := ih (led L p) (led_gt L p)
 unfold wv
 split
 ·omega
 ·split
  ·have := Nat.mul_le_mul (Nat.le_refl (at_ L p).2.1.toNat) (Nat.succ_le_succ i1)
   simp only [Nat.succ_eq_add_one] at this
   omega
  ·split
   ·omega
   ·split
    ·omega
    ·split
     ·have h1 := of_mono (m := false) i1 i3
      have h2 := of_le (ub true L (p + 1)) (ub true L (led L p))
      omega
     ·omega
theorem sp_from {L : List (Int × Int × Int)} {j : Nat} : ∀ k, (sp L k j).2.1 = true → j = 0 ∨ ∃ r, r < k ∧ j ∈ nx L r
 | 0, h => by
  unfold sp hand at h
  by_cases e : j = 0
  ·exact Or.inl e
  ·rw [if_neg e] at h; simp at h
 | k + 1, h => by
  by_cases e : j ∈ nx L k
  ·exact Or.inr ⟨k, by omega, e⟩
  ·rw [sp, hands_other e] at h
   rcases sp_from k h with h | ⟨r, h1, h2⟩
   ·exact Or.inl h
   ·exact Or.inr ⟨r, by omega, h2⟩
theorem nx_cases {L : List (Int × Int × Int)} {r q : Nat} (h : q ∈ nx L r) : ((at_ L r).1 = 19 ∧ q = led L r) ∨ ((at_ L r).1 = 20 ∧ (q = r + 1 ∨ q = led L r)) ∨ ((at_ L r).1 ≠ 19 ∧ (at_ L r).1 ≠ 20 ∧ (at_ L r).1 ≠ 25 ∧ q = r + 1) := by
 unfold nx at h
 split at h
 ·simp at h
 ·split at h
  ·rename_i h1; simp at h; exact Or.inl ⟨h1, h⟩
  ·split at h
   ·rename_i h1; simp at h; exact Or.inr (Or.inl ⟨h1, h⟩)
   ·simp at h; exact Or.inr (Or.inr ⟨by assumption, by assumption, by assumption, h⟩)
def frst_ (L : List (Int × Int × Int)) (p : Nat) : Nat := (hm L p + 1).toNat
theorem hm_sk {L : List (Int × Int × Int)} {i j : Nat} (h : sk L i = sk L j) : hm L i = hm L j := by unfold hm; rw [h]
theorem sk_same {L : List (Int × Int × Int)} {p : Nat} (h : (at_ L p).1 ≠ 21 ∧ (at_ L p).1 ≠ 22 ∧ (at_ L p).1 ≠ 23 ∧ (at_ L p).1 ≠ 24) : sk L (p + 1) = sk L p :=
 sk_oth (by unfold opn; simp; omega) (by unfold cls; simp; omega)
theorem led_hm {L : List (Int × Int × Int)} (hw : wE L = 0) {p : Nat} (hp : p < L.length) (h : (at_ L p).1 = 19 ∨ (at_ L p).1 = 20) : led L p < L.length ∧ hm L (led L p) = hm L p :=
 jmps_iff.1 (wE_zero hw).2.2 p hp (by unfold jmp; simp; exact h)
theorem ub_first {L : List (Int × Int × Int)} (hw : wE L = 0) (ht : tE L = 0) : ∀ q, q < L.length → ub true L q ≤ ub true L (frst_ L q) := by
 intro q
 induction q using Nat.strongRecOn with
 | _ q ih =>
  intro hq
  have hs := (mE_zero (wE_zero hw).1).2
  have he := (er_zero ((tE_zero ht).2 q hq)).1
  rcases sp_from q he with rfl | ⟨r, hr, hn⟩
  ·exact Nat.le_refl _
  have ihr := ih r hr (by omega)
  rcases nx_cases hn with ⟨h1, h2⟩ | ⟨h1, h2⟩ | ⟨h1, h2, h3, h4⟩
  ·have := (led_hm hw (by omega : r < L.length) (Or.inl h1)).2
   rw [← h2] at this
   have e : frst_ L q = frst_ L r := by unfold frst_; rw [this]
   rw [e, h2]
   rw [ub_jump true h1] at ihr
   omega
  ·have hl := (led_hm hw (by omega : r < L.length) (Or.inr h1)).2
   have hsk : hm L (r + 1) = hm L r := hm_sk (sk_same (by omega))
   have e : frst_ L q = frst_ L r := by
    unfold frst_
    rcases h2 with h2 | h2
    ·rw [h2, hsk]
    ·rw [h2, hl]
   rw [ub_branch true h1] at ihr
   rw [e]
   unfold of_ at ihr
   rw [if_pos rfl] at ihr
   rcases h2 with h2 | h2
   ·rw [h2]; omega
   ·rw [h2]; omega
  ·subst h4
   cases ho : opn (at_ L r)
   ·cases hc : cls (at_ L r)
    ·have hsk : hm L (r + 1) = hm L r := hm_sk (sk_oth ho hc)
     have e : frst_ L (r + 1) = frst_ L r := by unfold frst_; rw [hsk]
     have hno : (at_ L r).1 ≠ 21 ∧ (at_ L r).1 ≠ 23 ∧ (at_ L r).1 ≠ 22 ∧ (at_ L r).1 ≠ 24 := by
      unfold opn at ho; unfold cls at hc; simp at ho hc; omega
     rw [ub_else true (by omega) (by omega) hno.1 hno.2.1 h1 h2] at ihr
     rw [e]; omega
    ·obtain ⟨t, g1, g2, g3, g4, g5⟩ := hs.cls hc
     have hsk : sk L (r + 1) = sk L t := by rw [sk_cls hc, g1]; rfl
     have e : frst_ L (r + 1) = frst_ L t := by unfold frst_; rw [hm_sk hsk]
     have iht := ih t (by omega) (by omega)
     have hnb : nb L t = r + 1 := by unfold nb; rw [g4]; simp; omega
     have hot : (at_ L t).1 = 21 ∨ (at_ L t).1 = 23 := by
      have := sk_open (l := L) (k := r) (t := t) (by rw [g1]; simp)
      unfold opn at this; simp at this; exact this
     rw [e]
     rcases hot with hot | hot
     ·rw [ub_loop true hot, hnb] at iht; omega
     ·rw [ub_lock true hot, hnb] at iht; omega
   ·have e : frst_ L (r + 1) = r + 1 := by
     unfold frst_
     rw [hm_cons (sk_opn' ho)]; omega
    rw [e]; exact Nat.le_refl _
theorem sec_succ (L : List (Int × Int × Int)) (k : Nat) : sec L (k + 1) = if (at_ L k).1 = 23 then sec L k ++ [((at_ L k).2.1, ((cut (ub true L (k + 1)) + 1 : Nat) : Int))] else sec L k := rfl
theorem sec_lks {L : List (Int × Int × Int)} : ∀ {k : Nat}, k ≤ L.length → (sec L k).length = (lks L k).length
 | 0, _ => by simp [sec, lks]
 | k + 1, h => by
  rw [sec_succ, lks_succ (by omega)]
  have := sec_lks (L := L) (k := k) (by omega)
  split <;> simp [this]
theorem getD_snoc {α : Type} (l : List α) (x d : α) (i : Nat) (h : i < l.length) : (l ++ [x]).getD i d = l.getD i d := by
 rw [List.getD_eq_getElem?_getD, List.getD_eq_getElem?_getD, List.getElem?_append_left h]
theorem getD_last {α : Type} (l : List α) (x d : α) : (l ++ [x]).getD l.length d = x := by
 rw [List.getD_eq_getElem?_getD, List.getElem?_append_right (Nat.le_refl _)]; simp
structure Secs (L : List (Int × Int × Int)) (k : Nat) : Prop where
 one : ∀ i, i < (sec L k).length → 1 ≤ ((sec L k).getD i (0, 0)).2 ∧ ((sec L k).getD i (0, 0)).2 + 2 ≤ ((ub true L 0 + 1 : Nat) : Int)
 two : ∀ i, 0 < i → i < (sec L k).length → ((sec L k).getD i (0, 0)).2 + 2 ≤ ((sec L k).getD (i - 1) (0, 0)).2 ∧ ((sec L k).getD (i - 1) (0, 0)).1 < ((sec L k).getD i (0, 0)).1
 none : sec L k = [] → ∀ p, p < k → (at_ L p).1 ≠ 23
 last : sec L k ≠ [] → ∃ p, p < k ∧ (at_ L p).1 = 23 ∧ (sec L k).getD ((sec L k).length - 1) (0, 0) = ((at_ L p).2.1, ((ub true L (p + 1) + 1 : Nat) : Int)) ∧ ∀ q, p < q → q < k → (at_ L q).1 ≠ 23
theorem secs_all {L : List (Int × Int × Int)} (h : cE true L = 0) : ∀ k, k ≤ L.length → Secs L k
 | 0, _ => ⟨fun i hi => by simp [sec] at hi, fun i _ hi => by simp [sec] at hi, fun _ p hp => by omega, fun h => by simp [sec] at h⟩
 | k + 1, hk => by
  obtain ⟨hr, hW⟩ := cE_zero h
  obtain ⟨hl, ht⟩ := rE_zero hr
  obtain ⟨hw, hbs⟩ := lE_zero hl
  have hs := (mE_zero (wE_zero hw).1).2
  have ih := secs_all h k (by omega)
  by_cases e : (at_ L k).1 = 23
  ·have hbd : bd L k = false := by
    cases hv : bd L k
    ·rfl
    ·have := bds_iff.2 ⟨k, hk, hv⟩
     rw [this] at hbs; cases hbs
   rw [show bd L k = (unl L k || (ovr L (sk L k) (at_ L k).2.1 || inl L (sk L k))) from by unfold bd; rw [if_pos e], Bool.or_eq_false_iff, Bool.or_eq_false_iff] at hbd
   obtain ⟨b1, b2, b3⟩ := hbd
   have hlock : ∀ t, t ∈ sk L k → (at_ L t).1 = 23 := by
    intro t htm
    have h1 := sk_open htm
    unfold inl at b3
    rw [List.any_eq_false] at b3
    have h2 := b3 t htm
    unfold opn at h1; simp at h1 h2; omega
   have hub := ub_first hw ht k (by omega)
   rw [ub_lock true e] at hub
   have hub0 : ∀ t, t < L.length → hm L t = -1 → ub true L t ≤ ub true L 0 := fun t h1 h2 => by
    have := ub_first hw ht t h1
    unfold frst_ at this; rw [h2] at this; exact this
   have hS : sec L (k + 1) = sec L k ++ [((at_ L k).2.1, ((cut (ub true L (k + 1)) + 1 : Nat) : Int))] := by rw [sec_succ, if_pos e]
   by_cases hne : sec L k = []
   ·have hno := ih.none hne
    have hnil : sk L k = [] := by
     cases hc : sk L k with
     | nil => rfl
     | cons t s =>
      have htm : t ∈ sk L k := by rw [hc]; simp
      exact absurd (hlock t htm) (hno t (sk_lt htm))
    have hf : frst_ L k = 0 := by unfold frst_; rw [hm_nil hnil]; rfl
    rw [hf] at hub
    have hcut : cut (ub true L (k + 1)) = ub true L (k + 1) := by unfold cut cap; omega
    rw [hne, hcut] at hS
    have hlen : (sec L (k + 1)).length = 1 := by rw [hS]; rfl
    refine ⟨fun i hi => ?_, fun i h0 hi => by omega, fun h => by rw [hS] at h; simp at h, fun _ => ⟨k, by omega, e, ?_, fun q h1 h2 => by omega⟩⟩
    ·obtain rfl : i = 0 := by omega
     rw [hS]
     show 1 ≤ ((ub true L (k + 1) + 1 : Nat) : Int) ∧ ((ub true L (k + 1) + 1 : Nat) : Int) + 2 ≤ _
     omega
    ·rw [hS]; rfl
   ·obtain ⟨p, p1, p2, p3, p4⟩ := ih.last hne
    have hpm : p ∈ sk L k := locks_open (k := k) (fun i (hi : i < k) => hs.1 i (by omega)) b1 p p1 p2
    have hhm : hm L k = p := by
     cases hc : sk L k with
     | nil => rw [hc] at hpm; simp at hpm
     | cons t s =>
      have htm : t ∈ sk L k := by rw [hc]; simp
      have h1 := hm_max hpm
      rw [hm_cons hc] at h1 ⊢
      have h2 := sk_lt htm
      by_cases h3 : p < t
      ·exact absurd (hlock t htm) (p4 t h3 h2)
      ·omega
    have hf : frst_ L k = p + 1 := by unfold frst_; rw [hhm]; omega
    rw [hf] at hub
    have hlt : 0 < (sec L k).length := by
     cases hc : sec L k with
     | nil => exact absurd hc hne
     | cons x l => simp
    have hone := ih.one ((sec L k).length - 1) (by omega)
    rw [p3] at hone
    simp only at hone
    have hcut : cut (ub true L (k + 1)) = ub true L (k + 1) := by unfold cut cap; omega
    rw [hcut] at hS
    have hlen : (sec L (k + 1)).length = (sec L k).length + 1 := by rw [hS]; simp
    have hat : ∀ i, i < (sec L k).length → (sec L (k + 1)).getD i (0, 0) = (sec L k).getD i (0, 0) := fun i hi => by rw [hS, getD_snoc _ _ _ _ hi]
    have hlast : (sec L (k + 1)).getD (sec L k).length (0, 0) = ((at_ L k).2.1, ((ub true L (k + 1) + 1 : Nat) : Int)) := by rw [hS, getD_last]
    have hblk : (at_ L p).2.1 < (at_ L k).2.1 := by
     unfold ovr at b2
     rw [List.any_eq_false] at b2
     have := b2 p hpm
     simp [p2] at this
     omega
    refine ⟨fun i hi => ?_, fun i h0 hi => ?_, fun h => by rw [hS] at h; simp at h, fun _ => ⟨k, by omega, e, by rw [hlen, Nat.add_sub_cancel, hlast], fun q h1 h2 => by omega⟩⟩
    ·by_cases e2 : i < (sec L k).length
     ·rw [hat i e2]; exact ih.one i e2
     ·obtain rfl : i = (sec L k).length := by omega
      rw [hlast]
      show 1 ≤ ((ub true L (k + 1) + 1 : Nat) : Int) ∧ ((ub true L (k + 1) + 1 : Nat) : Int) + 2 ≤ _
      omega
    ·by_cases e2 : i < (sec L k).length
     ·rw [hat i e2, hat (i - 1) (by omega)]; exact ih.two i h0 e2
     ·obtain rfl : i = (sec L k).length := by omega
      rw [hlast, hat _ (by omega), p3]
      show ((ub true L (k + 1) + 1 : Nat) : Int) + 2 ≤ ((ub true L (p + 1) + 1 : Nat) : Int) ∧ (at_ L p).2.1 < (at_ L k).2.1
      refine ⟨by omega, hblk⟩
  ·have hS : sec L (k + 1) = sec L k := by rw [sec_succ, if_neg e]
   refine ⟨by rw [hS]; exact ih.one, by rw [hS]; exact ih.two, fun h p hp => ?_, fun h => ?_⟩
   ·rw [hS] at h
    by_cases e2 : p = k
    ·rw [e2]; exact e
    ·exact ih.none h p (by omega)
   ·rw [hS] at h ⊢
    obtain ⟨p, p1, p2, p3, p4⟩ := ih.last h
    refine ⟨p, by omega, p2, p3, fun q h1 h2 => ?_⟩
    by_cases e2 : q = k
    ·rw [e2]; exact e
    ·exact p4 q h1 (by omega)
end Go.Proofs.YtngehojibcmieaaGreatDoor
end
end
