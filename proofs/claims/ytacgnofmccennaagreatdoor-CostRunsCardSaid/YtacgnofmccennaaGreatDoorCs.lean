/- What is proved here: plain facts on the steps of ways through rows of instructions. Conditions: those each theorem states. -/
import Derived.Test.YtacgnofmccennaaGreatDoorNest4
namespace Go.Proofs.YtacgnofmccennaaGreatDoor

/-- All numbers of steps that are refused stand at this one. -/
def cap : Nat := 1048577
/-- The better one of two. -/
def of_ (m : Bool) (x y : Nat) : Nat := if m = true then max x y else min x y
/-- The place behind a region. -/
def nb (L : List (Int × Int × Int)) (p : Nat) : Nat := max p (mt L L.length p).toNat + 1
/-- The steps from a place, by those of the places behind. -/
def wv (m : Bool) (L : List (Int × Int × Int)) (g : Nat → Nat) (p : Nat) : Nat :=
  if (at_ L p).1 = 22 ∨ (at_ L p).1 = 24 ∨ (at_ L p).1 = 25 then 0
  else if (at_ L p).1 = 21 then 1 + (at_ L p).2.1.toNat * (g (p + 1) + 1) + g (nb L p)
  else if (at_ L p).1 = 23 then 1 + (g (p + 1) + 1) + g (nb L p)
  else if (at_ L p).1 = 19 then 1 + g (led L p)
  else if (at_ L p).1 = 20 then 1 + of_ m (g (p + 1)) (g (led L p))
  else 1 + g (p + 1)
def uf (m : Bool) (L : List (Int × Int × Int)) : Nat → Nat → Nat
  | 0, _ => 0
  | f + 1, p => if p < L.length then wv m L (uf m L f) p else 0
/-- The steps of the better way from a place to the end of its region. -/
def ub (m : Bool) (L : List (Int × Int × Int)) (p : Nat) : Nat := uf m L L.length p

theorem led_gt (L : List (Int × Int × Int)) (p : Nat) : p < led L p := by unfold led; omega
theorem nb_gt (L : List (Int × Int × Int)) (p : Nat) : p < nb L p := by unfold nb; omega
theorem wv_congr {m : Bool} {L : List (Int × Int × Int)} {g g' : Nat → Nat} {p : Nat} (h : ∀ q, p < q → g q = g' q) : wv m L g p = wv m L g' p := by
  unfold wv
  rw [h (p + 1) (by omega), h (nb L p) (nb_gt L p), h (led L p) (led_gt L p)]
theorem uf_stable {m : Bool} {L : List (Int × Int × Int)} : ∀ (f f' p : Nat), L.length - p ≤ f → L.length - p ≤ f' → uf m L f p = uf m L f' p
  | 0, 0, _, _, _ => rfl
  | 0, f' + 1, p, h, _ => by
    have e : ¬ p < L.length := by omega
    rw [uf, uf, if_neg e]
  | f + 1, 0, p, _, h => by
    have e : ¬ p < L.length := by omega
    rw [uf, uf, if_neg e]
  | f + 1, f' + 1, p, h, h' => by
    rw [uf, uf]
    by_cases e : p < L.length
    · rw [if_pos e, if_pos e]
      exact wv_congr fun q hq => uf_stable f f' q (by omega) (by omega)
    · rw [if_neg e, if_neg e]
theorem ub_over {m : Bool} {L : List (Int × Int × Int)} {p : Nat} (h : L.length ≤ p) : ub m L p = 0 := by
  unfold ub
  cases hl : L.length with
  | zero => rfl
  | succ f => rw [uf, if_neg (by omega)]
theorem ub_eq (m : Bool) {L : List (Int × Int × Int)} {p : Nat} (h : p < L.length) : ub m L p = wv m L (ub m L) p := by
  have : uf m L L.length p = uf m L (L.length + 1) p := uf_stable _ _ _ (by omega) (by omega)
  show uf m L L.length p = _
  rw [this, uf, if_pos h]
  rfl
theorem ub_stop (m : Bool) {L : List (Int × Int × Int)} {p : Nat} (h : (at_ L p).1 = 22 ∨ (at_ L p).1 = 24 ∨ (at_ L p).1 = 25) : ub m L p = 0 := by
  by_cases e : p < L.length
  · rw [ub_eq m e, wv, if_pos h]
  · exact ub_over (by omega)
theorem op_len {L : List (Int × Int × Int)} {p : Nat} (h : (at_ L p).1 ≠ 0) : p < L.length := by
  by_cases e : p < L.length
  · exact e
  · rw [at_len (by omega)] at h; exact absurd rfl h
theorem ub_loop (m : Bool) {L : List (Int × Int × Int)} {p : Nat} (h : (at_ L p).1 = 21) : ub m L p = 1 + (at_ L p).2.1.toNat * (ub m L (p + 1) + 1) + ub m L (nb L p) := by
  rw [ub_eq m (op_len (by omega)), wv, if_neg (by omega), if_pos h]
theorem ub_lock (m : Bool) {L : List (Int × Int × Int)} {p : Nat} (h : (at_ L p).1 = 23) : ub m L p = 1 + (ub m L (p + 1) + 1) + ub m L (nb L p) := by
  rw [ub_eq m (op_len (by omega)), wv, if_neg (by omega), if_neg (by omega), if_pos h]
theorem ub_jump (m : Bool) {L : List (Int × Int × Int)} {p : Nat} (h : (at_ L p).1 = 19) : ub m L p = 1 + ub m L (led L p) := by
  rw [ub_eq m (op_len (by omega)), wv, if_neg (by omega), if_neg (by omega), if_neg (by omega), if_pos h]
theorem ub_branch (m : Bool) {L : List (Int × Int × Int)} {p : Nat} (h : (at_ L p).1 = 20) : ub m L p = 1 + of_ m (ub m L (p + 1)) (ub m L (led L p)) := by
  rw [ub_eq m (op_len (by omega)), wv, if_neg (by omega), if_neg (by omega), if_neg (by omega), if_neg (by omega), if_pos h]
theorem ub_else (m : Bool) {L : List (Int × Int × Int)} {p : Nat} (hp : p < L.length) (h1 : ¬ ((at_ L p).1 = 22 ∨ (at_ L p).1 = 24 ∨ (at_ L p).1 = 25)) (h2 : (at_ L p).1 ≠ 21) (h3 : (at_ L p).1 ≠ 23) (h4 : (at_ L p).1 ≠ 19) (h5 : (at_ L p).1 ≠ 20) : ub m L p = 1 + ub m L (p + 1) := by
  rw [ub_eq m hp, wv, if_neg h1, if_neg h2, if_neg h3, if_neg h4, if_neg h5]

/-- The same of numbers that are cut off. -/
def cut (n : Nat) : Nat := min cap n
theorem cut_le (n : Nat) : cut n ≤ cap := Nat.min_le_left _ _
theorem cut_cut (n : Nat) : cut (cut n) = cut n := by unfold cut; omega
theorem cut_of (m : Bool) (x y : Nat) : cut (1 + of_ m (cut x) (cut y)) = cut (1 + of_ m x y) := by
  unfold cut of_; cases m <;> simp <;> omega
theorem cut_mul (A x y : Nat) : cut (1 + A * (cut x + 1) + cut y) = cut (1 + A * (x + 1) + y) := by
  by_cases e : x ≤ cap
  · have : cut x = x := by unfold cut; omega
    rw [this]; unfold cut; omega
  · have : cut x = cap := by unfold cut; omega
    rw [this]
    cases A with
    | zero => unfold cut; omega
    | succ A =>
      have h1 : (A + 1) * (cap + 1) = A * (cap + 1) + (cap + 1) := Nat.succ_mul _ _
      have h2 : (A + 1) * (x + 1) = A * (x + 1) + (x + 1) := Nat.succ_mul _ _
      unfold cut; omega
theorem cut_one (x : Nat) : cut (1 + cut x) = cut (1 + x) := by unfold cut; omega
theorem cut_wv (m : Bool) (L : List (Int × Int × Int)) (g : Nat → Nat) (p : Nat) : cut (wv m L (fun q => cut (g q)) p) = cut (wv m L g p) := by
  unfold wv
  split
  · rfl
  · split
    · exact cut_mul _ _ _
    · split
      · have := cut_mul 1 (g (p + 1)) (g (nb L p))
        rw [Nat.one_mul, Nat.one_mul] at this; exact this
      · split
        · exact cut_one _
        · split
          · exact cut_of _ _ _
          · exact cut_one _
theorem wv_small (m : Bool) {L : List (Int × Int × Int)} {g : Nat → Nat} {p : Nat} (hA : (at_ L p).1 = 21 → (at_ L p).2.1 ≤ 1000) (hg : ∀ q, g q ≤ cap) : wv m L g p ≤ 1049627578 := by
  have h1 := hg (p + 1)
  have h2 := hg (nb L p)
  have h3 := hg (led L p)
  unfold wv
  split
  · omega
  · split
    · rename_i _ h
      have h4 : (at_ L p).2.1.toNat * (g (p + 1) + 1) ≤ 1000 * (cap + 1) := Nat.mul_le_mul (by have := hA h; omega) (by omega)
      unfold cap at *; omega
    · unfold cap of_ at *
      split
      · omega
      · split
        · omega
        · split
          · split <;> omega
          · omega

/-- What is wrong with the steps of a row. -/
def cE (m : Bool) (L : List (Int × Int × Int)) : Int := if lE L = 0 then (if tE L = 0 then (if 1048576 < ub m L 0 + 1 then 4 else 0) else tE L) else lE L
/-- What is wrong with a row, but for its steps. -/
def rE (L : List (Int × Int × Int)) : Int := if lE L = 0 then tE L else lE L
theorem cE_eq (m : Bool) (L : List (Int × Int × Int)) : cE m L = if rE L = 0 then (if 1048576 < ub m L 0 + 1 then 4 else 0) else rE L := by
  unfold cE rE
  by_cases h : lE L = 0
  · rw [if_pos h, if_pos h]
  · rw [if_neg h, if_neg h, if_neg h]
/-- The steps of a run, at most or at least. -/
def cW (m : Bool) (L : List (Int × Int × Int)) : Int := if cE m L = 0 then ((ub m L 0 + 1 : Nat) : Int) else 0
/-- How long blocks are locked, of the first k instructions. -/
def sec (L : List (Int × Int × Int)) : Nat → List (Int × Int)
  | 0 => []
  | k + 1 => if (at_ L k).1 = 23 then sec L k ++ [((at_ L k).2.1, ((cut (ub true L (k + 1)) + 1 : Nat) : Int))] else sec L k
def sA (L : List (Int × Int × Int)) : List (Int × Int) := if cE true L = 0 then sec L L.length else []
/-- Is something left out? -/
def lv (i : Int × Int × Int) : Bool := (i.1 == 19 || i.1 == 20) && decide (0 < i.2.1)
/-- Is nothing left out? -/
def strt (L : List (Int × Int × Int)) : Bool := !L.any lv

theorem rE_zero {L : List (Int × Int × Int)} (h : rE L = 0) : lE L = 0 ∧ tE L = 0 := by
  unfold rE at h
  by_cases e : lE L = 0
  · rw [if_pos e] at h; exact ⟨e, h⟩
  · rw [if_neg e] at h; exact absurd h e
theorem rE_of {L : List (Int × Int × Int)} (h : lE L = 0) (h2 : tE L = 0) : rE L = 0 := by unfold rE; rw [if_pos h, h2]
theorem cE_zero {m : Bool} {L : List (Int × Int × Int)} (h : cE m L = 0) : rE L = 0 ∧ ub m L 0 + 1 ≤ 1048576 := by
  rw [cE_eq] at h
  by_cases e : rE L = 0
  · rw [if_pos e] at h
    refine ⟨e, ?_⟩
    split at h
    · omega
    · omega
  · rw [if_neg e] at h; exact absurd h e
theorem cE_of {m : Bool} {L : List (Int × Int × Int)} (h : rE L = 0) (h2 : ub m L 0 + 1 ≤ 1048576) : cE m L = 0 := by
  rw [cE_eq, if_pos h, if_neg (by omega)]
theorem sec_len (L : List (Int × Int × Int)) : ∀ k, (sec L k).length ≤ k
  | 0 => by simp [sec]
  | k + 1 => by
    have := sec_len L k
    rw [sec]
    split
    · simp; omega
    · omega
end Go.Proofs.YtacgnofmccennaaGreatDoor
