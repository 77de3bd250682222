/- What is proved here: plain facts: one round more of a loop. Conditions: those each theorem states. -/
import Derived.Test.YtacgnofmccennaaDoorCq
import Derived.Test.YtacgnofmccennaaDoorGk
namespace Go.Proofs.YtacgnofmccennaaDoor
open Go.ChangeShapes Go.WideShapes Go.RowKit

theorem sk_ops {M N : List (Int × Int × Int)} (h : ∀ j, (at_ M j).1 = (at_ N j).1) : ∀ k, sk M k = sk N k
  | 0 => rfl
  | k + 1 => by
    have e1 : opn (at_ M k) = opn (at_ N k) := by unfold opn; rw [h k]
    have e2 : cls (at_ M k) = cls (at_ N k) := by unfold cls; rw [h k]
    rw [sk, sk, e1, e2, sk_ops h k]
theorem mt_ops {M N : List (Int × Int × Int)} (h : ∀ j, (at_ M j).1 = (at_ N j).1) : ∀ k p, mt M k p = mt N k p
  | 0, _ => rfl
  | k + 1, p => by
    have e2 : cls (at_ M k) = cls (at_ N k) := by unfold cls; rw [h k]
    rw [mt, mt, e2, sk_ops h k, mt_ops h k]
/-- Two rows that differ at most in the number of one loop. -/
structure Alk (M N : List (Int × Int × Int)) (k : Nat) : Prop where
  len : M.length = N.length
  lt : k < M.length
  one : (at_ M k).1 = 21
  two : (at_ N k).1 = 21
  oth : ∀ j, j ≠ k → at_ M j = at_ N j
section
variable {M N : List (Int × Int × Int)} {k : Nat}
theorem Alk.ops (h : Alk M N k) (j : Nat) : (at_ M j).1 = (at_ N j).1 := by
  by_cases e : j = k
  · rw [e, h.one, h.two]
  · rw [h.oth j e]
theorem Alk.nb (h : Alk M N k) (p : Nat) : nb M p = nb N p := by
  unfold Go.Proofs.YtacgnofmccennaaDoor.nb; rw [h.len, mt_ops h.ops]
theorem Alk.wv (h : Alk M N k) {m : Bool} {g : Nat → Nat} {p : Nat} (hp : p ≠ k) : wv m M g p = wv m N g p := by
  unfold Go.Proofs.YtacgnofmccennaaDoor.wv led
  rw [h.oth p hp, h.nb p]
theorem wv_mono {m : Bool} {g g' : Nat → Nat} {p : Nat} (h : ∀ q, p < q → g q ≤ g' q) : wv m M g p ≤ wv m M g' p := by
  have h1 := h (p + 1) (by omega)
  have h2 := h (nb M p) (nb_gt M p)
  have h3 := h (led M p) (led_gt M p)
  unfold wv
  split
  · exact Nat.le_refl _
  · split
    · have := Nat.mul_le_mul (Nat.le_refl (at_ M p).2.1.toNat) (Nat.succ_le_succ h1)
      simp only [Nat.succ_eq_add_one] at this
      omega
    · split
      · omega
      · split
        · omega
        · split
          · have := of_mono (m := m) h1 h3; omega
          · omega
theorem Alk.after (h : Alk M N k) (m : Bool) : ∀ p, k < p → ub m M p = ub m N p := by
  refine down (n := M.length) (P := fun p => k < p → ub m M p = ub m N p) (fun p hp ih hk => ?_) (fun p hp _ => by rw [ub_over hp, ub_over (by rw [← h.len]; exact hp)])
  rw [ub_eq m hp, ub_eq m (by rw [← h.len]; exact hp), h.wv (by omega)]
  exact wv_congr fun q hq => ih q hq (by omega)
theorem Alk.mono (h : Alk M N k) (hA : (at_ M k).2.1 ≤ (at_ N k).2.1) (m : Bool) : ∀ p, ub m M p ≤ ub m N p := by
  refine down (n := M.length) (fun p hp ih => ?_) (fun p hp => by rw [ub_over hp]; omega)
  by_cases e : p = k
  · subst e
    rw [ub_loop m h.one, ub_loop m h.two, h.nb p, h.after m (p + 1) (by omega), h.after m _ (nb_gt N p)]
    have := Nat.mul_le_mul (show (at_ M p).2.1.toNat ≤ (at_ N p).2.1.toNat by omega) (Nat.le_refl (ub m N (p + 1) + 1))
    omega
  · rw [ub_eq m hp, ub_eq m (by rw [← h.len]; exact hp), h.wv e]
    exact wv_mono ih
theorem wv_lin {m : Bool} (hs : strt M = true) {g0 g1 g2 : Nat → Nat} {p : Nat} (h : ∀ q, p < q → g0 q + g2 q = 2 * g1 q) (hn : (at_ M p).1 ≠ 22 ∧ (at_ M p).1 ≠ 24 ∧ (at_ M p).1 ≠ 25) : wv m M g0 p + wv m M g2 p = 2 * wv m M g1 p := by
  have h1 := h (p + 1) (by omega)
  have h2 := h (nb M p) (nb_gt M p)
  have h3 := h (led M p) (led_gt M p)
  have n1 : ¬ ((at_ M p).1 = 22 ∨ (at_ M p).1 = 24 ∨ (at_ M p).1 = 25) := by omega
  unfold wv
  simp only [if_neg n1]
  by_cases c1 : (at_ M p).1 = 21
  · simp only [if_pos c1]
    have e0 : (at_ M p).2.1.toNat * (g0 (p + 1) + 1) + (at_ M p).2.1.toNat * (g2 (p + 1) + 1) = 2 * ((at_ M p).2.1.toNat * (g1 (p + 1) + 1)) := by
      rw [← Nat.mul_add, Nat.mul_left_comm 2, show g0 (p + 1) + 1 + (g2 (p + 1) + 1) = 2 * (g1 (p + 1) + 1) by omega]
    omega
  · simp only [if_neg c1]
    by_cases c2 : (at_ M p).1 = 23
    · simp only [if_pos c2]; omega
    · simp only [if_neg c2]
      by_cases c3 : (at_ M p).1 = 19
      · simp only [if_pos c3]; omega
      · simp only [if_neg c3]
        by_cases c4 : (at_ M p).1 = 20
        · simp only [if_pos c4]
          rw [strt_led hs (Or.inr c4), of_same, of_same, of_same]; omega
        · simp only [if_neg c4]; omega
end
section
variable {L M N : List (Int × Int × Int)} {k : Nat}
theorem ub_lin (h1 : Alk L M k) (h2 : Alk L N k) (hs : strt L = true) {a : Nat} (e0 : (at_ L k).2.1 = a) (e1 : (at_ M k).2.1 = (a : Int) + 1) (e2 : (at_ N k).2.1 = (a : Int) + 2) (m : Bool) :
    ∀ p, ub m L p + ub m N p = 2 * ub m M p := by
  refine down (n := L.length) (fun p hp ih => ?_) (fun p hp => by rw [ub_over hp, ub_over (by rw [← h2.len]; exact hp), ub_over (by rw [← h1.len]; exact hp)])
  by_cases e : p = k
  · subst e
    rw [ub_loop m h1.one, ub_loop m h1.two, ub_loop m h2.two, ← h1.nb p, ← h2.nb p, ← h1.after m (p + 1) (by omega), ← h2.after m (p + 1) (by omega), ← h1.after m _ (nb_gt L p), ← h2.after m _ (nb_gt L p), e0, e1, e2]
    rw [show ((a : Int)).toNat = a by omega, show ((a : Int) + 1).toNat = a + 1 by omega, show ((a : Int) + 2).toNat = a + 2 by omega]
    rw [Nat.add_mul, Nat.add_mul]
    omega
  · rw [ub_eq m hp, ub_eq m (by rw [← h2.len]; exact hp), ub_eq m (by rw [← h1.len]; exact hp), ← h1.wv e, ← h2.wv e]
    by_cases hst : (at_ L p).1 = 22 ∨ (at_ L p).1 = 24 ∨ (at_ L p).1 = 25
    · unfold wv; rw [if_pos hst, if_pos hst, if_pos hst]
    · exact wv_lin hs ih (by omega)
theorem strt_alk (h : Alk L M k) (hs : strt L = true) : strt M = true := by
  unfold strt
  rw [Bool.not_eq_true', List.any_eq_false]
  intro x hx
  obtain ⟨p, hp, e⟩ := List.getElem_of_mem hx
  have he : at_ M p = x := by unfold at_; rw [List.getD_eq_getElem?_getD, List.getElem?_eq_getElem hp]; exact e
  rw [← he]
  by_cases ek : p = k
  · rw [ek]; unfold lv; rw [h.two]; simp
  · rw [← h.oth p ek, strt_at hs p]; simp
/-- What the law asks of the three. -/
theorem rounds_facts (h1 : Alk L M k) (h2 : Alk L N k) {a : Nat} (e0 : (at_ L k).2.1 = a) (e1 : (at_ M k).2.1 = (a : Int) + 1) (e2 : (at_ N k).2.1 = (a : Int) + 2)
    (z0 : cE false L = 0) (z1 : cE false M = 0) (z2 : cE false N = 0) (z3 : cE true L = 0) (z4 : cE true M = 0) :
    cW false L ≤ cW false M ∧ cW false M ≤ cW false N ∧ cW true L ≤ cW true M ∧ (strt L = true → cW false M - cW false L = cW false N - cW false M ∧ cW true M - cW true L = cW false M - cW false L) ∧
    0 ≤ cW false L ∧ cW false N ≤ 1048576 ∧ 0 ≤ cW true L ∧ cW true M ≤ 1048576 := by
  have q1 := (cE_zero z2).2
  have q2 := (cE_zero z4).2
  have h3 : Alk M N k := ⟨h1.len.symm.trans h2.len, by rw [← h1.len]; exact h1.lt, h1.two, h2.two, fun j hj => (h1.oth j hj).symm.trans (h2.oth j hj)⟩
  have m1 := h1.mono (by omega) false 0
  have m2 := h3.mono (by omega) false 0
  have m3 := h1.mono (by omega) true 0
  unfold cW
  rw [if_pos z0, if_pos z1, if_pos z2, if_pos z3, if_pos z4]
  refine ⟨by omega, by omega, by omega, fun hs => ?_, by omega, by omega, by omega, by omega⟩
  have l1 := ub_lin h1 h2 hs e0 e1 e2 false 0
  have l2 := ub_strt hs 0
  have l3 := ub_strt (strt_alk h1 hs) 0
  omega
theorem alk_set {x y : Int} {k : Nat} (hk : k < L.length) (h : at_ L k = (21, x, y)) (x' : Int) : Alk L (L.set k (21, x', y)) k ∧ (at_ (L.set k (21, x', y)) k).2.1 = x' := by
  have e : at_ (L.set k (21, x', y)) k = (21, x', y) := by unfold at_; rw [List.getD_eq_getElem?_getD, List.getElem?_set_self hk]; rfl
  refine ⟨⟨by rw [List.length_set], hk, by rw [h], by rw [e], fun j hj => ?_⟩, by rw [e]⟩
  unfold at_
  rw [List.getD_eq_getElem?_getD, List.getD_eq_getElem?_getD, List.getElem?_set_ne (Ne.symm hj)]
end
/-- A number of one instruction of an own row is laid anew. -/
theorem own_set {w : World} {base g n cap k : Nat} {L : List (Int × Int × Int)} {o x y : Int} (h : w.ownsRow base 37 3 (.slice (some ⟨g, 0, none⟩) n cap) n (cellsI L)) (hk : L[k]? = some (o, x, y)) (x' : Int) :
    w.cell? ⟨g, k * 3 + 1, none⟩ = some (.int .i64 x) ∧ w.frozen? ⟨g, k * 3 + 1, none⟩ = false ∧ g < w.heap.size ∧ base ≤ g ∧ n ≤ cap ∧ k < n ∧
    RowI (w.setCell ⟨g, k * 3 + 1, none⟩ (.int .i64 x')) (some ⟨g, 0, none⟩) n (L.set k (o, x', y)) := by
  have hml : n = L.length := by have := h.1; rw [cellsI_length] at this; omega
  have hkl : k < L.length := (List.getElem?_eq_some_iff.1 hk).1
  have hlt := h.lt g rfl
  rcases h.2 with ⟨e, _⟩ | ⟨g', cap', cur, e, hb, hblk, h3, h4, h5, h6⟩
  · cases e
  · cases e
    have hr : w.rowIs g 37 cur.size (fun j => cur.getD j undef) := ⟨cur, hblk, rfl, fun i hi => by simp [hi]⟩
    have hcz : n * 3 ≤ cur.size := by rw [h5]; exact Nat.mul_le_mul h3 (Nat.le_refl 3)
    obtain ⟨a, c, ev, hR⟩ := RowI.own h
    cases ev
    obtain ⟨b, off, ea, _, hcs⟩ := hR.2 (by omega)
    cases ea
    have hxk : L.getD k (0, 0, 0) = (o, x, y) := by rw [List.getD_eq_getElem?_getD, hk]; rfl
    obtain ⟨c1, c2, c3⟩ := hcs k (by omega)
    rw [hxk] at c2
    rw [Nat.zero_add] at c2
    refine ⟨c2, hr.frozen _, hlt.2, hlt.1, h3, by omega, by rw [List.length_set]; exact hml, fun _ => ⟨g, 0, rfl, by simpa [World.setCell] using hlt.2, fun i hi => ?_⟩⟩
    have hs := hr.set (k * 3 + 1) (.int .i64 x')
    obtain ⟨d1, d2, d3⟩ := hcs i hi
    rw [Nat.zero_add] at d1 d2 d3
    have g1 := hr.cell (i := i * 3) (by omega)
    have g2 := hr.cell (i := i * 3 + 1) (by omega)
    have g3 := hr.cell (i := i * 3 + 2) (by omega)
    have s1 := hs.cell (i := i * 3) (by omega)
    have s2 := hs.cell (i := i * 3 + 1) (by omega)
    have s3 := hs.cell (i := i * 3 + 2) (by omega)
    rw [if_neg (by omega), ← g1, d1] at s1
    rw [if_neg (by omega), ← g3, d3] at s3
    have el : (L.set k (o, x', y)).getD i (0, 0, 0) = if i = k then (o, x', y) else L.getD i (0, 0, 0) := by
      rw [List.getD_eq_getElem?_getD, List.getD_eq_getElem?_getD]
      by_cases e : i = k
      · rw [if_pos e, e, List.getElem?_set_self hkl]; rfl
      · rw [if_neg e, List.getElem?_set_ne (Ne.symm e)]
    rw [Nat.zero_add, el]
    by_cases e : i = k
    · subst e
      rw [if_pos rfl] at s2 ⊢
      rw [hxk] at s1 s3
      exact ⟨s1, s2, s3⟩
    · rw [if_neg e]
      rw [if_neg (by omega), ← g2, d2] at s2
      exact ⟨s1, s2, s3⟩
end Go.Proofs.YtacgnofmccennaaDoor
