/- What is proved here: plain facts on responses of rows: other orders, fewer rows, more slots. Conditions: those each theorem states. -/
import Derived.Test.YtiibbeigkopkeaaRs
namespace Go.Proofs.Ytiibbeigkopkeaa

theorem suV_perm {o q : List RtR} (h : o.Perm q) (p w : Int) : suV o p w = suV q p w := by
  induction h with
  | nil => rfl
  | cons a _ ih =>
    unfold suV at ih ⊢
    rw [List.map_cons, List.sum_cons, List.map_cons, List.sum_cons, ih]
  | swap a b l =>
    unfold suV
    simp only [List.map_cons, List.sum_cons]
    omega
  | trans _ _ i1 i2 => rw [i1, i2]
theorem suB_perm {o q : List RtR} (h : o.Perm q) (p w : Int) : suB o p w = suB q p w := by
  unfold suB
  exact h.any_eq
theorem nxO_perm {r : RtR} {o q : List RtR} (h : o.Perm q) : nxO r o = nxO r q := by
  funext w
  unfold nxO
  rw [suV_perm h, suB_perm h]
theorem suV_sub {o q : List RtR} (h : o.Sublist q) (hq : ∀ r ∈ q, okR r = true) (p : Int) {w : Int} (hw : 0 ≤ w) : suV o p w ≤ suV q p w := by
  induction h with
  | slnil => exact Int.le_refl _
  | cons a hs ih =>
    have h1 := ptV_pos (hq a (List.mem_cons_self ..)) hw (sames p a)
    have h2 := ih fun x hx => hq x (List.mem_cons_of_mem _ hx)
    unfold suV at h2 ⊢
    rw [List.map_cons, List.sum_cons]
    omega
  | cons_cons a hs ih =>
    have h2 := ih fun x hx => hq x (List.mem_cons_of_mem _ hx)
    unfold suV at h2 ⊢
    rw [List.map_cons, List.sum_cons, List.map_cons, List.sum_cons]
    omega
theorem suB_sub {o q : List RtR} (h : o.Sublist q) {p w : Int} (hb : suB q p w = false) : suB o p w = false := by
  unfold suB at hb ⊢
  rw [List.any_eq_false] at hb ⊢
  exact fun r hr => hb r (h.subset hr)
/-- Fewer rows: sums are no greater. -/
theorem nxO_fewer {r : RtR} {o q : List RtR} (h : o.Sublist q) (hq : ∀ x ∈ q, okR x = true) : ∀ w, 0 ≤ w → ∀ y, nxO r q w = some y → ∃ x, nxO r o w = some x ∧ x ≤ y := by
  intro w hw y hy
  obtain ⟨h1, h2, rfl⟩ := nxO_some.1 hy
  have := suV_sub h hq r.P hw
  exact ⟨_, nxO_some.2 ⟨suB_sub h h1, by omega, rfl⟩, by omega⟩
/-- One slot more, where there is room. -/
def upR (r : RtR) : RtR := if r.C < 4611686018427387903 then { r with C := r.C + 1 } else r
theorem upR_ok {r : RtR} (h : okR r = true) : okR (upR r) = true ∧ (upR r).P = r.P ∧ (upR r).B = r.B ∧ (upR r).T = r.T ∧ (upR r).J = r.J ∧ (upR r).D = r.D ∧ r.C ≤ (upR r).C := by
  unfold upR
  split
  · refine ⟨?_, rfl, rfl, rfl, rfl, rfl, by show r.C ≤ r.C + 1; omega⟩
    obtain ⟨h1, h2, h3, h4, h5, h6, h7⟩ := okR_parts h
    unfold okR
    simp only [Bool.and_eq_true, decide_eq_true_eq, rtI_iff]
    omega
  · exact ⟨h, rfl, rfl, rfl, rfl, rfl, Int.le_refl _⟩
theorem ptV_up {r : RtR} (h : okR r = true) {w : Int} (hw : 0 ≤ w) (s : Bool) : ptV r w s ≤ ptV (upR r) w s := by
  obtain ⟨_, _, _, e1, e2, _, e3⟩ := upR_ok h
  have e : ptK (upR r) w s = ptK r w s := by unfold ptK; rw [e1, e2]
  unfold ptV
  rw [e]
  exact Int.mul_le_mul_of_nonneg_left e3 (ptK_pos h hw s)
theorem ptB_up {r : RtR} (h : okR r = true) {w : Int} (hw : 0 ≤ w) {s : Bool} (hb : ptB (upR r) w s = false) : ptB r w s = false := by
  obtain ⟨_, _, _, e1, e2, _⟩ := upR_ok h
  have := ptV_up h hw s
  unfold ptB at hb ⊢
  rw [e2] at hb
  simp only [Bool.or_eq_false_iff, decide_eq_false_iff_not] at hb ⊢
  omega
theorem suV_up {o : List RtR} (h : ∀ r ∈ o, okR r = true) (p : Int) {w : Int} (hw : 0 ≤ w) : suV o p w ≤ suV (o.map upR) p w := by
  induction o with
  | nil => exact Int.le_refl _
  | cons r o ih =>
    have h0 := h r (List.mem_cons_self ..)
    have h1 := ptV_up h0 hw (sames p r)
    have h2 := ih fun x hx => h x (List.mem_cons_of_mem _ hx)
    have h3 : sames p (upR r) = sames p r := by unfold sames; rw [(upR_ok h0).2.1]
    unfold suV at h2 ⊢
    simp only [List.map_cons, List.sum_cons]
    rw [h3]
    omega
theorem suB_up {o : List RtR} (h : ∀ r ∈ o, okR r = true) {p w : Int} (hw : 0 ≤ w) (hb : suB (o.map upR) p w = false) : suB o p w = false := by
  unfold suB at hb ⊢
  rw [List.any_eq_false] at hb ⊢
  intro r hr
  have h0 := h r hr
  have h3 : sames p (upR r) = sames p r := by unfold sames; rw [(upR_ok h0).2.1]
  have h1 := hb (upR r) (List.mem_map_of_mem hr)
  rw [h3] at h1
  have := ptB_up h0 hw (s := sames p r) (by simpa using h1)
  rw [this]; simp
/-- More slots: sums are greater, as far as the row's own slots grow. -/
theorem nxO_up {r : RtR} (hr : okR r = true) {o : List RtR} (h : ∀ x ∈ o, okR x = true) : ∀ w, 0 ≤ w → ∀ y, nxO (upR r) (o.map upR) w = some y → ∃ x, nxO r o w = some x ∧ x + ((upR r).C - r.C) ≤ y := by
  intro w hw y hy
  obtain ⟨h1, h2, rfl⟩ := nxO_some.1 hy
  obtain ⟨_, e1, e2, _, _, _, e3⟩ := upR_ok hr
  rw [e1] at h1 h2 ⊢
  have := suV_up h r.P hw
  exact ⟨_, nxO_some.2 ⟨suB_up h hw h1, by omega, rfl⟩, by omega⟩
/-- With one slot more of each the response is longer. -/
theorem rsp_up {r : RtR} (hr : okR r = true) {o : List RtR} (h : ∀ x ∈ o, okR x = true) {eT v : Int} (heT : eT ≠ 0) (e : rsp (nxO (upR r) (o.map upR)) r.D r.J eT = (v, 0)) :
    ∃ u, rsp (nxO r o) r.D r.J eT = (u, 0) ∧ u < v := by
  have gu : Grows (nxO (upR r) (o.map upR)) := nxO_grows (upR_ok hr).1 fun x hx => by
    obtain ⟨y, hy, rfl⟩ := List.mem_map.1 hx
    exact (upR_ok (h y hy)).1
  obtain ⟨n, e1, e2, e3, e4, e5⟩ := rsp_sound heT gu e
  obtain ⟨x, h1, h2⟩ := nxO_up hr h n e5 n e2
  obtain ⟨k1, _, _, _, k5, _⟩ := okR_parts hr
  have hC : (upR r).C = r.C + 1 := by
    -- the row's own slots are among its sum, at most its deadline
    obtain ⟨_, q2, q3⟩ := nxO_some.1 e2
    have q4 := suV_pos (o := o.map upR) (fun x hx => by
      obtain ⟨y, hy, rfl⟩ := List.mem_map.1 hx
      exact (upR_ok (h y hy)).1) (upR r).P e5
    obtain ⟨_, b1, _⟩ := okR_parts (upR_ok hr).1
    have q5 : (upR r).C ≤ 1048576 := by omega
    unfold upR at q5 ⊢
    split at q5
    · rename_i g; rw [if_pos g]
    · rename_i g; omega
  obtain ⟨q, j1, j2⟩ := rsp_pre (J := r.J) (eT := eT) (nxO_grows hr h) e5 h1 (by omega) e3 e4
  obtain ⟨n', s1, s2, s3, s4, s5⟩ := rsp_sound heT (nxO_grows hr h) j1
  have hq : q = n' := by omega
  subst hq
  obtain ⟨x', t1, t2⟩ := (nxO_grows hr h).mono q n s5 j2 x h1
  rw [s2] at t1
  cases t1
  exact ⟨_, j1, by omega⟩
end Go.Proofs.Ytiibbeigkopkeaa
