/- What is proved here: plain facts on rows of tasks: the sum of a row for a number, when it is too great; that it grows. Conditions: those each theorem states. -/
import Derived.Test.YtiibbeigkopkeaaIt
namespace Go.Proofs.Ytiibbeigkopkeaa

/-- A row. -/
structure RtR where
  (C B T D J P : Int)
  deriving DecidableEq
def rtI (n : Int) : Bool := decide (0 ≤ n) && decide (n < 4611686018427387904)
theorem rtI_iff {n : Int} : rtI n = true ↔ 0 ≤ n ∧ n < 4611686018427387904 := by unfold rtI; simp
/-- Can a row be, can rows be? -/
def okR (r : RtR) : Bool := rtI r.C && (rtI r.B && (rtI r.T && (rtI r.J && (decide (1 ≤ r.C) && (decide (1 ≤ r.T) && (decide (1 ≤ r.D) && (decide (r.D ≤ 1048576) && (decide (1 ≤ r.P) && decide (r.P ≤ 100)))))))))
def rgR (l : List RtR) : Bool := l.all okR && decide (l.length ≤ 8)
theorem okR_parts {r : RtR} (h : okR r = true) : (1 ≤ r.C ∧ r.C < 4611686018427387904) ∧ (0 ≤ r.B ∧ r.B < 4611686018427387904) ∧ (1 ≤ r.T ∧ r.T < 4611686018427387904) ∧ (0 ≤ r.J ∧ r.J < 4611686018427387904) ∧ (1 ≤ r.D ∧ r.D ≤ 1048576) ∧ 1 ≤ r.P ∧ r.P ≤ 100 := by
  unfold okR at h
  simp only [Bool.and_eq_true, decide_eq_true_eq, rtI_iff] at h
  omega
theorem rgR_mem {l : List RtR} (h : rgR l = true) {r : RtR} (hr : r ∈ l) : okR r = true := by
  unfold rgR at h
  simp only [Bool.and_eq_true, List.all_eq_true] at h
  exact h.1 r hr
/-- A quotient that is rounded up. -/
def qt (a b : Int) : Int := if 0 < a % b then a / b + 1 else a / b
theorem qt_spec {a b : Int} (h : 0 < b) : a ≤ qt a b * b ∧ (qt a b - 1) * b < a := by
  have h1 := Int.mul_ediv_add_emod a b
  have h2 := Int.emod_nonneg a (by omega : b ≠ 0)
  have h3 := Int.emod_lt_of_pos a h
  have e : (a / b) * b = b * (a / b) := Int.mul_comm _ _
  unfold qt
  by_cases c : 0 < a % b
  · rw [if_pos c, Int.add_mul, Int.one_mul, show a / b + 1 - 1 = a / b by omega]; omega
  · rw [if_neg c, Int.sub_mul, Int.one_mul]; omega
theorem qt_mono {a a' b : Int} (h : 0 < b) (ha : a ≤ a') : qt a b ≤ qt a' b := by
  have h1 := (qt_spec (a := a) h).2
  have h2 := (qt_spec (a := a') h).1
  have h3 : (qt a b - 1) * b < qt a' b * b := by omega
  have := Int.lt_of_mul_lt_mul_right h3 (Int.le_of_lt h)
  omega
theorem qt_pos {a b : Int} (h : 0 < b) (ha : 0 ≤ a) : 0 ≤ qt a b := by
  unfold qt
  have := Int.ediv_nonneg ha (Int.le_of_lt h)
  split <;> omega
/-- What another row adds, and whether it is too great. -/
def ptK (r : RtR) (w : Int) (s : Bool) : Int := qt (w + r.J) r.T + (if s = true then 1 else 0)
def ptV (r : RtR) (w : Int) (s : Bool) : Int := ptK r w s * r.C
def ptB (r : RtR) (w : Int) (s : Bool) : Bool := decide (4611686018427387904 ≤ w + r.J) || decide (4611686018427387904 ≤ ptV r w s)
theorem ptK_mono {r : RtR} (h : okR r = true) {w w' : Int} (hw : w ≤ w') (s : Bool) : ptK r w s ≤ ptK r w' s := by
  obtain ⟨_, _, h3, _⟩ := okR_parts h
  unfold ptK
  have := qt_mono (by omega : 0 < r.T) (by omega : w + r.J ≤ w' + r.J)
  omega
theorem ptK_pos {r : RtR} (h : okR r = true) {w : Int} (hw : 0 ≤ w) (s : Bool) : 0 ≤ ptK r w s := by
  obtain ⟨_, _, h3, h4, _⟩ := okR_parts h
  unfold ptK
  have := qt_pos (by omega : 0 < r.T) (by omega : 0 ≤ w + r.J)
  split <;> omega
theorem ptV_mono {r : RtR} (h : okR r = true) {w w' : Int} (hw : w ≤ w') (s : Bool) : ptV r w s ≤ ptV r w' s := by
  obtain ⟨h1, _⟩ := okR_parts h
  exact Int.mul_le_mul_of_nonneg_right (ptK_mono h hw s) (by omega)
theorem ptV_pos {r : RtR} (h : okR r = true) {w : Int} (hw : 0 ≤ w) (s : Bool) : 0 ≤ ptV r w s := by
  obtain ⟨h1, _⟩ := okR_parts h
  exact Int.mul_nonneg (ptK_pos h hw s) (by omega)
theorem ptB_mono {r : RtR} (h : okR r = true) {w w' : Int} (hw : w ≤ w') {s : Bool} (hb : ptB r w' s = false) : ptB r w s = false := by
  unfold ptB at hb ⊢
  simp only [Bool.or_eq_false_iff, decide_eq_false_iff_not] at hb ⊢
  have := ptV_mono h hw s
  omega
/-- The other rows that count, each with a word whether it has the same priority; those of the first ones. -/
def cnt (p : Int) (i : Nat) (x : RtR × Nat) : Bool := decide (x.2 ≠ i) && decide (p ≤ x.1.P)
def oth (l : List RtR) (p : Int) (i : Nat) : List RtR := (l.zipIdx.filter (cnt p i)).map (·.1)
def sames (p : Int) (r : RtR) : Bool := decide (r.P = p)
def suV (o : List RtR) (p w : Int) : Int := (o.map fun r => ptV r w (sames p r)).sum
def suB (o : List RtR) (p w : Int) : Bool := o.any fun r => ptB r w (sames p r)
/-- The sum, by what counts. -/
def nxO (r : RtR) (o : List RtR) (w : Int) : Option Int := if suB o r.P w = true ∨ 4611686018427387904 ≤ r.C + r.B + suV o r.P w then none else some (r.C + r.B + suV o r.P w)
theorem oth_mem {l : List RtR} {p : Int} {i : Nat} {r : RtR} (h : r ∈ oth l p i) : r ∈ l ∧ p ≤ r.P := by
  unfold oth at h
  simp only [List.mem_map, List.mem_filter] at h
  obtain ⟨⟨q, k⟩, ⟨h1, h2⟩, rfl⟩ := h
  unfold cnt at h2
  simp only [Bool.and_eq_true, decide_eq_true_eq] at h2
  exact ⟨(List.mem_zipIdx h1).2.2 ▸ List.getElem_mem _, h2.2⟩
theorem suV_mono {o : List RtR} (h : ∀ r ∈ o, okR r = true) (p : Int) {w w' : Int} (hw : w ≤ w') : suV o p w ≤ suV o p w' := by
  induction o with
  | nil => exact Int.le_refl _
  | cons r o ih =>
    have h1 := ptV_mono (h r (List.mem_cons_self ..)) hw (sames p r)
    have h2 := ih fun x hx => h x (List.mem_cons_of_mem _ hx)
    unfold suV at h2 ⊢
    rw [List.map_cons, List.sum_cons, List.map_cons, List.sum_cons]
    omega
theorem suV_pos {o : List RtR} (h : ∀ r ∈ o, okR r = true) (p : Int) {w : Int} (hw : 0 ≤ w) : 0 ≤ suV o p w := by
  induction o with
  | nil => exact Int.le_refl _
  | cons r o ih =>
    have h1 := ptV_pos (h r (List.mem_cons_self ..)) hw (sames p r)
    have h2 := ih fun x hx => h x (List.mem_cons_of_mem _ hx)
    unfold suV at h2 ⊢
    rw [List.map_cons, List.sum_cons]
    omega
theorem suB_mono {o : List RtR} (h : ∀ r ∈ o, okR r = true) (p : Int) {w w' : Int} (hw : w ≤ w') (hb : suB o p w' = false) : suB o p w = false := by
  unfold suB at hb ⊢
  rw [List.any_eq_false] at hb ⊢
  intro r hr
  have := ptB_mono (h r hr) hw (s := sames p r) (by simpa using hb r hr)
  rw [this]; simp
theorem nxO_some {r : RtR} {o : List RtR} {w n : Int} : nxO r o w = some n ↔ suB o r.P w = false ∧ r.C + r.B + suV o r.P w < 4611686018427387904 ∧ n = r.C + r.B + suV o r.P w := by
  unfold nxO
  constructor
  · intro h
    split at h
    · cases h
    · rename_i g
      cases h
      refine ⟨?_, by omega, rfl⟩
      cases e : suB o r.P w
      · rfl
      · exact absurd (Or.inl e) g
  · rintro ⟨h1, h2, rfl⟩
    rw [if_neg (by rw [h1]; simp; omega)]
theorem nxO_grows {r : RtR} {o : List RtR} (hr : okR r = true) (h : ∀ x ∈ o, okR x = true) : Grows (nxO r o) where
  mono a b ha hab y hy := by
    obtain ⟨h1, h2, rfl⟩ := nxO_some.1 hy
    have := suV_mono h r.P hab
    exact ⟨_, nxO_some.2 ⟨suB_mono h r.P hab h1, by omega, rfl⟩, by omega⟩
  pos a x ha hx := by
    obtain ⟨h1, h2, rfl⟩ := nxO_some.1 hx
    have := suV_pos h r.P ha
    obtain ⟨k1, k2, _⟩ := okR_parts hr
    omega
end Go.Proofs.Ytiibbeigkopkeaa
