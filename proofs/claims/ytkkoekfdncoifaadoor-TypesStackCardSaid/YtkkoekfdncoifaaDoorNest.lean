/- What is proved here: plain facts on regions of rows of instructions: the stack of open regions ahead of each place, the matches, homes and locks that it gives, and how they hang together. Conditions: those each theorem states. -/
import Derived.Test.YtkkoekfdncoifaaDoorOp
namespace Go.Proofs.YtkkoekfdncoifaaDoor

/-- The instruction at a place. -/
def at_ (l : List (Int × Int × Int)) (p : Nat) : Int × Int × Int := l.getD p (0, 0, 0)
def opn (i : Int × Int × Int) : Bool := i.1 == 21 || i.1 == 23
def cls (i : Int × Int × Int) : Bool := i.1 == 22 || i.1 == 24
/-- Does the second one close the region of the first one? -/
def clo (a b : Int × Int × Int) : Bool := (a.1 == 21 && b.1 == 22) || (a.1 == 23 && (b.1 == 24 && a.2.1 == b.2.1))
theorem opn_cls {i : Int × Int × Int} (h : opn i = true) : cls i = false := by
  unfold opn at h; unfold cls; simp at h ⊢; omega
theorem cls_opn {i : Int × Int × Int} (h : cls i = true) : opn i = false := by
  unfold cls at h; unfold opn; simp at h ⊢; omega

/-- The open regions ahead of a place, the last one first. -/
def sk (l : List (Int × Int × Int)) : Nat → List Nat
  | 0 => []
  | k + 1 => if opn (at_ l k) = true then k :: sk l k else if cls (at_ l k) = true then (sk l k).tail else sk l k
/-- Does an instruction, if it closes, close the last region? -/
def gd (l : List (Int × Int × Int)) (k : Nat) : Bool := !cls (at_ l k) || (match sk l k with | [] => false | t :: _ => clo (at_ l t) (at_ l k))
def Good (l : List (Int × Int × Int)) (k : Nat) : Prop := ∀ j, j < k → gd l j = true
/-- The home. -/
def hm (l : List (Int × Int × Int)) (k : Nat) : Int := match sk l k with | [] => -1 | t :: _ => (t : Int)
/-- The match of a place, as told by the first k instructions. -/
def mt (l : List (Int × Int × Int)) : Nat → Nat → Int
  | 0, _ => -1
  | k + 1, p => if cls (at_ l k) = true then (match sk l k with | [] => mt l k p | t :: _ => if p = k then (t : Int) else if p = t then (k : Int) else mt l k p) else mt l k p

theorem sk_opn' {l : List (Int × Int × Int)} {k : Nat} (h : opn (at_ l k) = true) : sk l (k + 1) = k :: sk l k := by simp [sk, h]
theorem sk_cls {l : List (Int × Int × Int)} {k : Nat} (h : cls (at_ l k) = true) : sk l (k + 1) = (sk l k).tail := by simp [sk, h, cls_opn h]
theorem sk_oth {l : List (Int × Int × Int)} {k : Nat} (h : opn (at_ l k) = false) (h2 : cls (at_ l k) = false) : sk l (k + 1) = sk l k := by simp [sk, h, h2]
theorem mt_oth {l : List (Int × Int × Int)} {k p : Nat} (h2 : cls (at_ l k) = false) : mt l (k + 1) p = mt l k p := by simp [mt, h2]
theorem mt_nil {l : List (Int × Int × Int)} {k p : Nat} (h2 : cls (at_ l k) = true) (hs : sk l k = []) : mt l (k + 1) p = mt l k p := by simp [mt, h2, hs]
theorem mt_cons {l : List (Int × Int × Int)} {k p t : Nat} {s : List Nat} (h2 : cls (at_ l k) = true) (hs : sk l k = t :: s) : mt l (k + 1) p = if p = k then (t : Int) else if p = t then (k : Int) else mt l k p := by simp [mt, h2, hs]
theorem hm_nil {l : List (Int × Int × Int)} {k : Nat} (hs : sk l k = []) : hm l k = -1 := by simp [hm, hs]
theorem hm_cons {l : List (Int × Int × Int)} {k t : Nat} {s : List Nat} (hs : sk l k = t :: s) : hm l k = t := by simp [hm, hs]

theorem sk_lt {l : List (Int × Int × Int)} : ∀ {k t : Nat}, t ∈ sk l k → t < k
  | 0, _, h => by simp [sk] at h
  | k + 1, t, h => by
    cases ho : opn (at_ l k)
    · cases hc : cls (at_ l k)
      · rw [sk_oth ho hc] at h; have := sk_lt h; omega
      · rw [sk_cls hc] at h; have := sk_lt (List.mem_of_mem_tail h); omega
    · rw [sk_opn' ho] at h
      rcases List.mem_cons.1 h with h | h
      · omega
      · have := sk_lt h; omega
theorem sk_open {l : List (Int × Int × Int)} : ∀ {k t : Nat}, t ∈ sk l k → opn (at_ l t) = true
  | 0, _, h => by simp [sk] at h
  | k + 1, t, h => by
    cases ho : opn (at_ l k)
    · cases hc : cls (at_ l k)
      · rw [sk_oth ho hc] at h; exact sk_open h
      · rw [sk_cls hc] at h; exact sk_open (List.mem_of_mem_tail h)
    · rw [sk_opn' ho] at h
      rcases List.mem_cons.1 h with h | h
      · rw [h]; exact ho
      · exact sk_open h
/-- Behind the head of a part of the stack lies the stack at that head. -/
theorem sk_chain {l : List (Int × Int × Int)} : ∀ {k t : Nat} {u s : List Nat}, sk l k = u ++ t :: s → s = sk l t
  | 0, _, u, _, h => by cases u <;> simp [sk] at h
  | k + 1, t, u, s, h => by
    cases ho : opn (at_ l k)
    · cases hc : cls (at_ l k)
      · rw [sk_oth ho hc] at h; exact sk_chain h
      · rw [sk_cls hc] at h
        cases hk : sk l k with
        | nil => rw [hk] at h; cases u <;> simp at h
        | cons x r =>
          rw [hk] at h
          exact sk_chain (u := x :: u) (by rw [hk]; simpa using h)
    · rw [sk_opn' ho] at h
      cases u with
      | nil => simp at h; rw [← h.1]; exact h.2.symm
      | cons x u => simp at h; exact sk_chain h.2
theorem sk_head {l : List (Int × Int × Int)} {k t : Nat} {s : List Nat} (h : sk l k = t :: s) : s = sk l t := sk_chain (u := []) h
theorem sk_mem {l : List (Int × Int × Int)} {k t : Nat} (h : t ∈ sk l k) : ∃ u, sk l k = u ++ t :: sk l t := by
  obtain ⟨u, s, e⟩ := List.append_of_mem h
  exact ⟨u, by rw [e, sk_chain e]⟩
theorem sk_trans {l : List (Int × Int × Int)} {k t u : Nat} (h : t ∈ sk l k) (hu : u ∈ sk l t) : u ∈ sk l k := by
  obtain ⟨v, e⟩ := sk_mem h
  rw [e]; simp [hu]
/-- The stack is known by the home. -/
theorem sk_hm {l : List (Int × Int × Int)} {i j : Nat} (h : hm l i = hm l j) : sk l i = sk l j := by
  cases hi : sk l i with
  | nil =>
    cases hj : sk l j with
    | nil => rfl
    | cons t s => rw [hm_nil hi, hm_cons hj] at h; omega
  | cons t s =>
    cases hj : sk l j with
    | nil => rw [hm_cons hi, hm_nil hj] at h; omega
    | cons u r =>
      rw [hm_cons hi, hm_cons hj] at h
      obtain rfl : t = u := by omega
      rw [sk_head hi, sk_head hj]
theorem hm_lt (l : List (Int × Int × Int)) (i : Nat) : -1 ≤ hm l i ∧ hm l i < i := by
  cases hi : sk l i with
  | nil => rw [hm_nil hi]; omega
  | cons t s =>
    have := sk_lt (l := l) (k := i) (t := t) (by rw [hi]; simp)
    rw [hm_cons hi]; omega
/-- The last one of a stack is the greatest. -/
theorem hm_max {l : List (Int × Int × Int)} {i t : Nat} (h : t ∈ sk l i) : (t : Int) ≤ hm l i := by
  cases hi : sk l i with
  | nil => rw [hi] at h; simp at h
  | cons u s =>
    rw [hm_cons hi]
    rw [hi] at h
    rcases List.mem_cons.1 h with h | h
    · omega
    · rw [sk_head hi] at h
      have := sk_lt h; omega

theorem mt_ge {l : List (Int × Int × Int)} : ∀ {k p : Nat}, k ≤ p → mt l k p = -1
  | 0, _, _ => rfl
  | k + 1, p, h => by
    cases hc : cls (at_ l k)
    · rw [mt_oth hc]; exact mt_ge (by omega)
    · cases hs : sk l k with
      | nil => rw [mt_nil hc hs]; exact mt_ge (by omega)
      | cons t s =>
        have := sk_lt (l := l) (k := k) (t := t) (by rw [hs]; simp)
        rw [mt_cons hc hs, if_neg (by omega), if_neg (by omega)]; exact mt_ge (by omega)
/-- An open region is not matched; one that is not open any more is matched behind. -/
theorem mt_mem {l : List (Int × Int × Int)} : ∀ (k : Nat),
    (∀ p, opn (at_ l p) = true → mt l k p = -1 ∨ ((p : Int) < mt l k p ∧ mt l k p < k)) ∧
    ∀ i, i ≤ k → ∀ t, t ∈ sk l i ↔ opn (at_ l t) = true ∧ t < i ∧ (mt l k t = -1 ∨ (i : Int) ≤ mt l k t)
  | 0 => ⟨fun _ _ => Or.inl rfl, fun i hi t => by
      obtain rfl : i = 0 := by omega
      simp [sk]⟩
  | k + 1 => by
    obtain ⟨ihA, ihB⟩ := mt_mem (l := l) k
    have top : ∀ t, t ∈ sk l k → mt l k t = -1 := by
      intro t ht
      have h1 := (ihB k (Nat.le_refl _) t).1 ht
      have h2 := ihA t h1.1
      omega
    cases hc : cls (at_ l k)
    · have hm' : ∀ p, mt l (k + 1) p = mt l k p := fun p => mt_oth hc
      refine ⟨fun p hp => ?_, fun i hi t => ?_⟩
      · rw [hm']; have := ihA p hp; omega
      rw [hm']
      by_cases hik : i ≤ k
      · exact ihB i hik t
      obtain rfl : i = k + 1 := by omega
      cases ho : opn (at_ l k)
      · rw [sk_oth ho hc, ihB k (Nat.le_refl _) t]
        constructor
        · rintro ⟨h1, h2, h3⟩; have := ihA t h1; refine ⟨h1, by omega, ?_⟩; omega
        · rintro ⟨h1, h2, h3⟩
          have := ihA t h1
          have : t ≠ k := by intro e; rw [e, ho] at h1; cases h1
          refine ⟨h1, by omega, ?_⟩; omega
      · rw [sk_opn' ho, List.mem_cons, ihB k (Nat.le_refl _) t]
        have hk := mt_ge (l := l) (Nat.le_refl k)
        constructor
        · rintro (rfl | ⟨h1, h2, h3⟩)
          · exact ⟨ho, by omega, Or.inl hk⟩
          · have := ihA t h1; refine ⟨h1, by omega, ?_⟩; omega
        · rintro ⟨h1, h2, h3⟩
          have := ihA t h1
          by_cases e : t = k
          · exact Or.inl e
          · refine Or.inr ⟨h1, by omega, ?_⟩; omega
    · have hok := cls_opn hc
      cases hs : sk l k with
      | nil =>
        have hm' : ∀ p, mt l (k + 1) p = mt l k p := fun p => mt_nil hc hs
        refine ⟨fun p hp => ?_, fun i hi t => ?_⟩
        · rw [hm']; have := ihA p hp; omega
        rw [hm']
        by_cases hik : i ≤ k
        · exact ihB i hik t
        obtain rfl : i = k + 1 := by omega
        rw [sk_cls hc, hs]
        constructor
        · intro h; simp at h
        · rintro ⟨h1, h2, h3⟩
          have h4 := ihA t h1
          have : t ≠ k := by intro e; rw [e, hok] at h1; cases h1
          have := (ihB k (Nat.le_refl _) t).2 ⟨h1, by omega, by omega⟩
          rw [hs] at this; simp at this
      | cons u s =>
        have hu : u ∈ sk l k := by rw [hs]; simp
        have hul := sk_lt hu
        have hut := top u hu
        have hm' : ∀ p, mt l (k + 1) p = if p = k then (u : Int) else if p = u then (k : Int) else mt l k p := fun p => mt_cons hc hs
        have hm2 : ∀ p, opn (at_ l p) = true → mt l (k + 1) p = if p = u then (k : Int) else mt l k p := by
          intro p hp
          rw [hm', if_neg]
          intro e; rw [e, hok] at hp; cases hp
        refine ⟨fun p hp => ?_, fun i hi t => ?_⟩
        · rw [hm2 p hp]
          have := ihA p hp
          by_cases e : p = u
          · rw [if_pos e]; omega
          · rw [if_neg e]; omega
        by_cases hik : i ≤ k
        · rw [ihB i hik t]
          constructor
          · rintro ⟨h1, h2, h3⟩
            refine ⟨h1, h2, ?_⟩
            rw [hm2 t h1]
            by_cases e : t = u
            · rw [if_pos e]; omega
            · rw [if_neg e]; exact h3
          · rintro ⟨h1, h2, h3⟩
            refine ⟨h1, h2, ?_⟩
            rw [hm2 t h1] at h3
            by_cases e : t = u
            · rw [e]; exact Or.inl hut
            · rw [if_neg e] at h3; exact h3
        obtain rfl : i = k + 1 := by omega
        rw [sk_cls hc, hs, List.tail_cons]
        have hin := ihB k (Nat.le_refl _) t
        rw [hs, List.mem_cons] at hin
        have hsu := sk_head hs
        constructor
        · intro h
          have h4 := hin.1 (Or.inr h)
          have h5 := ihA t h4.1
          have : t ≠ u := by
            intro e; rw [hsu, e] at h; have := sk_lt h; omega
          refine ⟨h4.1, by omega, ?_⟩
          rw [hm2 t h4.1, if_neg this]; omega
        · rintro ⟨h1, h2, h3⟩
          have h5 := ihA t h1
          have h6 : t ≠ k := by intro e; rw [e, hok] at h1; cases h1
          rw [hm2 t h1] at h3
          have h7 : t ≠ u := by intro e; rw [if_pos e] at h3; omega
          rw [if_neg h7] at h3
          exact (hin.2 ⟨h1, by omega, by omega⟩).resolve_left h7
theorem mt_top {l : List (Int × Int × Int)} {k t : Nat} (h : t ∈ sk l k) : mt l k t = -1 := by
  have h1 := ((mt_mem (l := l) k).2 k (Nat.le_refl _) t).1 h
  have h2 := (mt_mem (l := l) k).1 t h1.1
  omega
/-- What closes is matched with what it closes. -/
theorem mt_cls {l : List (Int × Int × Int)} : ∀ {k p : Nat}, Good l k → p < k → cls (at_ l p) = true →
    ∃ t : Nat, sk l p = t :: sk l t ∧ t < p ∧ mt l k p = t ∧ mt l k t = p ∧ clo (at_ l t) (at_ l p) = true
  | 0, _, _, h, _ => by omega
  | k + 1, p, hg, h, hp => by
    by_cases e : p = k
    · subst e
      have h1 := hg p (by omega)
      unfold gd at h1
      cases hs : sk l p with
      | nil => rw [hs, hp] at h1; simp at h1
      | cons t s =>
        have ht : t ∈ sk l p := by rw [hs]; simp
        have hl := sk_lt ht
        rw [hs, hp] at h1
        refine ⟨t, by rw [sk_head hs], hl, ?_, ?_, by simpa using h1⟩
        · rw [mt_cons hp hs, if_pos rfl]
        · rw [mt_cons hp hs, if_neg (by omega), if_pos rfl]
    · obtain ⟨t, h1, h2, h3, h4, h5⟩ := mt_cls (l := l) (k := k) (p := p) (fun j hj => hg j (by omega)) (by omega) hp
      refine ⟨t, h1, h2, ?_, ?_, h5⟩
      · cases hc : cls (at_ l k)
        · rw [mt_oth hc]; exact h3
        · cases hs : sk l k with
          | nil => rw [mt_nil hc hs]; exact h3
          | cons u s =>
            rw [mt_cons hc hs, if_neg e, if_neg]
            · exact h3
            · intro e2
              have := sk_open (l := l) (k := k) (t := u) (by rw [hs]; simp)
              rw [← e2, cls_opn hp] at this; cases this
      · cases hc : cls (at_ l k)
        · rw [mt_oth hc]; exact h4
        · cases hs : sk l k with
          | nil => rw [mt_nil hc hs]; exact h4
          | cons u s =>
            rw [mt_cons hc hs, if_neg (by omega), if_neg]
            · exact h4
            · intro e2
              have := mt_top (l := l) (k := k) (t := u) (by rw [hs]; simp)
              rw [← e2] at this; omega
theorem mt_opn {l : List (Int × Int × Int)} : ∀ {k p : Nat}, opn (at_ l p) = true → mt l k p ≠ -1 →
    ∃ c : Nat, mt l k p = c ∧ p < c ∧ c < k ∧ cls (at_ l c) = true ∧ sk l c = p :: sk l p ∧ mt l k c = p
  | 0, _, _, h => absurd rfl h
  | k + 1, p, hp, h => by
    cases hc : cls (at_ l k)
    · rw [mt_oth hc] at h
      obtain ⟨c, h1, h2, h3, h4, h5, h6⟩ := mt_opn hp h
      exact ⟨c, by rw [mt_oth hc]; exact h1, h2, by omega, h4, h5, by rw [mt_oth hc]; exact h6⟩
    · cases hs : sk l k with
      | nil =>
        rw [mt_nil hc hs] at h
        obtain ⟨c, h1, h2, h3, h4, h5, h6⟩ := mt_opn hp h
        exact ⟨c, by rw [mt_nil hc hs]; exact h1, h2, by omega, h4, h5, by rw [mt_nil hc hs]; exact h6⟩
      | cons u s =>
        have hu : u ∈ sk l k := by rw [hs]; simp
        have hul := sk_lt hu
        have hpk : p ≠ k := by intro e; rw [e, cls_opn hc] at hp; cases hp
        rw [mt_cons hc hs, if_neg hpk] at h
        by_cases e : p = u
        · subst e
          refine ⟨k, by rw [mt_cons hc hs, if_neg hpk, if_pos rfl], hul, by omega, hc, by rw [hs, sk_head hs], by rw [mt_cons hc hs, if_pos rfl]⟩
        · rw [if_neg e] at h
          obtain ⟨c, h1, h2, h3, h4, h5, h6⟩ := mt_opn hp h
          refine ⟨c, by rw [mt_cons hc hs, if_neg hpk, if_neg e]; exact h1, h2, by omega, h4, h5, ?_⟩
          rw [mt_cons hc hs, if_neg (by omega), if_neg]
          · exact h6
          · intro e2
            have := sk_open hu
            rw [← e2, cls_opn h4] at this; cases this
theorem mt_else {l : List (Int × Int × Int)} : ∀ {k p : Nat}, opn (at_ l p) = false → cls (at_ l p) = false → mt l k p = -1
  | 0, _, _, _ => rfl
  | k + 1, p, h1, h2 => by
    cases hc : cls (at_ l k)
    · rw [mt_oth hc]; exact mt_else h1 h2
    · cases hs : sk l k with
      | nil => rw [mt_nil hc hs]; exact mt_else h1 h2
      | cons u s =>
        rw [mt_cons hc hs, if_neg, if_neg]
        · exact mt_else h1 h2
        · intro e
          have := sk_open (l := l) (k := k) (t := u) (by rw [hs]; simp)
          rw [← e, h1] at this; cases this
        · intro e; rw [e, hc] at h2; cases h2

/-- A row whose regions stand in one another. -/
def Sound (l : List (Int × Int × Int)) : Prop := Good l l.length ∧ sk l l.length = []
theorem at_len {l : List (Int × Int × Int)} {p : Nat} (h : l.length ≤ p) : at_ l p = (0, 0, 0) := by
  unfold at_; rw [List.getD_eq_getElem?_getD, List.getElem?_eq_none h]; rfl
theorem opn_len {l : List (Int × Int × Int)} {p : Nat} (h : opn (at_ l p) = true) : p < l.length := by
  by_cases e : p < l.length
  · exact e
  · rw [at_len (by omega)] at h; simp [opn] at h
theorem cls_len {l : List (Int × Int × Int)} {p : Nat} (h : cls (at_ l p) = true) : p < l.length := by
  by_cases e : p < l.length
  · exact e
  · rw [at_len (by omega)] at h; simp [cls] at h
theorem Sound.opn {l : List (Int × Int × Int)} (h : Sound l) {p : Nat} (hp : opn (at_ l p) = true) :
    ∃ c : Nat, mt l l.length p = c ∧ p < c ∧ c < l.length ∧ cls (at_ l c) = true ∧ sk l c = p :: sk l p ∧ mt l l.length c = p := by
  refine mt_opn hp ?_
  intro e
  have := ((mt_mem (l := l) l.length).2 l.length (Nat.le_refl _) p).2 ⟨hp, opn_len hp, Or.inl e⟩
  rw [h.2] at this; simp at this
theorem Sound.cls {l : List (Int × Int × Int)} (h : Sound l) {p : Nat} (hp : cls (at_ l p) = true) :
    ∃ t : Nat, sk l p = t :: sk l t ∧ t < p ∧ mt l l.length p = t ∧ mt l l.length t = p ∧ clo (at_ l t) (at_ l p) = true := mt_cls h.1 (cls_len hp) hp
theorem Sound.within {l : List (Int × Int × Int)} (h : Sound l) {k i : Nat} (hi : i ≤ l.length) : k ∈ sk l i ↔ k < i ∧ (i : Int) ≤ mt l l.length k := by
  rw [(mt_mem (l := l) l.length).2 i hi k]
  constructor
  · rintro ⟨h1, h2, h3⟩
    obtain ⟨c, h4, h5, _⟩ := h.opn h1
    refine ⟨h2, ?_⟩; omega
  · rintro ⟨h1, h2⟩
    refine ⟨?_, h1, Or.inr h2⟩
    cases ho : Go.Proofs.YtkkoekfdncoifaaDoor.opn (at_ l k)
    · cases hc : Go.Proofs.YtkkoekfdncoifaaDoor.cls (at_ l k)
      · rw [mt_else ho hc] at h2; omega
      · obtain ⟨t, _, h5, h6, _⟩ := h.cls hc
        omega
    · rfl
end Go.Proofs.YtkkoekfdncoifaaDoor
