/- What is proved here: plain facts: ways forward find the same steps as ways backward. Conditions: those each theorem states. -/
import Derived.Test.YtacgnofmccennaaDoorCz
import Derived.Test.YtacgnofmccennaaDoorW2
namespace Go.Proofs.YtacgnofmccennaaDoor

theorem cut_add2 (x y : Nat) : cut (x + cut y) = cut (x + y) := by unfold cut; omega
theorem cut_add1 (x y : Nat) : cut (cut x + y) = cut (x + y) := by unfold cut; omega
theorem cut_mono {x y : Nat} (h : x ≤ y) : cut x ≤ cut y := by unfold cut; omega
/-- A place is handed a number of steps. -/
def hnd (m : Bool) (F : (Nat → Nat) × (Nat → Bool)) (n x : Nat) : (Nat → Nat) × (Nat → Bool) :=
  if F.2 n = false ∨ (m = true ∧ F.1 n < x) ∨ (m = false ∧ x < F.1 n) then (fun j => if j = n then x else F.1 j, fun j => if j = n then true else F.2 j) else F
def hnds (m : Bool) (F : (Nat → Nat) × (Nat → Bool)) (l : List Nat) (x : Nat) : (Nat → Nat) × (Nat → Bool) := l.foldl (fun F n => hnd m F n x) F
/-- The places that come next, over loops. -/
def nxr (L : List (Int × Int × Int)) (i : Nat) : List Nat :=
  if (at_ L i).1 = 19 then [led L i] else if (at_ L i).1 = 20 then [i + 1, led L i] else if (at_ L i).1 = 21 then [nb L i] else [i + 1]
/-- The steps of an instruction, with its loop. -/
def stp (m : Bool) (L : List (Int × Int × Int)) (i : Nat) : Nat := if (at_ L i).1 = 21 then 1 + (at_ L i).2.1.toNat * (ub m L (i + 1) + 1) else 1
/-- The steps behind the ends of open locks. -/
def rest (m : Bool) (L : List (Int × Int × Int)) : List Nat → Nat
  | [] => 0
  | t :: u => 1 + ub m L (nb L t) + rest m L u
/-- A place whose open regions are those of S0, and locks in these. -/
def Atl (L : List (Int × Int × Int)) (S0 : List Nat) (i : Nat) : Prop := ∃ u, sk L i = u ++ S0 ∧ ∀ t, t ∈ u → (at_ L t).1 = 23
def bv (m : Bool) (L : List (Int × Int × Int)) (S0 : List Nat) (i : Nat) : Nat := ub m L i + rest m L ((sk L i).take ((sk L i).length - S0.length))
theorem bv_of {m : Bool} {L : List (Int × Int × Int)} {S0 u : List Nat} {i : Nat} (h : sk L i = u ++ S0) : bv m L S0 i = ub m L i + rest m L u := by
  unfold bv
  rw [h, List.length_append, Nat.add_sub_cancel, List.take_left']
  rfl
section
variable {m : Bool} {L : List (Int × Int × Int)} {S0 : List Nat} {fr tp : Nat}
/-- A region's end. -/
structure Ends (L : List (Int × Int × Int)) (S0 : List Nat) (fr tp : Nat) : Prop where
  whole : wE L = 0
  le : fr ≤ tp
  lt : tp < L.length
  sfr : sk L fr = S0
  sto : sk L tp = S0
  stop : (at_ L tp).1 = 22 ∨ (at_ L tp).1 = 24 ∨ (at_ L tp).1 = 25
theorem Ends.sound (h : Ends L S0 fr tp) : Sound L := (mE_zero (wE_zero h.whole).1).2
/-- What is behind the end is not in the region. -/
theorem Ends.room (h : Ends L S0 fr tp) {n : Nat} (hn : n < L.length) {u : List Nat} (hk : sk L n = u ++ S0) : n ≤ tp := by
  by_cases e : (at_ L tp).1 = 25
  · have := (ends_iff.1 (wE_zero h.whole).2.1 tp h.lt).1 e
    omega
  · obtain ⟨t, h1, h2, h3, h4, h5⟩ := h.sound.cls (p := tp) (by have := h.stop; unfold cls; simp; omega)
    have : t ∈ sk L n := by rw [hk, ← h.sto, h1]; simp
    have := ((h.sound.within (by omega)).1 this).2
    omega
/-- From each place in a region tp those that come next. -/
theorem Ends.next (h : Ends L S0 fr tp) {i : Nat} (h1 : fr ≤ i) (h2 : i < tp) (ha : Atl L S0 i) :
    (∀ n, n ∈ nxr L i → i < n ∧ n ≤ tp ∧ Atl L S0 n ∧ (m = true → stp m L i + bv m L S0 n ≤ bv m L S0 i) ∧ (m = false → bv m L S0 i ≤ stp m L i + bv m L S0 n)) ∧ ∃ n, n ∈ nxr L i ∧ stp m L i + bv m L S0 n = bv m L S0 i := by
  obtain ⟨u, hu, hl⟩ := ha
  have hil : i < L.length := by have := h.lt; omega
  have hb := bv_of (m := m) hu
  have one : ∀ n (u' : List Nat), nxr L i = [n] → i < n → n < L.length → sk L n = u' ++ S0 → (∀ t, t ∈ u' → (at_ L t).1 = 23) → stp m L i + (ub m L n + rest m L u') = bv m L S0 i → _ := fun n u' e1 e2 e3 e4 e5 e6 => by
    have hbn := bv_of (m := m) e4
    rw [← hbn] at e6
    refine (⟨fun q hq => ?_, n, by rw [e1]; simp, e6⟩ : (∀ n, n ∈ nxr L i → i < n ∧ n ≤ tp ∧ Atl L S0 n ∧ (m = true → stp m L i + bv m L S0 n ≤ bv m L S0 i) ∧ (m = false → bv m L S0 i ≤ stp m L i + bv m L S0 n)) ∧ ∃ n, n ∈ nxr L i ∧ stp m L i + bv m L S0 n = bv m L S0 i)
    rw [e1] at hq
    obtain rfl : q = n := by simpa using hq
    exact ⟨e2, h.room e3 e4, ⟨u', e4, e5⟩, fun _ => by omega, fun _ => by omega⟩
  have h25 : (at_ L i).1 ≠ 25 := op_stop h.whole (by have := h.lt; omega)
  by_cases c19 : (at_ L i).1 = 19
  · have hd := led_hm h.whole hil (Or.inl c19)
    refine one (led L i) u (by unfold nxr; rw [if_pos c19]) (led_gt L i) hd.1 (by rw [sk_hm hd.2, hu]) hl ?_
    rw [hb, ub_jump m c19]; unfold stp; rw [if_neg (by omega)]; omega
  by_cases c20 : (at_ L i).1 = 20
  · have hd := led_hm h.whole hil (Or.inr c20)
    have hs1 : sk L (i + 1) = u ++ S0 := by rw [sk_same (by omega), hu]
    have hs2 : sk L (led L i) = u ++ S0 := by rw [sk_hm hd.2, hu]
    have b1 := bv_of (m := m) hs1
    have b2 := bv_of (m := m) hs2
    have hst : stp m L i = 1 := by unfold stp; rw [if_neg (by omega)]
    have hn : nxr L i = [i + 1, led L i] := by unfold nxr; rw [if_neg c19, if_pos c20]
    rw [hb, ub_branch m c20, hst, hn]
    have hi1 : i + 1 < L.length := by have := h.lt; omega
    refine ⟨fun q hq => ?_, ?_⟩
    · rcases (show q = i + 1 ∨ q = led L i by simpa using hq) with rfl | rfl
      · refine ⟨by omega, h.room hi1 hs1, ⟨u, hs1, hl⟩, fun e => ?_, fun e => ?_⟩
        · subst e; rw [b1]; unfold of_; rw [if_pos rfl]; omega
        · subst e; rw [b1]; unfold of_; rw [if_neg (by simp)]; omega
      · refine ⟨led_gt L i, h.room hd.1 hs2, ⟨u, hs2, hl⟩, fun e => ?_, fun e => ?_⟩
        · subst e; rw [b2]; unfold of_; rw [if_pos rfl]; omega
        · subst e; rw [b2]; unfold of_; rw [if_neg (by simp)]; omega
    · have : of_ m (ub m L (i + 1)) (ub m L (led L i)) = ub m L (i + 1) ∨ of_ m (ub m L (i + 1)) (ub m L (led L i)) = ub m L (led L i) := by
        unfold of_; cases m <;> simp <;> omega
      rcases this with e | e
      · exact ⟨i + 1, by simp, by rw [b1, e]; omega⟩
      · exact ⟨led L i, by simp, by rw [b2, e]; omega⟩
  by_cases c21 : (at_ L i).1 = 21
  · obtain ⟨d, e1, e2, e3, e4, e5, e6⟩ := h.sound.opn (p := i) (by unfold opn; rw [c21]; rfl)
    have hdt : d < tp := by
      by_cases h3 : d < tp
      · exact h3
      · exfalso
        have : i ∈ sk L tp := (h.sound.within (by have := h.lt; omega)).2 ⟨h2, by omega⟩
        rw [h.sto, ← h.sfr] at this
        have := sk_lt this; omega
    have hnb : nb L i = d + 1 := nb_of e1 e2
    refine one (nb L i) u (by unfold nxr; rw [if_neg c19, if_neg c20, if_pos c21]) (nb_gt L i) (by rw [hnb]; have := h.lt; omega) (by rw [hnb, sk_cls e4, e5]; exact hu) hl ?_
    rw [hb, ub_loop m c21]; unfold stp; rw [if_pos c21]; omega
  have hnx : nxr L i = [i + 1] := by unfold nxr; rw [if_neg c19, if_neg c20, if_neg c21]
  have hst : stp m L i = 1 := by unfold stp; rw [if_neg c21]
  have hi1 : i + 1 < L.length := by have := h.lt; omega
  by_cases c23 : (at_ L i).1 = 23
  · obtain ⟨d, e1, e2, e3, e4, e5, e6⟩ := h.sound.opn (p := i) (by unfold opn; rw [c23]; rfl)
    refine one (i + 1) (i :: u) hnx (by omega) hi1 (by rw [sk_opn' (by unfold opn; rw [c23]; rfl), hu]; rfl) (fun t ht => ?_) ?_
    · rcases List.mem_cons.1 ht with rfl | ht
      · exact c23
      · exact hl t ht
    · rw [hb, ub_lock m c23, hst]
      show 1 + (ub m L (i + 1) + (1 + ub m L (nb L i) + rest m L u)) = _
      omega
  by_cases hc : cls (at_ L i) = true
  · obtain ⟨t, g1, g2, g3, g4, g5⟩ := h.sound.cls hc
    cases u with
    | nil =>
      exfalso
      have hto : t ∈ sk L tp := by rw [h.sto]; rw [List.nil_append] at hu; rw [← hu, g1]; simp
      have := ((h.sound.within (by have := h.lt; omega)).1 hto).2
      omega
    | cons t' u' =>
      have e := hu
      rw [g1, List.cons_append] at e
      obtain ⟨rfl, e2⟩ := List.cons.inj e
      have h23 := hl t (by simp)
      have h24 : (at_ L i).1 = 24 := by unfold clo at g5; rw [h23] at g5; simp at g5; exact g5.1
      have hnb : nb L t = i + 1 := nb_of g4 g2
      refine one (i + 1) u' hnx (by omega) hi1 (by rw [sk_cls hc, hu]; rfl) (fun x hx => hl x (by simp [hx])) ?_
      rw [hb, ub_stop m (Or.inr (Or.inl h24)), hst]
      show _ = 0 + (1 + ub m L (nb L t) + rest m L u')
      rw [hnb]; omega
  · have hc' : cls (at_ L i) = false := by simpa using hc
    have hno : (at_ L i).1 ≠ 22 ∧ (at_ L i).1 ≠ 24 := by unfold cls at hc'; simp at hc'; omega
    have hsk : sk L (i + 1) = sk L i := sk_same (by omega)
    refine one (i + 1) u hnx (by omega) hi1 (by rw [hsk, hu]) hl ?_
    rw [hb, ub_else m hil (by omega) c21 c23 c19 c20, hst]; omega
/-- The least that is known at each place: enough that the better way is found. -/
structure Pre (m : Bool) (L : List (Int × Int × Int)) (S0 : List Nat) (tp X i : Nat) (F : (Nat → Nat) × (Nat → Bool)) : Prop where
  room : ∀ n, F.1 n ≤ cap
  reach : ∀ n, i ≤ n → F.2 n = true → n ≤ tp ∧ Atl L S0 n
  best : ∀ n, i ≤ n → F.2 n = true → (m = true → cut (F.1 n + bv m L S0 n) ≤ X) ∧ (m = false → X ≤ cut (F.1 n + bv m L S0 n))
def Wit (m : Bool) (L : List (Int × Int × Int)) (S0 : List Nat) (X i : Nat) (F : (Nat → Nat) × (Nat → Bool)) : Prop := ∃ n, i ≤ n ∧ F.2 n = true ∧ cut (F.1 n + bv m L S0 n) = X
variable {X i : Nat} {F : (Nat → Nat) × (Nat → Bool)}
theorem hnd_ok (h : Pre m L S0 tp X i F) {n x : Nat} (hi : i ≤ n) (hn : n ≤ tp) (ha : Atl L S0 n) (hx : x ≤ cap) (h1 : m = true → cut (x + bv m L S0 n) ≤ X) (h2 : m = false → X ≤ cut (x + bv m L S0 n)) :
    Pre m L S0 tp X i (hnd m F n x) ∧ (Wit m L S0 X i F → Wit m L S0 X i (hnd m F n x)) ∧ (cut (x + bv m L S0 n) = X → Wit m L S0 X i (hnd m F n x)) := by
  by_cases c : F.2 n = false ∨ (m = true ∧ F.1 n < x) ∨ (m = false ∧ x < F.1 n)
  · have e : hnd m F n x = (fun j => if j = n then x else F.1 j, fun j => if j = n then true else F.2 j) := by unfold hnd; rw [if_pos c]
    rw [e]
    refine ⟨⟨fun j => ?_, fun j hj hs => ?_, fun j hj hs => ?_⟩, fun hw => ?_, fun hq => ⟨n, hi, by simp, by simpa using hq⟩⟩
    · show (if j = n then x else F.1 j) ≤ cap
      split
      · exact hx
      · exact h.room j
    · by_cases ej : j = n
      · subst ej; exact ⟨hn, ha⟩
      · have hs' : F.2 j = true := by simpa [ej] using hs
        exact h.reach j hj hs'
    · by_cases ej : j = n
      · subst ej; simp only [if_true]; exact ⟨h1, h2⟩
      · have hs' : F.2 j = true := by simpa [ej] using hs
        simp only [if_neg ej]; exact h.best j hj hs'
    · obtain ⟨j, hj, hs, hq⟩ := hw
      by_cases ej : j = n
      · subst ej
        refine ⟨j, hj, by simp, ?_⟩
        simp only [if_true]
        rcases c with c | ⟨c1, c2⟩ | ⟨c1, c2⟩
        · rw [hs] at c; cases c
        · have := h1 c1
          have := cut_mono (show F.1 j + bv m L S0 j ≤ x + bv m L S0 j by omega)
          omega
        · have := h2 c1
          have := cut_mono (show x + bv m L S0 j ≤ F.1 j + bv m L S0 j by omega)
          omega
      · exact ⟨j, hj, by simpa [ej] using hs, by simpa only [if_neg ej] using hq⟩
  · have e : hnd m F n x = F := by unfold hnd; rw [if_neg c]
    rw [e]
    refine ⟨h, fun hw => hw, fun hq => ?_⟩
    have hs : F.2 n = true := by
      cases hv : F.2 n
      · exact absurd (Or.inl hv) c
      · rfl
    refine ⟨n, hi, hs, ?_⟩
    obtain ⟨g1, g2⟩ := h.best n hi hs
    cases m
    · have := g2 rfl
      have hle : ¬ x < F.1 n := fun hlt => c (Or.inr (Or.inr ⟨rfl, hlt⟩))
      have := cut_mono (show F.1 n + bv false L S0 n ≤ x + bv false L S0 n by omega)
      omega
    · have := g1 rfl
      have hle : ¬ F.1 n < x := fun hlt => c (Or.inr (Or.inl ⟨rfl, hlt⟩))
      have := cut_mono (show x + bv true L S0 n ≤ F.1 n + bv true L S0 n by omega)
      omega
theorem hnd_other (m : Bool) (F : (Nat → Nat) × (Nat → Bool)) {n x j : Nat} (h : j ≠ n) : (hnd m F n x).1 j = F.1 j ∧ (hnd m F n x).2 j = F.2 j := by
  unfold hnd
  split
  · simp [h]
  · exact ⟨rfl, rfl⟩
theorem hnds_snoc (m : Bool) (F : (Nat → Nat) × (Nat → Bool)) (l : List Nat) (n x : Nat) : hnds m F (l ++ [n]) x = hnd m (hnds m F l x) n x := by
  unfold hnds; rw [List.foldl_append]; rfl
theorem hnds_other (m : Bool) {x j : Nat} : ∀ (l : List Nat) (F : (Nat → Nat) × (Nat → Bool)), j ∉ l → (hnds m F l x).1 j = F.1 j ∧ (hnds m F l x).2 j = F.2 j
  | [], _, _ => ⟨rfl, rfl⟩
  | n :: l, F, h => by
    have h1 := hnds_other m (x := x) (j := j) l (hnd m F n x) (by intro e; exact h (by simp [e]))
    have h2 := hnd_other m F (n := n) (x := x) (j := j) (by intro e; exact h (by simp [e]))
    exact ⟨h1.1.trans h2.1, h1.2.trans h2.2⟩
theorem hnds_ok {x : Nat} (hx : x ≤ cap) : ∀ (l : List Nat) (F : (Nat → Nat) × (Nat → Bool)), Pre m L S0 tp X i F →
    (∀ n, n ∈ l → i ≤ n ∧ n ≤ tp ∧ Atl L S0 n ∧ (m = true → cut (x + bv m L S0 n) ≤ X) ∧ (m = false → X ≤ cut (x + bv m L S0 n))) →
    Pre m L S0 tp X i (hnds m F l x) ∧ (Wit m L S0 X i F → Wit m L S0 X i (hnds m F l x)) ∧ ((∃ n, n ∈ l ∧ cut (x + bv m L S0 n) = X) → Wit m L S0 X i (hnds m F l x))
  | [], F, h, _ => ⟨h, fun hw => hw, fun ⟨n, hn, _⟩ => by simp at hn⟩
  | n :: l, F, h, hl => by
    obtain ⟨a1, a2, a3, a4, a5⟩ := hl n (by simp)
    obtain ⟨b1, b2, b3⟩ := hnd_ok h a1 a2 a3 hx a4 a5
    obtain ⟨c1, c2, c3⟩ := hnds_ok hx l (hnd m F n x) b1 (fun q hq => hl q (by simp [hq]))
    refine ⟨c1, fun hw => c2 (b2 hw), fun ⟨q, hq, he⟩ => ?_⟩
    rcases List.mem_cons.1 hq with rfl | hq
    · exact c2 (b3 he)
    · exact c3 ⟨q, hq, he⟩
/-- One place more. -/
theorem inv_step (h : Ends L S0 fr tp) (h1 : fr ≤ i) (h2 : i < tp) (hp : Pre m L S0 tp X i F) (hw : Wit m L S0 X i F) :
    (F.2 i = false → Pre m L S0 tp X (i + 1) F ∧ Wit m L S0 X (i + 1) F) ∧
    (F.2 i = true → Pre m L S0 tp X (i + 1) (hnds m F (nxr L i) (cut (F.1 i + cut (stp m L i)))) ∧ Wit m L S0 X (i + 1) (hnds m F (nxr L i) (cut (F.1 i + cut (stp m L i))))) := by
  have hp1 : Pre m L S0 tp X (i + 1) F := ⟨hp.room, fun n hn => hp.reach n (by omega), fun n hn => hp.best n (by omega)⟩
  have hw1 : Wit m L S0 X (i + 1) F ∨ (F.2 i = true ∧ cut (F.1 i + bv m L S0 i) = X) := by
    obtain ⟨n, a1, a2, a3⟩ := hw
    by_cases e : n = i
    · subst e; exact Or.inr ⟨a2, a3⟩
    · exact Or.inl ⟨n, by omega, a2, a3⟩
  refine ⟨fun hs => ⟨hp1, ?_⟩, fun hs => ?_⟩
  · rcases hw1 with h | h
    · exact h
    · rw [hs] at h; cases h.1
  · obtain ⟨r1, r2⟩ := hp.reach i (Nat.le_refl _) hs
    obtain ⟨g1, g2⟩ := hp.best i (Nat.le_refl _) hs
    obtain ⟨nx1, q, q1, q2⟩ := h.next (m := m) h1 h2 r2
    have hc : ∀ n, cut (cut (F.1 i + cut (stp m L i)) + bv m L S0 n) = cut (F.1 i + (stp m L i + bv m L S0 n)) := fun n => by unfold cut; omega
    obtain ⟨c1, c2, c3⟩ := hnds_ok (x := cut (F.1 i + cut (stp m L i))) (cut_le _) (nxr L i) F hp1 (fun n hn => by
      obtain ⟨a1, a2, a3, a4, a5⟩ := nx1 n hn
      refine ⟨by omega, a2, a3, fun e => ?_, fun e => ?_⟩
      · rw [hc]
        have := a4 e
        exact Nat.le_trans (cut_mono (by omega)) (g1 e)
      · rw [hc]
        have := a5 e
        exact Nat.le_trans (g2 e) (cut_mono (by omega)))
    refine ⟨c1, ?_⟩
    rcases hw1 with h | ⟨_, h⟩
    · exact c2 h
    · exact c3 ⟨q, q1, by rw [hc, q2]; exact h⟩
/-- At first. -/
def F0 (fr : Nat) : (Nat → Nat) × (Nat → Bool) := (fun _ => 0, fun j => j == fr)
theorem inv_first (h : Ends L S0 fr tp) : Pre m L S0 tp (cut (bv m L S0 fr)) fr (F0 fr) ∧ Wit m L S0 (cut (bv m L S0 fr)) fr (F0 fr) := by
  have hb : ∀ n, (F0 fr).2 n = true → n = fr := fun n hn => by simpa [F0] using hn
  refine ⟨⟨fun n => Nat.zero_le _, fun n _ hn => ?_, fun n _ hn => ?_⟩, fr, Nat.le_refl _, by simp [F0], by simp [F0]⟩
  · obtain rfl := hb n hn; exact ⟨h.le, [], h.sfr, fun t ht => by simp at ht⟩
  · obtain rfl := hb n hn
    have : (F0 n).1 n + bv m L S0 n = bv m L S0 n := by simp [F0]
    rw [this]; exact ⟨fun _ => Nat.le_refl _, fun _ => Nat.le_refl _⟩
theorem inv_last (h : Ends L S0 fr tp) (hp : Pre m L S0 tp (cut (bv m L S0 fr)) tp F) (hw : Wit m L S0 (cut (bv m L S0 fr)) tp F) : F.1 tp = cut (ub m L fr) := by
  obtain ⟨n, a1, a2, a3⟩ := hw
  have a4 := (hp.reach n a1 a2).1
  obtain rfl : n = tp := by omega
  rw [bv_of (u := []) h.sto, bv_of (u := []) h.sfr, ub_stop m h.stop] at a3
  have := hp.room n
  simp only [rest] at a3
  unfold cut at *; omega
end
theorem stp_cut {m : Bool} {L : List (Int × Int × Int)} {i : Nat} (hw : wE L = 0) (h : (at_ L i).1 = 21) :
    (cut (ub m L (i + 1)) + 1 ≤ 1048576 → cut (1 + (at_ L i).2.1.toNat * (cut (ub m L (i + 1)) + 1)) = cut (stp m L i)) ∧ (1048576 < cut (ub m L (i + 1)) + 1 → 1048577 = cut (stp m L i)) := by
  have hr := loop_room hw h
  unfold stp
  rw [if_pos h]
  refine ⟨fun h1 => ?_, fun h1 => ?_⟩
  · have : cut (ub m L (i + 1)) = ub m L (i + 1) := by unfold cut cap at *; omega
    rw [this]
  · have h2 : 1 * (ub m L (i + 1) + 1) ≤ (at_ L i).2.1.toNat * (ub m L (i + 1) + 1) := Nat.mul_le_mul (by omega) (Nat.le_refl _)
    unfold cut cap at *; omega
end Go.Proofs.YtacgnofmccennaaDoor
