/- What is proved here: plain facts: ways forward find the same steps as ways backward. Conditions: those each theorem states. the contract of the way of the document. Conditions: those each theorem states. -/
import Derived.Test.YthncbnalnfbpnaaGreatDoorHp
import Derived.Test.YthncbnalnfbpnaaGreatDoorGi
import Derived.Deep.CutRange
import Derived.RegionTactic
import Derived.Test.YthncbnalnfbpnaaGreatDoorKd
section
namespace Go.Proofs.YthncbnalnfbpnaaGreatDoor
theorem nbo_of {Q : List (Int × Int × Int)} {p d : Nat} (h : mt Q Q.length p = (d : Int)) (hp : p < d) : nb Q p = d + 1 := by
  unfold nb; rw [h]; simp; omega
theorem op_stop {L : List (Int × Int × Int)} (hw : wE L = 0) {p : Nat} (hp : p + 1 < L.length) : (at_ L p).1 ≠ 25 := by
  intro h
  have := (ends_iff.1 (wE_zero hw).2.1 p (by omega)).1 h
  omega
theorem loop_room {L : List (Int × Int × Int)} (hw : wE L = 0) {p : Nat} (h : (at_ L p).1 = 21) : 1 ≤ (at_ L p).2.1 ∧ (at_ L p).2.1 ≤ 1000 := by
  have := (right_parts (can_right (mE_zero (wE_zero hw).1).1 (op_len (p := p) (by omega)))).2.1
  unfold rA at this
  rw [h] at this
  simpa using this

theorem cut_add2 (x y : Nat) : cut (x + cut y) = cut (x + y) := by unfold cut; omega
theorem cut_add1 (x y : Nat) : cut (cut x + y) = cut (x + y) := by unfold cut; omega
theorem cut_mono {x y : Nat} (h : x ≤ y) : cut x ≤ cut y := by unfold cut; omega
/-- A place is handed a number of steps. -/
def hnd (m : Bool) (F : (Nat → Nat) × (Nat → Bool)) (n x : Nat) : (Nat → Nat) × (Nat → Bool) :=
  if F.2 n = false ∨ (m = true ∧ F.1 n < x) ∨ (m = false ∧ x < F.1 n) then (fun j => if j = n then x else F.1 j, fun j => if j = n then true else F.2 j) else F
def hnds (m : Bool) (F : (Nat → Nat) × (Nat → Bool)) (l : List Nat) (x : Nat) : (Nat → Nat) × (Nat → Bool) := l.foldl (fun F n => hnd m F n x) F
/-- The places that come next, over loops. -/
def nxr (L : List (Int × Int × Int)) (i : Nat) : List Nat :=
  if (at_ L i).1 = 19 then [led L i] else if (at_ L i).1 = 20 then [i + 1, led L i] else if (at_ L i).1 = 21 then [nb L i] else [i + 1]
/-- The steps of an instruction, with its loop. -/
def wstp (m : Bool) (L : List (Int × Int × Int)) (i : Nat) : Nat := if (at_ L i).1 = 21 then 1 + (at_ L i).2.1.toNat * (ub m L (i + 1) + 1) else 1
/-- The steps behind the ends of open locks. -/
def rest (m : Bool) (L : List (Int × Int × Int)) : List Nat → Nat
  | [] => 0
  | t :: u => 1 + ub m L (nb L t) + rest m L u
/-- A place whose open regions are those of S0, and locks in these. -/
def Atl (L : List (Int × Int × Int)) (S0 : List Nat) (i : Nat) : Prop := ∃ u, sk L i = u ++ S0 ∧ ∀ t, t ∈ u → (at_ L t).1 = 23
def bv (m : Bool) (L : List (Int × Int × Int)) (S0 : List Nat) (i : Nat) : Nat := ub m L i + rest m L ((sk L i).take ((sk L i).length - S0.length))
theorem wbv_of {m : Bool} {L : List (Int × Int × Int)} {S0 u : List Nat} {i : Nat} (h : sk L i = u ++ S0) : bv m L S0 i = ub m L i + rest m L u := by
  unfold bv
  rw [h, List.length_append, Nat.add_sub_cancel, List.take_left']
  rfl
section
variable {m : Bool} {L : List (Int × Int × Int)} {S0 : List Nat} {fr tp : Nat}
/-- A region's end. -/
structure Ends (L : List (Int × Int × Int)) (S0 : List Nat) (fr tp : Nat) : Prop where
  whole : wE L = 0
  le : fr ≤ tp
  lt : tp < L.length
  sfr : sk L fr = S0
  sto : sk L tp = S0
  stop : (at_ L tp).1 = 22 ∨ (at_ L tp).1 = 24 ∨ (at_ L tp).1 = 25
theorem Ends.sound (h : Ends L S0 fr tp) : Sound L := (mE_zero (wE_zero h.whole).1).2
/-- What is behind the end is not in the region. -/
theorem Ends.room (h : Ends L S0 fr tp) {n : Nat} (hn : n < L.length) {u : List Nat} (hk : sk L n = u ++ S0) : n ≤ tp := by
  by_cases e : (at_ L tp).1 = 25
  · have := (ends_iff.1 (wE_zero h.whole).2.1 tp h.lt).1 e
    omega
  · obtain ⟨t, h1, h2, h3, h4, h5⟩ := h.sound.cls (p := tp) (by have := h.stop; unfold cls; simp; omega)
    have : t ∈ sk L n := by rw [hk, ← h.sto, h1]; simp
    have := ((h.sound.within (by omega)).1 this).2
    omega
/-- From each place in a region tp those that come next. -/
theorem Ends.next (h : Ends L S0 fr tp) {i : Nat} (h1 : fr ≤ i) (h2 : i < tp) (ha : Atl L S0 i) :
    (∀ n, n ∈ nxr L i → i < n ∧ n ≤ tp ∧ Atl L S0 n ∧ (m = true → wstp m L i + bv m L S0 n ≤ bv m L S0 i) ∧ (m = false → bv m L S0 i ≤ wstp m L i + bv m L S0 n)) ∧ ∃ n, n ∈ nxr L i ∧ wstp m L i + bv m L S0 n = bv m L S0 i := by
  obtain ⟨u, hu, hl⟩ := ha
  have hil : i < L.length := by have := h.lt; omega
  have hb := wbv_of (m := m) hu
  have one : ∀ n (u' : List Nat), nxr L i = [n] → i < n → n < L.length → sk L n = u' ++ S0 → (∀ t, t ∈ u' → (at_ L t).1 = 23) → wstp m L i + (ub m L n + rest m L u') = bv m L S0 i → _ := fun n u' e1 e2 e3 e4 e5 e6 => by
    have hbn := wbv_of (m := m) e4
    rw [← hbn] at e6
    refine (⟨fun q hq => ?_, n, by rw [e1]; simp, e6⟩ : (∀ n, n ∈ nxr L i → i < n ∧ n ≤ tp ∧ Atl L S0 n ∧ (m = true → wstp m L i + bv m L S0 n ≤ bv m L S0 i) ∧ (m = false → bv m L S0 i ≤ wstp m L i + bv m L S0 n)) ∧ ∃ n, n ∈ nxr L i ∧ wstp m L i + bv m L S0 n = bv m L S0 i)
    rw [e1] at hq
    obtain rfl : q = n := by simpa using hq
    exact ⟨e2, h.room e3 e4, ⟨u', e4, e5⟩, fun _ => by omega, fun _ => by omega⟩
  have h25 : (at_ L i).1 ≠ 25 := op_stop h.whole (by have := h.lt; omega)
  by_cases c19 : (at_ L i).1 = 19
  · have hd := led_hm h.whole hil (Or.inl c19)
    refine one (led L i) u (by unfold nxr; rw [if_pos c19]) (led_gt L i) hd.1 (by rw [sk_hm hd.2, hu]) hl ?_
    rw [hb, ub_jump m c19]; unfold wstp; rw [if_neg (by omega)]; omega
  by_cases c20 : (at_ L i).1 = 20
  · have hd := led_hm h.whole hil (Or.inr c20)
    have hs1 : sk L (i + 1) = u ++ S0 := by rw [sk_same (by omega), hu]
    have hs2 : sk L (led L i) = u ++ S0 := by rw [sk_hm hd.2, hu]
    have b1 := wbv_of (m := m) hs1
    have b2 := wbv_of (m := m) hs2
    have hst : wstp m L i = 1 := by unfold wstp; rw [if_neg (by omega)]
    have hn : nxr L i = [i + 1, led L i] := by unfold nxr; rw [if_neg c19, if_pos c20]
    rw [hb, ub_branch m c20, hst, hn]
    have hi1 : i + 1 < L.length := by have := h.lt; omega
    refine ⟨fun q hq => ?_, ?_⟩
    · rcases (show q = i + 1 ∨ q = led L i by simpa using hq) with rfl | rfl
      · refine ⟨by omega, h.room hi1 hs1, ⟨u, hs1, hl⟩, fun e => ?_, fun e => ?_⟩
        · subst e; rw [b1]; unfold of_; rw [if_pos rfl]; omega
        · subst e; rw [b1]; unfold of_; rw [if_neg (by simp)]; omega
      · refine ⟨led_gt L i, h.room hd.1 hs2, ⟨u, hs2, hl⟩, fun e => ?_, fun e => ?_⟩
        · subst e; rw [b2]; unfold of_; rw [if_pos rfl]; omega
        · subst e; rw [b2]; unfold of_; rw [if_neg (by simp)]; omega
    · have : of_ m (ub m L (i + 1)) (ub m L (led L i)) = ub m L (i + 1) ∨ of_ m (ub m L (i + 1)) (ub m L (led L i)) = ub m L (led L i) := by
        unfold of_; cases m <;> simp <;> omega
      rcases this with e | e
      · exact ⟨i + 1, by simp, by rw [b1, e]; omega⟩
      · exact ⟨led L i, by simp, by rw [b2, e]; omega⟩
  by_cases c21 : (at_ L i).1 = 21
  · obtain ⟨d, e1, e2, e3, e4, e5, e6⟩ := h.sound.opn (p := i) (by unfold opn; rw [c21]; rfl)
    have hdt : d < tp := by
      by_cases h3 : d < tp
      · exact h3
      · exfalso
        have : i ∈ sk L tp := (h.sound.within (by have := h.lt; omega)).2 ⟨h2, by omega⟩
        rw [h.sto, ← h.sfr] at this
        have := sk_lt this; omega
    have hnb : nb L i = d + 1 := nbo_of e1 e2
    refine one (nb L i) u (by unfold nxr; rw [if_neg c19, if_neg c20, if_pos c21]) (nb_gt L i) (by rw [hnb]; have := h.lt; omega) (by rw [hnb, sk_cls e4, e5]; exact hu) hl ?_
    rw [hb, ub_loop m c21]; unfold wstp; rw [if_pos c21]; omega
  have hnx : nxr L i = [i + 1] := by unfold nxr; rw [if_neg c19, if_neg c20, if_neg c21]
  have hst : wstp m L i = 1 := by unfold wstp; rw [if_neg c21]
  have hi1 : i + 1 < L.length := by have := h.lt; omega
  by_cases c23 : (at_ L i).1 = 23
  · obtain ⟨d, e1, e2, e3, e4, e5, e6⟩ := h.sound.opn (p := i) (by unfold opn; rw [c23]; rfl)
    refine one (i + 1) (i :: u) hnx (by omega) hi1 (by rw [sk_opn' (by unfold opn; rw [c23]; rfl), hu]; rfl) (fun t ht => ?_) ?_
    · rcases List.mem_cons.1 ht with rfl | ht
      · exact c23
      · exact hl t ht
    · rw [hb, ub_lock m c23, hst]
      show 1 + (ub m L (i + 1) + (1 + ub m L (nb L i) + rest m L u)) = _
      omega
  by_cases hc : cls (at_ L i) = true
  · obtain ⟨t, g1, g2, g3, g4, g5⟩ := h.sound.cls hc
    cases u with
    | nil =>
      exfalso
      have hto : t ∈ sk L tp := by rw [h.sto]; rw [List.nil_append] at hu; rw [← hu, g1]; simp
      have := ((h.sound.within (by have := h.lt; omega)).1 hto).2
      omega
    | cons t' u' =>
      have e := hu
      rw [g1, List.cons_append] at e
      obtain ⟨rfl, e2⟩ := List.cons.inj e
      have h23 := hl t (by simp)
      have h24 : (at_ L i).1 = 24 := by unfold clo at g5; rw [h23] at g5; simp at g5; exact g5.1
      have hnb : nb L t = i + 1 := nbo_of g4 g2
      refine one (i + 1) u' hnx (by omega) hi1 (by rw [sk_cls hc, hu]; rfl) (fun x hx => hl x (by simp [hx])) ?_
      rw [hb, ub_stop m (Or.inr (Or.inl h24)), hst]
      show _ = 0 + (1 + ub m L (nb L t) + rest m L u')
      rw [hnb]; omega
  · have hc' : cls (at_ L i) = false := by simpa using hc
    have hno : (at_ L i).1 ≠ 22 ∧ (at_ L i).1 ≠ 24 := by unfold cls at hc'; simp at hc'; omega
    have hsk : sk L (i + 1) = sk L i := sk_same (by omega)
    refine one (i + 1) u hnx (by omega) hi1 (by rw [hsk, hu]) hl ?_
    rw [hb, ub_else m hil (by omega) c21 c23 c19 c20, hst]; omega
/-- The least that is known at each place: enough that the better way is found. -/
structure wPre (m : Bool) (L : List (Int × Int × Int)) (S0 : List Nat) (tp X i : Nat) (F : (Nat → Nat) × (Nat → Bool)) : Prop where
  room : ∀ n, F.1 n ≤ cap
  reach : ∀ n, i ≤ n → F.2 n = true → n ≤ tp ∧ Atl L S0 n
  best : ∀ n, i ≤ n → F.2 n = true → (m = true → cut (F.1 n + bv m L S0 n) ≤ X) ∧ (m = false → X ≤ cut (F.1 n + bv m L S0 n))
def Wit (m : Bool) (L : List (Int × Int × Int)) (S0 : List Nat) (X i : Nat) (F : (Nat → Nat) × (Nat → Bool)) : Prop := ∃ n, i ≤ n ∧ F.2 n = true ∧ cut (F.1 n + bv m L S0 n) = X
variable {X i : Nat} {F : (Nat → Nat) × (Nat → Bool)}
theorem hnd_ok (h : wPre m L S0 tp X i F) {n x : Nat} (hi : i ≤ n) (hn : n ≤ tp) (ha : Atl L S0 n) (hx : x ≤ cap) (h1 : m = true → cut (x + bv m L S0 n) ≤ X) (h2 : m = false → X ≤ cut (x + bv m L S0 n)) :
    wPre m L S0 tp X i (hnd m F n x) ∧ (Wit m L S0 X i F → Wit m L S0 X i (hnd m F n x)) ∧ (cut (x + bv m L S0 n) = X → Wit m L S0 X i (hnd m F n x)) := by
  by_cases c : F.2 n = false ∨ (m = true ∧ F.1 n < x) ∨ (m = false ∧ x < F.1 n)
  · have e : hnd m F n x = (fun j => if j = n then x else F.1 j, fun j => if j = n then true else F.2 j) := by unfold hnd; rw [if_pos c]
    rw [e]
    refine ⟨⟨fun j => ?_, fun j hj hs => ?_, fun j hj hs => ?_⟩, fun hw => ?_, fun hq => ⟨n, hi, by simp, by simpa using hq⟩⟩
    · show (if j = n then x else F.1 j) ≤ cap
      split
      · exact hx
      · exact h.room j
    · by_cases ej : j = n
      · subst ej; exact ⟨hn, ha⟩
      · have hs' : F.2 j = true := by simpa [ej] using hs
        exact h.reach j hj hs'
    · by_cases ej : j = n
      · subst ej; simp only [if_true]; exact ⟨h1, h2⟩
      · have hs' : F.2 j = true := by simpa [ej] using hs
        simp only [if_neg ej]; exact h.best j hj hs'
    · obtain ⟨j, hj, hs, hq⟩ := hw
      by_cases ej : j = n
      · subst ej
        refine ⟨j, hj, by simp, ?_⟩
        simp only [if_true]
        rcases c with c | ⟨c1, c2⟩ | ⟨c1, c2⟩
        · rw [hs] at c; cases c
        · have := h1 c1
          have := cut_mono (show F.1 j + bv m L S0 j ≤ x + bv m L S0 j by omega)
          omega
        · have := h2 c1
          have := cut_mono (show x + bv m L S0 j ≤ F.1 j + bv m L S0 j by omega)
          omega
      · exact ⟨j, hj, by simpa [ej] using hs, by simpa only [if_neg ej] using hq⟩
  · have e : hnd m F n x = F := by unfold hnd; rw [if_neg c]
    rw [e]
    refine ⟨h, fun hw => hw, fun hq => ?_⟩
    have hs : F.2 n = true := by
      cases hv : F.2 n
      · exact absurd (Or.inl hv) c
      · rfl
    refine ⟨n, hi, hs, ?_⟩
    obtain ⟨g1, g2⟩ := h.best n hi hs
    cases m
    · have := g2 rfl
      have hle : ¬ x < F.1 n := fun hlt => c (Or.inr (Or.inr ⟨rfl, hlt⟩))
      have := cut_mono (show F.1 n + bv false L S0 n ≤ x + bv false L S0 n by omega)
      omega
    · have := g1 rfl
      have hle : ¬ F.1 n < x := fun hlt => c (Or.inr (Or.inl ⟨rfl, hlt⟩))
      have := cut_mono (show x + bv true L S0 n ≤ F.1 n + bv true L S0 n by omega)
      omega
theorem hnd_other (m : Bool) (F : (Nat → Nat) × (Nat → Bool)) {n x j : Nat} (h : j ≠ n) : (hnd m F n x).1 j = F.1 j ∧ (hnd m F n x).2 j = F.2 j := by
  unfold hnd
  split
  · simp [h]
  · exact ⟨rfl, rfl⟩
theorem hnds_snoc (m : Bool) (F : (Nat → Nat) × (Nat → Bool)) (l : List Nat) (n x : Nat) : hnds m F (l ++ [n]) x = hnd m (hnds m F l x) n x := by
  unfold hnds; rw [List.foldl_append]; rfl
theorem hnds_other (m : Bool) {x j : Nat} : ∀ (l : List Nat) (F : (Nat → Nat) × (Nat → Bool)), j ∉ l → (hnds m F l x).1 j = F.1 j ∧ (hnds m F l x).2 j = F.2 j
  | [], _, _ => ⟨rfl, rfl⟩
  | n :: l, F, h => by
    have h1 := hnds_other m (x := x) (j := j) l (hnd m F n x) (by intro e; exact h (by simp [e]))
    have h2 := hnd_other m F (n := n) (x := x) (j := j) (by intro e; exact h (by simp [e]))
    exact ⟨h1.1.trans h2.1, h1.2.trans h2.2⟩
theorem hnds_ok {x : Nat} (hx : x ≤ cap) : ∀ (l : List Nat) (F : (Nat → Nat) × (Nat → Bool)), wPre m L S0 tp X i F →
    (∀ n, n ∈ l → i ≤ n ∧ n ≤ tp ∧ Atl L S0 n ∧ (m = true → cut (x + bv m L S0 n) ≤ X) ∧ (m = false → X ≤ cut (x + bv m L S0 n))) →
    wPre m L S0 tp X i (hnds m F l x) ∧ (Wit m L S0 X i F → Wit m L S0 X i (hnds m F l x)) ∧ ((∃ n, n ∈ l ∧ cut (x + bv m L S0 n) = X) → Wit m L S0 X i (hnds m F l x))
  | [], F, h, _ => ⟨h, fun hw => hw, fun ⟨n, hn, _⟩ => by simp at hn⟩
  | n :: l, F, h, hl => by
    obtain ⟨a1, a2, a3, a4, a5⟩ := hl n (by simp)
    obtain ⟨b1, b2, b3⟩ := hnd_ok h a1 a2 a3 hx a4 a5
    obtain ⟨c1, c2, c3⟩ := hnds_ok hx l (hnd m F n x) b1 (fun q hq => hl q (by simp [hq]))
    refine ⟨c1, fun hw => c2 (b2 hw), fun ⟨q, hq, he⟩ => ?_⟩
    rcases List.mem_cons.1 hq with rfl | hq
    · exact c2 (b3 he)
    · exact c3 ⟨q, hq, he⟩
/-- One place more. -/
theorem winv_step (h : Ends L S0 fr tp) (h1 : fr ≤ i) (h2 : i < tp) (hp : wPre m L S0 tp X i F) (hw : Wit m L S0 X i F) :
    (F.2 i = false → wPre m L S0 tp X (i + 1) F ∧ Wit m L S0 X (i + 1) F) ∧
    (F.2 i = true → wPre m L S0 tp X (i + 1) (hnds m F (nxr L i) (cut (F.1 i + cut (wstp m L i)))) ∧ Wit m L S0 X (i + 1) (hnds m F (nxr L i) (cut (F.1 i + cut (wstp m L i))))) := by
  have hp1 : wPre m L S0 tp X (i + 1) F := ⟨hp.room, fun n hn => hp.reach n (by omega), fun n hn => hp.best n (by omega)⟩
  have hw1 : Wit m L S0 X (i + 1) F ∨ (F.2 i = true ∧ cut (F.1 i + bv m L S0 i) = X) := by
    obtain ⟨n, a1, a2, a3⟩ := hw
    by_cases e : n = i
    · subst e; exact Or.inr ⟨a2, a3⟩
    · exact Or.inl ⟨n, by omega, a2, a3⟩
  refine ⟨fun hs => ⟨hp1, ?_⟩, fun hs => ?_⟩
  · rcases hw1 with h | h
    · exact h
    · rw [hs] at h; cases h.1
  · obtain ⟨r1, r2⟩ := hp.reach i (Nat.le_refl _) hs
    obtain ⟨g1, g2⟩ := hp.best i (Nat.le_refl _) hs
    obtain ⟨nx1, q, q1, q2⟩ := h.next (m := m) h1 h2 r2
    have hc : ∀ n, cut (cut (F.1 i + cut (wstp m L i)) + bv m L S0 n) = cut (F.1 i + (wstp m L i + bv m L S0 n)) := fun n => by unfold cut; omega
    obtain ⟨c1, c2, c3⟩ := hnds_ok (x := cut (F.1 i + cut (wstp m L i))) (cut_le _) (nxr L i) F hp1 (fun n hn => by
      obtain ⟨a1, a2, a3, a4, a5⟩ := nx1 n hn
      refine ⟨by omega, a2, a3, fun e => ?_, fun e => ?_⟩
      · rw [hc]
        have := a4 e
        exact Nat.le_trans (cut_mono (by omega)) (g1 e)
      · rw [hc]
        have := a5 e
        exact Nat.le_trans (g2 e) (cut_mono (by omega)))
    refine ⟨c1, ?_⟩
    rcases hw1 with h | ⟨_, h⟩
    · exact c2 h
    · exact c3 ⟨q, q1, by rw [hc, q2]; exact h⟩
/-- At first. -/
def F0 (fr : Nat) : (Nat → Nat) × (Nat → Bool) := (fun _ => 0, fun j => j == fr)
theorem inv_first (h : Ends L S0 fr tp) : wPre m L S0 tp (cut (bv m L S0 fr)) fr (F0 fr) ∧ Wit m L S0 (cut (bv m L S0 fr)) fr (F0 fr) := by
  have hb : ∀ n, (F0 fr).2 n = true → n = fr := fun n hn => by simpa [F0] using hn
  refine ⟨⟨fun n => Nat.zero_le _, fun n _ hn => ?_, fun n _ hn => ?_⟩, fr, Nat.le_refl _, by simp [F0], by simp [F0]⟩
  · obtain rfl := hb n hn; exact ⟨h.le, [], h.sfr, fun t ht => by simp at ht⟩
  · obtain rfl := hb n hn
    have : (F0 n).1 n + bv m L S0 n = bv m L S0 n := by simp [F0]
    rw [this]; exact ⟨fun _ => Nat.le_refl _, fun _ => Nat.le_refl _⟩
theorem inv_last (h : Ends L S0 fr tp) (hp : wPre m L S0 tp (cut (bv m L S0 fr)) tp F) (hw : Wit m L S0 (cut (bv m L S0 fr)) tp F) : F.1 tp = cut (ub m L fr) := by
  obtain ⟨n, a1, a2, a3⟩ := hw
  have a4 := (hp.reach n a1 a2).1
  obtain rfl : n = tp := by omega
  rw [wbv_of (u := []) h.sto, wbv_of (u := []) h.sfr, ub_stop m h.stop] at a3
  have := hp.room n
  simp only [rest] at a3
  unfold cut at *; omega
end
theorem stp_cut {m : Bool} {L : List (Int × Int × Int)} {i : Nat} (hw : wE L = 0) (h : (at_ L i).1 = 21) :
    (cut (ub m L (i + 1)) + 1 ≤ 1048576 → cut (1 + (at_ L i).2.1.toNat * (cut (ub m L (i + 1)) + 1)) = cut (wstp m L i)) ∧ (1048576 < cut (ub m L (i + 1)) + 1 → 1048577 = cut (wstp m L i)) := by
  have hr := loop_room hw h
  unfold wstp
  rw [if_pos h]
  refine ⟨fun h1 => ?_, fun h1 => ?_⟩
  · have : cut (ub m L (i + 1)) = ub m L (i + 1) := by unfold cut cap at *; omega
    rw [this]
  · have h2 : 1 * (ub m L (i + 1) + 1) ≤ (at_ L i).2.1.toNat * (ub m L (i + 1) + 1) := Nat.mul_le_mul (by omega) (Nat.le_refl _)
    unfold cut cap at *; omega
end Go.Proofs.YthncbnalnfbpnaaGreatDoor
end

section
namespace Go.Proofs.YthncbnalnfbpnaaGreatDoor
open Go.ChangeShapes Go.WideShapes Go.RowKit

theorem wbool_info : (Tryz.prog.info? 4).map (fun i => (i.zero, i.size, i.bytes)) = some (some (.bool false), 1, 1) := by kernel_rfl
theorem cutR_any (z : Int) (x : Nat) (hz : z = x) (w : World) : Calls Tryz.prog 100 #[.int .i64 z] w fun e w' => e = .returned (.int .i64 ((cut x : Nat) : Int)) ∧ w = w' := by
  have h : min z 1048577 = ((cut x : Nat) : Int) := by rw [hz]; unfold cut cap; omega
  obtain ⟨v, hv⟩ : ∃ v : Int, v = ((cut x : Nat) : Int) := ⟨_, rfl⟩
  rw [← hv] at h ⊢
  clear hv hz
  go_enter Tryz.func100, Tryz.ntmps100
  go_wp2
  go_ret
  exact ⟨rfl, rfl⟩
def fdF (F : (Nat → Nat) × (Nat → Bool)) (fr j : Nat) : Value := .int .i64 ((F.1 (fr + j) : Nat) : Int)
def fsF (F : (Nat → Nat) × (Nat → Bool)) (fr j : Nat) : Value := .bool (F.2 (fr + j))
theorem row_set {w : World} {g o n : Nat} {l : List Int} (h : Row w (some ⟨g, o, none⟩) n l) {p : Addr} (hp : g ≠ p.block) (v : Value) : Row (w.setCell p v) (some ⟨g, o, none⟩) n l := by
  refine ⟨h.1, fun h0 => ?_⟩
  obtain ⟨b, off, e, hB, hc⟩ := h.2 h0
  cases e
  refine ⟨g, o, rfl, by simpa [World.setCell] using hB, fun i hi => ?_⟩
  rw [World.cell?_of_block (w := w) (Go.Deep.blk_setCell_other _ _ _ _ hp)]
  exact hc i hi
theorem ints_at {l : List Nat} {q : Nat} (h : q < l.length) : (l.map fun p : Nat => (p : Int)).getD q 0 = ((l.getD q 0 : Nat) : Int) := by
  rw [List.getD_eq_getElem?_getD, List.getD_eq_getElem?_getD, List.getElem?_map, List.getElem?_eq_getElem h]; rfl
theorem take_snocN {l : List Nat} {q : Nat} (h : q < l.length) : l.take (q + 1) = l.take q ++ [l.getD q 0] := by
  rw [List.take_succ_eq_append_getElem h, List.getD_eq_getElem?_getD, List.getElem?_eq_getElem h]; rfl
theorem hnds_room {m : Bool} {x : Nat} (hx : x ≤ cap) : ∀ (l : List Nat) (F : (Nat → Nat) × (Nat → Bool)), (∀ n, F.1 n ≤ cap) → ∀ n, (hnds m F l x).1 n ≤ cap
  | [], _, h => h
  | q :: l, F, h => hnds_room hx l (hnd m F q x) (fun n => by
      unfold hnd
      split
      · show (if n = q then x else F.1 n) ≤ cap
        split
        · exact hx
        · exact h n
      · exact h n)
theorem row_lit (W : World) (cs : Array Value) (l : List Nat) (h : cs.toList = (l.map fun p : Nat => (p : Int)).map (Value.int .i64)) (hl : l.length ≤ 1000) : Row (W.alloc (.cells cs 3)) (some ⟨W.heap.size, 0, none⟩) l.length (l.map fun p : Nat => (p : Int)) :=
  lit_ints W cs _ _ (by rw [List.length_map]) h (by rw [List.length_map]; exact hl)
set_option maxHeartbeats 8000000 in
set_option maxRecDepth 100000 in
theorem wayR_any (m : Bool) (a : Option Addr) (n c n1 c1 : Nat) (L : List (Int × Int × Int)) : ∀ (N : Nat) (a1 : Option Addr) (fr tp : Nat) (S0 : List Nat) (w : World), tp - fr = N → Ends L S0 fr tp → RowI w a n L → Row w a1 n1 (mL L) →
    Calls Tryz.prog 44 #[.slice a n c, .slice a1 n1 c1, .int .i64 fr, .int .i64 tp, .bool m] w fun e w' => e = .returned (.int .i64 ((cut (ub m L fr) : Nat) : Int)) ∧ Below w.heap.size w w' := by
  intro N
  induction N using Nat.strongRecOn with
  | _ N ih =>
  intro a1 fr tp S0 w hN hE hr hm
  have hlen := wE_len hE.whole
  have htn : tp < n := by rw [hr.1]; exact hE.lt
  have hn2 : n ≤ 200 := by rw [hr.1]; exact hlen.2
  have hft := hE.le
  obtain ⟨M, hM⟩ : ∃ M, M = tp - fr + 1 := ⟨_, rfl⟩
  obtain ⟨q0, hq0⟩ : ∃ q0, q0 = tp - fr := ⟨_, rfl⟩
  have w1 : IntKind.i64.wrap ((tp : Int) - (fr : Int)) = (q0 : Int) := by rw [IntWalk.i64_in _ (by omega)]; omega
  have w2 : IntKind.i64.wrap ((q0 : Int) + 1) = (M : Int) := by rw [IntWalk.i64_in _ (by omega)]; omega
  have hqM : (q0 : Int) < (M : Int) := by omega
  have hq0n : (0 : Int) ≤ (q0 : Int) := by omega
  have hM0 : (0 : Int) < (M : Int) := by omega
  have hmk1 := run_make_row' (P := Tryz.prog) 22 3 (.int .i64 0) 8 Tryz.underlying22 int_info rfl .i64 .i64 M (by omega) (by omega)
  have hmk2 := run_make_row' (P := Tryz.prog) 145 4 (.bool false) 1 Tryz.underlying145 wbool_info rfl .i64 .i64 M (by omega) (by omega)
  have hM1 : tp < fr + M := by omega
  have hM2 : fr + M ≤ tp + 1 := by omega
  have HQ0 : Hid (q0 = tp - fr) := hq0
  clear hM hq0
  have HE := Lib.hid hE
  have HR := Lib.hid hr
  have HM := Lib.hid hm
  have HL := Lib.hid hr.1
  have HN1 : Hid (n1 = n) := by show _ = _; have := hm.1; rw [mL_len, ← hr.1] at this; exact this
  have IH := Lib.hid ih
  have HNN0 := Lib.hid hN
  clear hE hr hm ih hN
  go_enter Tryz.func44, Tryz.ntmps44
  go_upto_region 3 with (fail)
  have rD : ((w.alloc (.cells (madeCells #[.int .i64 0] M) 3)).alloc (.cells (madeCells #[.bool false] M) 4)).rowIs w.heap.size 3 M (fun _ => .int .i64 0) := (World.rowIs_made w _ M 3).alloc _
  have rS : ((w.alloc (.cells (madeCells #[.int .i64 0] M) 3)).alloc (.cells (madeCells #[.bool false] M) 4)).rowIs (w.heap.size + 1) 4 M (fun _ => .bool false) := by
    have := World.rowIs_made (w.alloc (.cells (madeCells #[.int .i64 0] M) 3)) (.bool false) M 4
    have e : (w.alloc (.cells (madeCells #[.int .i64 0] M) 3)).heap.size = w.heap.size + 1 := by simp
    rw [e] at this; exact this
  have hbw : Below w.heap.size w ((w.alloc (.cells (madeCells #[.int .i64 0] M) 3)).alloc (.cells (madeCells #[.bool false] M) 4)) := keep_below (below_alloc _ _) (below_alloc _ _)
  generalize ((w.alloc (.cells (madeCells #[.int .i64 0] M) 3)).alloc (.cells (madeCells #[.bool false] M) 4)) = W at rD rS hbw ⊢
  have hDS : w.heap.size ≠ w.heap.size + 1 := by omega
  have hDw : w.heap.size ≤ w.heap.size := Nat.le_refl _
  have hSw : w.heap.size ≤ w.heap.size + 1 := by omega
  obtain ⟨D, hD⟩ : ∃ D, D = w.heap.size := ⟨_, rfl⟩
  obtain ⟨S, hS⟩ : ∃ S, S = w.heap.size + 1 := ⟨_, rfl⟩
  rw [← hS] at rS hDS hSw ⊢
  rw [← hD] at rD hDS ⊢
  have hDw : w.heap.size ≤ D := by omega
  have HDS : Hid (D = w.heap.size ∧ S = w.heap.size + 1) := ⟨hD, hS⟩
  clear hmk1 hmk2 hD hS
  have s0 := rS.cell (i := 0) (by omega)
  have s1 := rS.frozen 0
  have s2 := rS.lt
  have sz := rD.lt
  go_wp2
  go_loopw [13] (fun i wr => ∃ (k : Nat) (F : (Nat → Nat) × (Nat → Bool)), fr ≤ k ∧ k ≤ tp ∧ i = .int .i64 k ∧ wPre m L S0 tp (cut (bv m L S0 fr)) k F ∧ Wit m L S0 (cut (bv m L S0 fr)) k F ∧ wr.rowIs D 3 M (fdF F fr) ∧ wr.rowIs S 4 M (fsF F fr) ∧ Below w.heap.size w wr) (fun i _ => tp - (intOf i).toNat)
  case atStart =>
    refine ⟨fr, F0 fr, Nat.le_refl _, hft, rfl, (inv_first HE.out).1, (inv_first HE.out).2, (rD.setOther (a := ⟨S, 0, none⟩) hDS _).congr (fun i _ => rfl), (rS.set 0 (.bool true)).congr (fun i _ => ?_), hbw.setCell (p := ⟨S, 0, none⟩) hSw _⟩
    unfold fsF F0
    by_cases e : i = 0
    · subst e; simp
    · rw [if_neg e]; simp [e]
  case round =>
    clear rD rS hbw s0 s1 s2 sz
    obtain ⟨k, F, hk0, hk1, rfl, hP, hW, qD, qS, hbl⟩ := hrel
    have HP := Lib.hid hP
    have HW := Lib.hid hW
    clear hP hW
    by_cases hlt : k < tp
    · obtain ⟨j, hj⟩ : ∃ j, j = k - fr := ⟨_, rfl⟩
      have HJ : Hid (k = fr + j) := by show _ = _; omega
      have wj : IntKind.i64.wrap ((k : Int) - (fr : Int)) = (j : Int) := by rw [IntWalk.i64_in _ (by omega)]; omega
      have j0 : (0 : Int) ≤ (j : Int) := by omega
      have j1 : (j : Int) < (M : Int) := by omega
      have j2 : k ≤ fr + j := by omega
      have j3 : fr + j ≤ k := by omega
      clear hj
      have c0 := qS.cell (i := j) (by omega)
      rw [show fsF F fr j = .bool (F.2 k) by unfold fsF; rw [← HJ.out]] at c0
      cases hs : F.2 k
      · rw [hs] at c0
        have HSt := Lib.hid ((winv_step HE.out hk0 hlt HP.out HW.out).1 hs)
        clear hs
        go_wp2
        go_roundw
        case rel => exact ⟨k + 1, F, by omega, by omega, by go_num, HSt.out.1, HSt.out.2, qD, qS, hbl⟩
        case measure => simp [intOf]; omega
      · rw [hs] at c0
        have HS := Lib.hid hs
        clear hs
        have hkn : k < n := by omega
        have k0 : (0 : Int) ≤ (k : Int) := by omega
        have k1 : (k : Int) < (n : Int) := by omega
        have wk : IntKind.i64.wrap ((k : Int) + 1) = (k : Int) + 1 := IntWalk.i64_in _ (by omega)
        obtain ⟨b1, o1, o, p2, p3, rfl, hB1, hx, hc1, hc2, hc3⟩ := (HR.out.below hbl).at_ hkn
        have HX := Lib.hid (at_some hx)
        have hDl := qD.lt
        have hSl := qS.lt
        clear hx
        by_cases h19 : o = 19
        · subst h19
          have hrx := right_jump (can_right (mE_zero (wE_zero HE.out.whole).1).1 (p := k) (by rw [← HL.out]; exact hkn)) (by rw [HX.out]; rfl)
          rw [HX.out] at hrx
          simp only at hrx
          obtain ⟨t, ht⟩ : ∃ t : Nat, t = led L k := ⟨_, rfl⟩
          have ht2 : (t : Int) = (k : Int) + 1 + p2 := by rw [ht]; unfold led; rw [HX.out]; simp only; omega
          have wt : IntKind.i64.wrap ((k : Int) + 1 + p2) = (t : Int) := by rw [IntWalk.i64_in _ (by omega)]; exact ht2.symm
          obtain ⟨NN, hNN⟩ : ∃ NN : List Nat, NN = [t] := ⟨_, rfl⟩
          have hLen : NN.length = 1 := by rw [hNN]; rfl
          have HNN : Hid (NN = nxr L k) := by show _ = _; rw [hNN]; unfold nxr; rw [if_pos (by rw [HX.out]), ht]
          have HST : Hid (1 = cut (wstp m L k)) := by show _ = _; unfold wstp; rw [if_neg (by rw [HX.out]; simp)]; rfl
          have RR1 : Row ((wr.alloc (.cells #[.int .i64 ((k : Int) + 1)] 3)).alloc (.cells #[.int .i64 (t : Int)] 3)) (some ⟨wr.heap.size + 1, 0, none⟩) 1 (NN.map fun p : Nat => (p : Int)) := by
            have := row_lit (wr.alloc (.cells #[.int .i64 ((k : Int) + 1)] 3)) #[.int .i64 (t : Int)] NN (by rw [hNN]; rfl) (by omega)
            rw [hLen, show (wr.alloc (.cells #[.int .i64 ((k : Int) + 1)] 3)).heap.size = wr.heap.size + 1 by simp] at this; exact this
          have RB1 : Below w.heap.size w ((wr.alloc (.cells #[.int .i64 ((k : Int) + 1)] 3)).alloc (.cells #[.int .i64 (t : Int)] 3)) := keep_below hbl (keep_below (below_alloc _ _) (below_alloc _ _))
          have RD1 : ((wr.alloc (.cells #[.int .i64 ((k : Int) + 1)] 3)).alloc (.cells #[.int .i64 (t : Int)] 3)).rowIs D 3 M (fdF F fr) := (qD.alloc _).alloc _
          have RS1 : ((wr.alloc (.cells #[.int .i64 ((k : Int) + 1)] 3)).alloc (.cells #[.int .i64 (t : Int)] 3)).rowIs S 4 M (fsF F fr) := (qS.alloc _).alloc _
          clear hNN ht ht2 hrx
          go_wp2
          have hgD : D ≠ (wr.heap.size + 1) := by omega
          have hgS : S ≠ (wr.heap.size + 1) := by omega
          generalize (wr.heap.size + 1) = g at hgD hgS RR1 ⊢
          generalize (wr.alloc (.cells #[.int .i64 ((k : Int) + 1)] 3)).alloc (.cells #[.int .i64 (t : Int)] 3) = W1 at RD1 RS1 RB1 RR1 ⊢
          have hnq : ∀ q, q < 1 → k < NN.getD q 0 ∧ fr ≤ NN.getD q 0 ∧ NN.getD q 0 ≤ tp := fun q hq => by
            have hmem : NN.getD q 0 ∈ nxr L k := by rw [← HNN.out, List.getD_eq_getElem?_getD, List.getElem?_eq_getElem (show q < NN.length by omega)]; exact List.getElem_mem _
            have := (HE.out.next (m := m) hk0 hlt (HP.out.reach k (Nat.le_refl _) HS.out).2).1 _ hmem
            omega
          have HNQ := Lib.hid hnq
          have hst : 1 ≤ cap := by rw [HST.out]; exact cut_le _
          unfold cap at hst
          have hv0 := HP.out.room k
          unfold cap at hv0
          have HLE := Lib.hid hLen
          clear hnq hLen
          obtain ⟨v0, hv0e⟩ : ∃ v0, v0 = F.1 k := ⟨_, rfl⟩
          rw [← hv0e] at hv0
          obtain ⟨x, hx⟩ : ∃ x, x = cut (v0 + 1) := ⟨_, rfl⟩
          have CU := Lib.hid (fun W => hx ▸ cutR_any ((v0 : Int) + 1) (v0 + 1) (by omega) W)
          have hxb : x ≤ 1048577 := by rw [hx]; exact cut_le _
          have HXE : Hid (x = cut (F.1 k + cut (wstp m L k))) := by show _ = _; rw [hx, hv0e, HST.out]
          have HV0 := Lib.hid hv0e
          have ws : IntKind.i64.wrap ((v0 : Int) + 1) = (v0 : Int) + 1 := IntWalk.i64_in _ (by omega)
          clear hx hv0e
          go_loopw [17] (fun v wv => ∃ q : Nat, q ≤ 1 ∧ v = .int .i64 q ∧ wv.rowIs D 3 M (fdF (hnds m F (NN.take q) x) fr) ∧ wv.rowIs S 4 M (fsF (hnds m F (NN.take q) x) fr) ∧ Below w.heap.size w wv ∧ Row wv (some ⟨g, 0, none⟩) 1 (NN.map fun p : Nat => (p : Int))) (fun v _ => 1 - (intOf v).toNat)
          case atStart => exact ⟨0, Nat.zero_le _, by go_num, RD1, RS1, RB1, RR1⟩
          case round =>
            clear RD1 RS1 RB1 RR1
            obtain ⟨q, hq, rfl, sD, sS, sB, sR⟩ := hrel
            by_cases hql : q < 1
            · obtain ⟨y1, y2, y3⟩ := HNQ.out q hql
              obtain ⟨np, hnp⟩ : ∃ np, np = NN.getD q 0 := ⟨_, rfl⟩
              rw [← hnp] at y1 y2 y3
              have hcr := sR.2 (by omega)
              obtain ⟨bb, ob, eb, hBb, hcb⟩ := hcr
              cases eb
              have d1 := hcb q hql
              rw [Nat.zero_add, ints_at (by rw [HLE.out]; exact hql), ← hnp] at d1
              clear hcb
              obtain ⟨jq, rfl⟩ : ∃ jq, np = fr + jq := ⟨np - fr, by omega⟩
              obtain ⟨G, hG⟩ : ∃ G, G = hnds m F (NN.take q) x := ⟨_, rfl⟩
              have hGk : G.1 (fr + j) = v0 := by
                rw [hG, HV0.out, ← HJ.out]
                exact (hnds_other m (NN.take q) F (fun hmem => by
                  obtain ⟨q2, hq2, e2⟩ := List.getElem_of_mem hmem
                  rw [List.length_take] at hq2
                  have := (HNQ.out q2 (by omega)).1
                  rw [List.getElem_take] at e2
                  rw [List.getD_eq_getElem?_getD, List.getElem?_eq_getElem (by rw [HLE.out]; omega), Option.getD_some, e2] at this
                  omega)).1
              have hGb : G.1 (fr + jq) ≤ 1048577 := by
                rw [hG]
                exact hnds_room (by rw [HXE.out]; exact cut_le _) _ F HP.out.room _
              rw [← hG] at sD sS
              have HG2 : Hid (hnds m F (NN.take (q + 1)) x = hnd m G (fr + jq) x) := by
                show _ = _
                rw [take_snocN (by rw [HLE.out]; exact hql), hnds_snoc, ← hG, ← hnp]
              clear hnp hG
              have t0 := sD.cell (i := j) (by omega)
              have t1 := sD.cell (i := jq) (by omega)
              have t2 := sD.frozen jq
              have t3 := sD.lt
              have t4 := sS.cell (i := jq) (by omega)
              have t5 := sS.frozen jq
              have t6 := sS.lt
              have t0' : wr.cell? ⟨D, j, none⟩ = some (.int .i64 (v0 : Int)) := by rw [t0]; unfold fdF; rw [hGk]
              obtain ⟨gv, hgv⟩ : ∃ gv, gv = G.1 (fr + jq) := ⟨_, rfl⟩
              obtain ⟨gs, hgs⟩ : ∃ gs, gs = G.2 (fr + jq) := ⟨_, rfl⟩
              have t1' : wr.cell? ⟨D, jq, none⟩ = some (.int .i64 (gv : Int)) := by rw [t1, hgv]; rfl
              have t4' : wr.cell? ⟨S, jq, none⟩ = some (.bool gs) := by rw [t4, hgs]; rfl
              rw [← hgv] at hGb
              have u1 : IntKind.i64.wrap ((fr : Int) + (jq : Int) - (fr : Int)) = (jq : Int) := by rw [IntWalk.i64_in _ (by omega)]; omega
              have i1 : (0 : Int) ≤ (jq : Int) := by omega
              have i2 : (jq : Int) < (M : Int) := by omega
              have i3 : (q : Int) < ((1 : Nat) : Int) := by omega
              have hDg : D ≠ g := hgD
              have hSg : S ≠ g := hgS
              have HGV := Lib.hid hgv
              have HGS := Lib.hid hgs
              have yes : gs = false ∨ (m = true ∧ gv < x) ∨ (m = false ∧ x < gv) → Hid (((wr.setCell ⟨D, jq, none⟩ (.int .i64 (x : Int))).setCell ⟨S, jq, none⟩ (.bool true)).rowIs D 3 M (fdF (hnds m F (NN.take (q + 1)) x) fr) ∧ ((wr.setCell ⟨D, jq, none⟩ (.int .i64 (x : Int))).setCell ⟨S, jq, none⟩ (.bool true)).rowIs S 4 M (fsF (hnds m F (NN.take (q + 1)) x) fr)) := fun hc => by
                rw [HGS.out, HGV.out] at hc
                show _ ∧ _
                rw [HG2.out]
                have e : hnd m G (fr + jq) x = (fun i => if i = fr + jq then x else G.1 i, fun i => if i = fr + jq then true else G.2 i) := by unfold hnd; rw [if_pos hc]
                rw [e]
                refine ⟨((sD.set jq (.int .i64 (x : Int))).setOther (a := ⟨S, jq, none⟩) hDS _).congr (fun i _ => ?_), ((sS.setOther (a := ⟨D, jq, none⟩) (Ne.symm hDS) _).set jq (.bool true)).congr (fun i _ => ?_)⟩
                · unfold fdF
                  by_cases h : i = jq
                  · subst h; simp
                  · rw [if_neg h]; simp [h]
                · unfold fsF
                  by_cases h : i = jq
                  · subst h; simp
                  · rw [if_neg h]; simp [h]
              have no : ¬ (gs = false ∨ (m = true ∧ gv < x) ∨ (m = false ∧ x < gv)) → Hid (wr.rowIs D 3 M (fdF (hnds m F (NN.take (q + 1)) x) fr) ∧ wr.rowIs S 4 M (fsF (hnds m F (NN.take (q + 1)) x) fr)) := fun hc => by
                rw [HGS.out, HGV.out] at hc
                show _ ∧ _
                rw [HG2.out]
                have e : hnd m G (fr + jq) x = G := by unfold hnd; rw [if_neg hc]
                rw [e]; exact ⟨sD, sS⟩
              have rB : Hid (Below w.heap.size w ((wr.setCell ⟨D, jq, none⟩ (.int .i64 (x : Int))).setCell ⟨S, jq, none⟩ (.bool true))) := (sB.setCell (p := ⟨D, jq, none⟩) hDw _).setCell (p := ⟨S, jq, none⟩) hSw _
              have rR : Hid (Row ((wr.setCell ⟨D, jq, none⟩ (.int .i64 (x : Int))).setCell ⟨S, jq, none⟩ (.bool true)) (some ⟨g, 0, none⟩) 1 (NN.map fun p : Nat => (p : Int))) := row_set (row_set sR (p := ⟨D, jq, none⟩) (Ne.symm hDg) _) (p := ⟨S, jq, none⟩) (Ne.symm hSg) _
              clear t0 t1 t4 hGk hgv hgs
              cases gs
              · have Y := yes (Or.inl rfl)
                clear yes no
                go_wp2_with (go_at_call 100; refine (CU.out _).mono ?_; rintro e w9 ⟨rfl, rfl⟩)
                go_roundw
                case rel => exact ⟨q + 1, by omega, by go_num, Y.out.1, Y.out.2, rB.out, rR.out⟩
                case measure => simp [intOf]; omega
              · cases m
                · by_cases hc : x < gv
                  · have Y := yes (Or.inr (Or.inr ⟨rfl, hc⟩))
                    have c1 : decide ((x : Int) < (gv : Int)) = true := by simp; omega
                    have c2 : decide (x < gv) = true := by simp; omega
                    clear yes no hc
                    go_wp2_with (go_at_call 100; refine (CU.out _).mono ?_; rintro e w9 ⟨rfl, rfl⟩)
                    go_roundw
                    case rel => exact ⟨q + 1, by omega, by go_num, Y.out.1, Y.out.2, rB.out, rR.out⟩
                    case measure => simp [intOf]; omega
                  · have Y := no (by simp; omega)
                    have c1 : decide ((x : Int) < (gv : Int)) = false := by simp; omega
                    have c2 : decide (x < gv) = false := by simp; omega
                    clear yes no hc rB rR
                    go_wp2_with (go_at_call 100; refine (CU.out _).mono ?_; rintro e w9 ⟨rfl, rfl⟩)
                    go_roundw
                    case rel => exact ⟨q + 1, by omega, by go_num, Y.out.1, Y.out.2, sB, sR⟩
                    case measure => simp [intOf]; omega
                · by_cases hc : gv < x
                  · have Y := yes (Or.inr (Or.inl ⟨rfl, hc⟩))
                    have c1 : decide ((gv : Int) < (x : Int)) = true := by simp; omega
                    have c2 : decide (gv < x) = true := by simp; omega
                    clear yes no hc
                    go_wp2_with (go_at_call 100; refine (CU.out _).mono ?_; rintro e w9 ⟨rfl, rfl⟩)
                    go_roundw
                    case rel => exact ⟨q + 1, by omega, by go_num, Y.out.1, Y.out.2, rB.out, rR.out⟩
                    case measure => simp [intOf]; omega
                  · have Y := no (by simp; omega)
                    have c1 : decide ((gv : Int) < (x : Int)) = false := by simp; omega
                    have c2 : decide (gv < x) = false := by simp; omega
                    clear yes no hc rB rR
                    go_wp2_with (go_at_call 100; refine (CU.out _).mono ?_; rintro e w9 ⟨rfl, rfl⟩)
                    go_roundw
                    case rel => exact ⟨q + 1, by omega, by go_num, Y.out.1, Y.out.2, sB, sR⟩
                    case measure => simp [intOf]; omega
            · obtain rfl : q = 1 := by omega
              have hall : NN.take 1 = NN := List.take_of_length_le (by rw [HLE.out]; omega)
              rw [hall] at sD sS
              have hstep := (winv_step HE.out hk0 hlt HP.out HW.out).2 HS.out
              rw [← HXE.out, ← HNN.out] at hstep
              have HSt := Lib.hid hstep
              clear hstep hall
              go_wp2
              go_roundw
              case rel => exact ⟨k + 1, hnds m F NN x, by omega, by omega, by go_num, HSt.out.1, HSt.out.2, sD, sS, sB⟩
              case measure => simp [intOf]; omega
        by_cases h20 : o = 20
        · subst h20
          have hrx := right_jump (can_right (mE_zero (wE_zero HE.out.whole).1).1 (p := k) (by rw [← HL.out]; exact hkn)) (by rw [HX.out]; rfl)
          rw [HX.out] at hrx
          simp only at hrx
          obtain ⟨t, ht⟩ : ∃ t : Nat, t = led L k := ⟨_, rfl⟩
          have ht2 : (t : Int) = (k : Int) + 1 + p2 := by rw [ht]; unfold led; rw [HX.out]; simp only; omega
          have wt : IntKind.i64.wrap ((k : Int) + 1 + p2) = (t : Int) := by rw [IntWalk.i64_in _ (by omega)]; exact ht2.symm
          obtain ⟨NN, hNN⟩ : ∃ NN : List Nat, NN = [k + 1, t] := ⟨_, rfl⟩
          have hLen : NN.length = 2 := by rw [hNN]; rfl
          have HNN : Hid (NN = nxr L k) := by show _ = _; rw [hNN]; unfold nxr; rw [if_neg (by rw [HX.out]; simp), if_pos (by rw [HX.out]), ht]
          have HST : Hid (1 = cut (wstp m L k)) := by show _ = _; unfold wstp; rw [if_neg (by rw [HX.out]; simp)]; rfl
          have RR1 : Row ((wr.alloc (.cells #[.int .i64 ((k : Int) + 1)] 3)).alloc (.cells #[.int .i64 ((k : Int) + 1), .int .i64 (t : Int)] 3)) (some ⟨wr.heap.size + 1, 0, none⟩) 2 (NN.map fun p : Nat => (p : Int)) := by
            have := row_lit (wr.alloc (.cells #[.int .i64 ((k : Int) + 1)] 3)) #[.int .i64 ((k : Int) + 1), .int .i64 (t : Int)] NN (by rw [hNN]; rfl) (by omega)
            rw [hLen, show (wr.alloc (.cells #[.int .i64 ((k : Int) + 1)] 3)).heap.size = wr.heap.size + 1 by simp] at this; exact this
          have RB1 : Below w.heap.size w ((wr.alloc (.cells #[.int .i64 ((k : Int) + 1)] 3)).alloc (.cells #[.int .i64 ((k : Int) + 1), .int .i64 (t : Int)] 3)) := keep_below hbl (keep_below (below_alloc _ _) (below_alloc _ _))
          have RD1 : ((wr.alloc (.cells #[.int .i64 ((k : Int) + 1)] 3)).alloc (.cells #[.int .i64 ((k : Int) + 1), .int .i64 (t : Int)] 3)).rowIs D 3 M (fdF F fr) := (qD.alloc _).alloc _
          have RS1 : ((wr.alloc (.cells #[.int .i64 ((k : Int) + 1)] 3)).alloc (.cells #[.int .i64 ((k : Int) + 1), .int .i64 (t : Int)] 3)).rowIs S 4 M (fsF F fr) := (qS.alloc _).alloc _
          clear hNN ht ht2 hrx
          go_wp2
          have hgD : D ≠ (wr.heap.size + 1) := by omega
          have hgS : S ≠ (wr.heap.size + 1) := by omega
          generalize (wr.heap.size + 1) = g at hgD hgS RR1 ⊢
          generalize (wr.alloc (.cells #[.int .i64 ((k : Int) + 1)] 3)).alloc (.cells #[.int .i64 ((k : Int) + 1), .int .i64 (t : Int)] 3) = W1 at RD1 RS1 RB1 RR1 ⊢
          have hnq : ∀ q, q < 2 → k < NN.getD q 0 ∧ fr ≤ NN.getD q 0 ∧ NN.getD q 0 ≤ tp := fun q hq => by
            have hmem : NN.getD q 0 ∈ nxr L k := by rw [← HNN.out, List.getD_eq_getElem?_getD, List.getElem?_eq_getElem (show q < NN.length by omega)]; exact List.getElem_mem _
            have := (HE.out.next (m := m) hk0 hlt (HP.out.reach k (Nat.le_refl _) HS.out).2).1 _ hmem
            omega
          have HNQ := Lib.hid hnq
          have hst : 1 ≤ cap := by rw [HST.out]; exact cut_le _
          unfold cap at hst
          have hv0 := HP.out.room k
          unfold cap at hv0
          have HLE := Lib.hid hLen
          clear hnq hLen
          obtain ⟨v0, hv0e⟩ : ∃ v0, v0 = F.1 k := ⟨_, rfl⟩
          rw [← hv0e] at hv0
          obtain ⟨x, hx⟩ : ∃ x, x = cut (v0 + 1) := ⟨_, rfl⟩
          have CU := Lib.hid (fun W => hx ▸ cutR_any ((v0 : Int) + 1) (v0 + 1) (by omega) W)
          have hxb : x ≤ 1048577 := by rw [hx]; exact cut_le _
          have HXE : Hid (x = cut (F.1 k + cut (wstp m L k))) := by show _ = _; rw [hx, hv0e, HST.out]
          have HV0 := Lib.hid hv0e
          have ws : IntKind.i64.wrap ((v0 : Int) + 1) = (v0 : Int) + 1 := IntWalk.i64_in _ (by omega)
          clear hx hv0e
          go_loopw [17] (fun v wv => ∃ q : Nat, q ≤ 2 ∧ v = .int .i64 q ∧ wv.rowIs D 3 M (fdF (hnds m F (NN.take q) x) fr) ∧ wv.rowIs S 4 M (fsF (hnds m F (NN.take q) x) fr) ∧ Below w.heap.size w wv ∧ Row wv (some ⟨g, 0, none⟩) 2 (NN.map fun p : Nat => (p : Int))) (fun v _ => 2 - (intOf v).toNat)
          case atStart => exact ⟨0, Nat.zero_le _, by go_num, RD1, RS1, RB1, RR1⟩
          case round =>
            clear RD1 RS1 RB1 RR1
            obtain ⟨q, hq, rfl, sD, sS, sB, sR⟩ := hrel
            by_cases hql : q < 2
            · obtain ⟨y1, y2, y3⟩ := HNQ.out q hql
              obtain ⟨np, hnp⟩ : ∃ np, np = NN.getD q 0 := ⟨_, rfl⟩
              rw [← hnp] at y1 y2 y3
              have hcr := sR.2 (by omega)
              obtain ⟨bb, ob, eb, hBb, hcb⟩ := hcr
              cases eb
              have d1 := hcb q hql
              rw [Nat.zero_add, ints_at (by rw [HLE.out]; exact hql), ← hnp] at d1
              clear hcb
              obtain ⟨jq, rfl⟩ : ∃ jq, np = fr + jq := ⟨np - fr, by omega⟩
              obtain ⟨G, hG⟩ : ∃ G, G = hnds m F (NN.take q) x := ⟨_, rfl⟩
              have hGk : G.1 (fr + j) = v0 := by
                rw [hG, HV0.out, ← HJ.out]
                exact (hnds_other m (NN.take q) F (fun hmem => by
                  obtain ⟨q2, hq2, e2⟩ := List.getElem_of_mem hmem
                  rw [List.length_take] at hq2
                  have := (HNQ.out q2 (by omega)).1
                  rw [List.getElem_take] at e2
                  rw [List.getD_eq_getElem?_getD, List.getElem?_eq_getElem (by rw [HLE.out]; omega), Option.getD_some, e2] at this
                  omega)).1
              have hGb : G.1 (fr + jq) ≤ 1048577 := by
                rw [hG]
                exact hnds_room (by rw [HXE.out]; exact cut_le _) _ F HP.out.room _
              rw [← hG] at sD sS
              have HG2 : Hid (hnds m F (NN.take (q + 1)) x = hnd m G (fr + jq) x) := by
                show _ = _
                rw [take_snocN (by rw [HLE.out]; exact hql), hnds_snoc, ← hG, ← hnp]
              clear hnp hG
              have t0 := sD.cell (i := j) (by omega)
              have t1 := sD.cell (i := jq) (by omega)
              have t2 := sD.frozen jq
              have t3 := sD.lt
              have t4 := sS.cell (i := jq) (by omega)
              have t5 := sS.frozen jq
              have t6 := sS.lt
              have t0' : wr.cell? ⟨D, j, none⟩ = some (.int .i64 (v0 : Int)) := by rw [t0]; unfold fdF; rw [hGk]
              obtain ⟨gv, hgv⟩ : ∃ gv, gv = G.1 (fr + jq) := ⟨_, rfl⟩
              obtain ⟨gs, hgs⟩ : ∃ gs, gs = G.2 (fr + jq) := ⟨_, rfl⟩
              have t1' : wr.cell? ⟨D, jq, none⟩ = some (.int .i64 (gv : Int)) := by rw [t1, hgv]; rfl
              have t4' : wr.cell? ⟨S, jq, none⟩ = some (.bool gs) := by rw [t4, hgs]; rfl
              rw [← hgv] at hGb
              have u1 : IntKind.i64.wrap ((fr : Int) + (jq : Int) - (fr : Int)) = (jq : Int) := by rw [IntWalk.i64_in _ (by omega)]; omega
              have i1 : (0 : Int) ≤ (jq : Int) := by omega
              have i2 : (jq : Int) < (M : Int) := by omega
              have i3 : (q : Int) < ((2 : Nat) : Int) := by omega
              have hDg : D ≠ g := hgD
              have hSg : S ≠ g := hgS
              have HGV := Lib.hid hgv
              have HGS := Lib.hid hgs
              have yes : gs = false ∨ (m = true ∧ gv < x) ∨ (m = false ∧ x < gv) → Hid (((wr.setCell ⟨D, jq, none⟩ (.int .i64 (x : Int))).setCell ⟨S, jq, none⟩ (.bool true)).rowIs D 3 M (fdF (hnds m F (NN.take (q + 1)) x) fr) ∧ ((wr.setCell ⟨D, jq, none⟩ (.int .i64 (x : Int))).setCell ⟨S, jq, none⟩ (.bool true)).rowIs S 4 M (fsF (hnds m F (NN.take (q + 1)) x) fr)) := fun hc => by
                rw [HGS.out, HGV.out] at hc
                show _ ∧ _
                rw [HG2.out]
                have e : hnd m G (fr + jq) x = (fun i => if i = fr + jq then x else G.1 i, fun i => if i = fr + jq then true else G.2 i) := by unfold hnd; rw [if_pos hc]
                rw [e]
                refine ⟨((sD.set jq (.int .i64 (x : Int))).setOther (a := ⟨S, jq, none⟩) hDS _).congr (fun i _ => ?_), ((sS.setOther (a := ⟨D, jq, none⟩) (Ne.symm hDS) _).set jq (.bool true)).congr (fun i _ => ?_)⟩
                · unfold fdF
                  by_cases h : i = jq
                  · subst h; simp
                  · rw [if_neg h]; simp [h]
                · unfold fsF
                  by_cases h : i = jq
                  · subst h; simp
                  · rw [if_neg h]; simp [h]
              have no : ¬ (gs = false ∨ (m = true ∧ gv < x) ∨ (m = false ∧ x < gv)) → Hid (wr.rowIs D 3 M (fdF (hnds m F (NN.take (q + 1)) x) fr) ∧ wr.rowIs S 4 M (fsF (hnds m F (NN.take (q + 1)) x) fr)) := fun hc => by
                rw [HGS.out, HGV.out] at hc
                show _ ∧ _
                rw [HG2.out]
                have e : hnd m G (fr + jq) x = G := by unfold hnd; rw [if_neg hc]
                rw [e]; exact ⟨sD, sS⟩
              have rB : Hid (Below w.heap.size w ((wr.setCell ⟨D, jq, none⟩ (.int .i64 (x : Int))).setCell ⟨S, jq, none⟩ (.bool true))) := (sB.setCell (p := ⟨D, jq, none⟩) hDw _).setCell (p := ⟨S, jq, none⟩) hSw _
              have rR : Hid (Row ((wr.setCell ⟨D, jq, none⟩ (.int .i64 (x : Int))).setCell ⟨S, jq, none⟩ (.bool true)) (some ⟨g, 0, none⟩) 2 (NN.map fun p : Nat => (p : Int))) := row_set (row_set sR (p := ⟨D, jq, none⟩) (Ne.symm hDg) _) (p := ⟨S, jq, none⟩) (Ne.symm hSg) _
              clear t0 t1 t4 hGk hgv hgs
              cases gs
              · have Y := yes (Or.inl rfl)
                clear yes no
                go_wp2_with (go_at_call 100; refine (CU.out _).mono ?_; rintro e w9 ⟨rfl, rfl⟩)
                go_roundw
                case rel => exact ⟨q + 1, by omega, by go_num, Y.out.1, Y.out.2, rB.out, rR.out⟩
                case measure => simp [intOf]; omega
              · cases m
                · by_cases hc : x < gv
                  · have Y := yes (Or.inr (Or.inr ⟨rfl, hc⟩))
                    have c1 : decide ((x : Int) < (gv : Int)) = true := by simp; omega
                    have c2 : decide (x < gv) = true := by simp; omega
                    clear yes no hc
                    go_wp2_with (go_at_call 100; refine (CU.out _).mono ?_; rintro e w9 ⟨rfl, rfl⟩)
                    go_roundw
                    case rel => exact ⟨q + 1, by omega, by go_num, Y.out.1, Y.out.2, rB.out, rR.out⟩
                    case measure => simp [intOf]; omega
                  · have Y := no (by simp; omega)
                    have c1 : decide ((x : Int) < (gv : Int)) = false := by simp; omega
                    have c2 : decide (x < gv) = false := by simp; omega
                    clear yes no hc rB rR
                    go_wp2_with (go_at_call 100; refine (CU.out _).mono ?_; rintro e w9 ⟨rfl, rfl⟩)
                    go_roundw
                    case rel => exact ⟨q + 1, by omega, by go_num, Y.out.1, Y.out.2, sB, sR⟩
                    case measure => simp [intOf]; omega
                · by_cases hc : gv < x
                  · have Y := yes (Or.inr (Or.inl ⟨rfl, hc⟩))
                    have c1 : decide ((gv : Int) < (x : Int)) = true := by simp; omega
                    have c2 : decide (gv < x) = true := by simp; omega
                    clear yes no hc
                    go_wp2_with (go_at_call 100; refine (CU.out _).mono ?_; rintro e w9 ⟨rfl, rfl⟩)
                    go_roundw
                    case rel => exact ⟨q + 1, by omega, by go_num, Y.out.1, Y.out.2, rB.out, rR.out⟩
                    case measure => simp [intOf]; omega
                  · have Y := no (by simp; omega)
                    have c1 : decide ((gv : Int) < (x : Int)) = false := by simp; omega
                    have c2 : decide (gv < x) = false := by simp; omega
                    clear yes no hc rB rR
                    go_wp2_with (go_at_call 100; refine (CU.out _).mono ?_; rintro e w9 ⟨rfl, rfl⟩)
                    go_roundw
                    case rel => exact ⟨q + 1, by omega, by go_num, Y.out.1, Y.out.2, sB, sR⟩
                    case measure => simp [intOf]; omega
            · obtain rfl : q = 2 := by omega
              have hall : NN.take 2 = NN := List.take_of_length_le (by rw [HLE.out]; omega)
              rw [hall] at sD sS
              have hstep := (winv_step HE.out hk0 hlt HP.out HW.out).2 HS.out
              rw [← HXE.out, ← HNN.out] at hstep
              have HSt := Lib.hid hstep
              clear hstep hall
              go_wp2
              go_roundw
              case rel => exact ⟨k + 1, hnds m F NN x, by omega, by omega, by go_num, HSt.out.1, HSt.out.2, sD, sS, sB⟩
              case measure => simp [intOf]; omega
        by_cases h21 : o = 21
        · subst h21
          have hrA := loop_room HE.out.whole (p := k) (by rw [HX.out])
          rw [HX.out] at hrA
          simp only at hrA
          obtain ⟨d, e1, e2, e3, e4, e5, e6⟩ := HE.out.sound.opn (p := k) (by rw [HX.out]; rfl)
          have hnb : nb L k = d + 1 := nbo_of e1 e2
          have hdt : d + 1 ≤ tp := by
            have := ((HE.out.next (m := m) hk0 hlt (HP.out.reach k (Nat.le_refl _) HS.out).2).1 (nb L k) (by unfold nxr; rw [if_neg (by rw [HX.out]; simp), if_neg (by rw [HX.out]; simp), if_pos (by rw [HX.out])]; simp)).2.1
            omega
          have hEnd : Ends L (sk L d) (k + 1) d := ⟨HE.out.whole, by omega, by omega, by rw [e5, sk_opn' (by rw [HX.out]; rfl)], rfl, by unfold cls at e4; simp at e4; omega⟩
          obtain ⟨bm, om, rfl, hBm, hcm⟩ := (HM.out.below hbl).2 (by rw [HN1.out]; omega)
          have hmp := hcm k (by rw [HN1.out]; omega)
          rw [mL_at (by rw [← HL.out]; exact hkn), e1] at hmp
          have HMr : Hid (Row wr (some ⟨bm, om, none⟩) n1 (mL L)) := HM.out.below hbl
          have k2 : (k : Int) < (n1 : Int) := by rw [HN1.out]; omega
          have hN' : d - (k + 1) < N := by have := HNN0.out; omega
          have Bo := below_alloc wr (.cells #[.int .i64 ((k : Int) + 1)] 3)
          have CR := Lib.hid (IH.out (d - (k + 1)) hN' (some ⟨bm, om, none⟩) (k + 1) d (sk L d) (wr.alloc (.cells #[.int .i64 ((k : Int) + 1)] 3)) rfl hEnd ((HR.out.below hbl).below Bo) (HMr.out.below Bo))
          obtain ⟨u, hu⟩ : ∃ u, u = cut (ub m L (k + 1)) := ⟨_, rfl⟩
          rw [← hu] at CR
          have hub : u ≤ 1048577 := by rw [hu]; exact cut_le _
          obtain ⟨A, rfl⟩ : ∃ A : Nat, p2 = A := ⟨p2.toNat, by omega⟩
          have hsc := stp_cut (m := m) HE.out.whole (i := k) (by rw [HX.out])
          rw [HX.out, ← hu] at hsc
          simp only [Int.toNat_natCast] at hsc
          obtain ⟨hs1, hs2⟩ := hsc
          have wu : IntKind.i64.wrap ((u : Int) + 1) = (u : Int) + 1 := IntWalk.i64_in _ (by omega)
          have wd : IntKind.i64.wrap ((d : Int) + 1) = (d : Int) + 1 := IntWalk.i64_in _ (by omega)
          have hDl1 : D < (wr.alloc (.cells #[.int .i64 ((k : Int) + 1)] 3)).heap.size := by simp; omega
          have qD1 := qD.alloc (.cells #[.int .i64 ((k : Int) + 1)] 3)
          have qS1 := qS.alloc (.cells #[.int .i64 ((k : Int) + 1)] 3)
          have hbl1 := keep_below hbl Bo
          have z1 := keep_cell Bo hc2
          have z2 := keep_cell Bo hmp
          clear hcm e1 e2 e4 e5 e6 hEnd hN' hu HM
          by_cases hle : u + 1 ≤ 1048576
          · skip
            have P0 := Nat.mul_le_mul (show A ≤ 1000 by omega) (show u + 1 ≤ 1048577 by omega)
            obtain ⟨P, hP⟩ : ∃ P, P = A * (u + 1) := ⟨_, rfl⟩
            rw [← hP] at P0 hs1
            have wP : IntKind.i64.wrap ((A : Int) * ((u : Int) + 1)) = (P : Int) := by
              have : (A : Int) * ((u : Int) + 1) = ((A * (u + 1) : Nat) : Int) := by rw [Int.natCast_mul]; rfl
              rw [this, ← hP]; exact IntWalk.i64_in _ (by omega)
            have wQ : IntKind.i64.wrap (1 + (P : Int)) = 1 + (P : Int) := IntWalk.i64_in _ (by omega)
            have hle1 : decide ((u : Int) + 1 ≤ 1048576) = true := by simp; omega
            have hle2 : decide (u + 1 ≤ 1048576) = true := by simp; omega
            obtain ⟨ST, hST⟩ : ∃ ST : Nat, ST = cut (1 + P) := ⟨_, rfl⟩
            have HST : Hid (ST = cut (wstp m L k)) := by show _ = _; rw [hST]; exact hs1 (by omega)
            have CT := Lib.hid (fun W => cutR_any (1 + (P : Int)) (1 + P) (by omega) W)
            rw [← hST] at CT
            obtain ⟨NN, hNN⟩ : ∃ NN : List Nat, NN = [d + 1] := ⟨_, rfl⟩
            have hLen : NN.length = 1 := by rw [hNN]; rfl
            have HNN : Hid (NN = nxr L k) := by show _ = _; rw [hNN]; unfold nxr; rw [if_neg (by rw [HX.out]; simp), if_neg (by rw [HX.out]; simp), if_pos (by rw [HX.out]), hnb]
            clear hP hs1 hs2 hST hnb
            go_wp2_with (first | (go_at_call 44; refine CR.out.mono ?_; rintro e w9 ⟨rfl, hb9⟩; have z3 := keep_cell hb9 z1; have z4 := keep_cell hb9 z2) | (go_at_call 100; refine (CT.out _).mono ?_; rintro e w8 ⟨rfl, rfl⟩))
            have hs9 := hb9.size
            have RR1 : Row (w9.alloc (.cells #[.int .i64 ((d : Int) + 1)] 3)) (some ⟨w9.heap.size, 0, none⟩) 1 (NN.map fun p : Nat => (p : Int)) := by
              have := row_lit (w9) #[.int .i64 ((d : Int) + 1)] NN (by rw [hNN]; rfl) (by omega)
              rw [hLen] at this; exact this
            have RB1 : Below w.heap.size w (w9.alloc (.cells #[.int .i64 ((d : Int) + 1)] 3)) := keep_below (keep_below hbl1 hb9) (below_alloc _ _)
            have RD1 : (w9.alloc (.cells #[.int .i64 ((d : Int) + 1)] 3)).rowIs D 3 M (fdF F fr) := (keep_rowIs hb9 qD1).alloc _
            have RS1 : (w9.alloc (.cells #[.int .i64 ((d : Int) + 1)] 3)).rowIs S 4 M (fsF F fr) := (qS1.of_block (hb9.block S qS1.lt)).alloc _
            clear hNN
            clear hle1 hle2 P0 hub wP wQ wu CT CR
            have HHLE := Lib.hid hle
            clear hle
            have hD9 : D < w9.heap.size := by omega
            have hS9 : S < w9.heap.size := by have := qS1.lt; omega
            have hgD : D ≠ w9.heap.size := by omega
            have hgS : S ≠ w9.heap.size := by omega
            generalize w9.heap.size = g at hgD hgS RR1 ⊢
            generalize w9.alloc (.cells #[.int .i64 ((d : Int) + 1)] 3) = W1 at RD1 RS1 RB1 RR1 ⊢
            have hnq : ∀ q, q < 1 → k < NN.getD q 0 ∧ fr ≤ NN.getD q 0 ∧ NN.getD q 0 ≤ tp := fun q hq => by
              have hmem : NN.getD q 0 ∈ nxr L k := by rw [← HNN.out, List.getD_eq_getElem?_getD, List.getElem?_eq_getElem (show q < NN.length by omega)]; exact List.getElem_mem _
              have := (HE.out.next (m := m) hk0 hlt (HP.out.reach k (Nat.le_refl _) HS.out).2).1 _ hmem
              omega
            have HNQ := Lib.hid hnq
            have hst : ST ≤ cap := by rw [HST.out]; exact cut_le _
            unfold cap at hst
            have hv0 := HP.out.room k
            unfold cap at hv0
            have HLE := Lib.hid hLen
            clear hnq hLen
            obtain ⟨v0, hv0e⟩ : ∃ v0, v0 = F.1 k := ⟨_, rfl⟩
            rw [← hv0e] at hv0
            obtain ⟨x, hx⟩ : ∃ x, x = cut (v0 + ST) := ⟨_, rfl⟩
            have CU := Lib.hid (fun W => hx ▸ cutR_any ((v0 : Int) + (ST : Int)) (v0 + ST) (by omega) W)
            have hxb : x ≤ 1048577 := by rw [hx]; exact cut_le _
            have HXE : Hid (x = cut (F.1 k + cut (wstp m L k))) := by show _ = _; rw [hx, hv0e, HST.out]
            have HV0 := Lib.hid hv0e
            have ws : IntKind.i64.wrap ((v0 : Int) + (ST : Int)) = (v0 : Int) + (ST : Int) := IntWalk.i64_in _ (by omega)
            clear hx hv0e
            go_loopw [17] (fun v wv => ∃ q : Nat, q ≤ 1 ∧ v = .int .i64 q ∧ wv.rowIs D 3 M (fdF (hnds m F (NN.take q) x) fr) ∧ wv.rowIs S 4 M (fsF (hnds m F (NN.take q) x) fr) ∧ Below w.heap.size w wv ∧ Row wv (some ⟨g, 0, none⟩) 1 (NN.map fun p : Nat => (p : Int))) (fun v _ => 1 - (intOf v).toNat)
            case atStart => exact ⟨0, Nat.zero_le _, by go_num, RD1, RS1, RB1, RR1⟩
            case round =>
              clear RD1 RS1 RB1 RR1
              obtain ⟨q, hq, rfl, sD, sS, sB, sR⟩ := hrel
              by_cases hql : q < 1
              · obtain ⟨y1, y2, y3⟩ := HNQ.out q hql
                obtain ⟨np, hnp⟩ : ∃ np, np = NN.getD q 0 := ⟨_, rfl⟩
                rw [← hnp] at y1 y2 y3
                have hcr := sR.2 (by omega)
                obtain ⟨bb, ob, eb, hBb, hcb⟩ := hcr
                cases eb
                have d1 := hcb q hql
                rw [Nat.zero_add, ints_at (by rw [HLE.out]; exact hql), ← hnp] at d1
                clear hcb
                obtain ⟨jq, rfl⟩ : ∃ jq, np = fr + jq := ⟨np - fr, by omega⟩
                obtain ⟨G, hG⟩ : ∃ G, G = hnds m F (NN.take q) x := ⟨_, rfl⟩
                have hGk : G.1 (fr + j) = v0 := by
                  rw [hG, HV0.out, ← HJ.out]
                  exact (hnds_other m (NN.take q) F (fun hmem => by
                    obtain ⟨q2, hq2, e2⟩ := List.getElem_of_mem hmem
                    rw [List.length_take] at hq2
                    have := (HNQ.out q2 (by omega)).1
                    rw [List.getElem_take] at e2
                    rw [List.getD_eq_getElem?_getD, List.getElem?_eq_getElem (by rw [HLE.out]; omega), Option.getD_some, e2] at this
                    omega)).1
                have hGb : G.1 (fr + jq) ≤ 1048577 := by
                  rw [hG]
                  exact hnds_room (by rw [HXE.out]; exact cut_le _) _ F HP.out.room _
                rw [← hG] at sD sS
                have HG2 : Hid (hnds m F (NN.take (q + 1)) x = hnd m G (fr + jq) x) := by
                  show _ = _
                  rw [take_snocN (by rw [HLE.out]; exact hql), hnds_snoc, ← hG, ← hnp]
                clear hnp hG
                have t0 := sD.cell (i := j) (by omega)
                have t1 := sD.cell (i := jq) (by omega)
                have t2 := sD.frozen jq
                have t3 := sD.lt
                have t4 := sS.cell (i := jq) (by omega)
                have t5 := sS.frozen jq
                have t6 := sS.lt
                have t0' : wr.cell? ⟨D, j, none⟩ = some (.int .i64 (v0 : Int)) := by rw [t0]; unfold fdF; rw [hGk]
                obtain ⟨gv, hgv⟩ : ∃ gv, gv = G.1 (fr + jq) := ⟨_, rfl⟩
                obtain ⟨gs, hgs⟩ : ∃ gs, gs = G.2 (fr + jq) := ⟨_, rfl⟩
                have t1' : wr.cell? ⟨D, jq, none⟩ = some (.int .i64 (gv : Int)) := by rw [t1, hgv]; rfl
                have t4' : wr.cell? ⟨S, jq, none⟩ = some (.bool gs) := by rw [t4, hgs]; rfl
                rw [← hgv] at hGb
                have u1 : IntKind.i64.wrap ((fr : Int) + (jq : Int) - (fr : Int)) = (jq : Int) := by rw [IntWalk.i64_in _ (by omega)]; omega
                have i1 : (0 : Int) ≤ (jq : Int) := by omega
                have i2 : (jq : Int) < (M : Int) := by omega
                have i3 : (q : Int) < ((1 : Nat) : Int) := by omega
                have hDg : D ≠ g := hgD
                have hSg : S ≠ g := hgS
                have HGV := Lib.hid hgv
                have HGS := Lib.hid hgs
                have yes : gs = false ∨ (m = true ∧ gv < x) ∨ (m = false ∧ x < gv) → Hid (((wr.setCell ⟨D, jq, none⟩ (.int .i64 (x : Int))).setCell ⟨S, jq, none⟩ (.bool true)).rowIs D 3 M (fdF (hnds m F (NN.take (q + 1)) x) fr) ∧ ((wr.setCell ⟨D, jq, none⟩ (.int .i64 (x : Int))).setCell ⟨S, jq, none⟩ (.bool true)).rowIs S 4 M (fsF (hnds m F (NN.take (q + 1)) x) fr)) := fun hc => by
                  rw [HGS.out, HGV.out] at hc
                  show _ ∧ _
                  rw [HG2.out]
                  have e : hnd m G (fr + jq) x = (fun i => if i = fr + jq then x else G.1 i, fun i => if i = fr + jq then true else G.2 i) := by unfold hnd; rw [if_pos hc]
                  rw [e]
                  refine ⟨((sD.set jq (.int .i64 (x : Int))).setOther (a := ⟨S, jq, none⟩) hDS _).congr (fun i _ => ?_), ((sS.setOther (a := ⟨D, jq, none⟩) (Ne.symm hDS) _).set jq (.bool true)).congr (fun i _ => ?_)⟩
                  · unfold fdF
                    by_cases h : i = jq
                    · subst h; simp
                    · rw [if_neg h]; simp [h]
                  · unfold fsF
                    by_cases h : i = jq
                    · subst h; simp
                    · rw [if_neg h]; simp [h]
                have no : ¬ (gs = false ∨ (m = true ∧ gv < x) ∨ (m = false ∧ x < gv)) → Hid (wr.rowIs D 3 M (fdF (hnds m F (NN.take (q + 1)) x) fr) ∧ wr.rowIs S 4 M (fsF (hnds m F (NN.take (q + 1)) x) fr)) := fun hc => by
                  rw [HGS.out, HGV.out] at hc
                  show _ ∧ _
                  rw [HG2.out]
                  have e : hnd m G (fr + jq) x = G := by unfold hnd; rw [if_neg hc]
                  rw [e]; exact ⟨sD, sS⟩
                have rB : Hid (Below w.heap.size w ((wr.setCell ⟨D, jq, none⟩ (.int .i64 (x : Int))).setCell ⟨S, jq, none⟩ (.bool true))) := (sB.setCell (p := ⟨D, jq, none⟩) hDw _).setCell (p := ⟨S, jq, none⟩) hSw _
                have rR : Hid (Row ((wr.setCell ⟨D, jq, none⟩ (.int .i64 (x : Int))).setCell ⟨S, jq, none⟩ (.bool true)) (some ⟨g, 0, none⟩) 1 (NN.map fun p : Nat => (p : Int))) := row_set (row_set sR (p := ⟨D, jq, none⟩) (Ne.symm hDg) _) (p := ⟨S, jq, none⟩) (Ne.symm hSg) _
                clear t0 t1 t4 hGk hgv hgs
                cases gs
                · have Y := yes (Or.inl rfl)
                  clear yes no
                  go_wp2_with (go_at_call 100; refine (CU.out _).mono ?_; rintro e w9 ⟨rfl, rfl⟩)
                  go_roundw
                  case rel => exact ⟨q + 1, by omega, by go_num, Y.out.1, Y.out.2, rB.out, rR.out⟩
                  case measure => simp [intOf]; omega
                · cases m
                  · by_cases hc : x < gv
                    · have Y := yes (Or.inr (Or.inr ⟨rfl, hc⟩))
                      have c1 : decide ((x : Int) < (gv : Int)) = true := by simp; omega
                      have c2 : decide (x < gv) = true := by simp; omega
                      clear yes no hc
                      go_wp2_with (go_at_call 100; refine (CU.out _).mono ?_; rintro e w9 ⟨rfl, rfl⟩)
                      go_roundw
                      case rel => exact ⟨q + 1, by omega, by go_num, Y.out.1, Y.out.2, rB.out, rR.out⟩
                      case measure => simp [intOf]; omega
                    · have Y := no (by simp; omega)
                      have c1 : decide ((x : Int) < (gv : Int)) = false := by simp; omega
                      have c2 : decide (x < gv) = false := by simp; omega
                      clear yes no hc rB rR
                      go_wp2_with (go_at_call 100; refine (CU.out _).mono ?_; rintro e w9 ⟨rfl, rfl⟩)
                      go_roundw
                      case rel => exact ⟨q + 1, by omega, by go_num, Y.out.1, Y.out.2, sB, sR⟩
                      case measure => simp [intOf]; omega
                  · by_cases hc : gv < x
                    · have Y := yes (Or.inr (Or.inl ⟨rfl, hc⟩))
                      have c1 : decide ((gv : Int) < (x : Int)) = true := by simp; omega
                      have c2 : decide (gv < x) = true := by simp; omega
                      clear yes no hc
                      go_wp2_with (go_at_call 100; refine (CU.out _).mono ?_; rintro e w9 ⟨rfl, rfl⟩)
                      go_roundw
                      case rel => exact ⟨q + 1, by omega, by go_num, Y.out.1, Y.out.2, rB.out, rR.out⟩
                      case measure => simp [intOf]; omega
                    · have Y := no (by simp; omega)
                      have c1 : decide ((gv : Int) < (x : Int)) = false := by simp; omega
                      have c2 : decide (gv < x) = false := by simp; omega
                      clear yes no hc rB rR
                      go_wp2_with (go_at_call 100; refine (CU.out _).mono ?_; rintro e w9 ⟨rfl, rfl⟩)
                      go_roundw
                      case rel => exact ⟨q + 1, by omega, by go_num, Y.out.1, Y.out.2, sB, sR⟩
                      case measure => simp [intOf]; omega
              · obtain rfl : q = 1 := by omega
                have hall : NN.take 1 = NN := List.take_of_length_le (by rw [HLE.out]; omega)
                rw [hall] at sD sS
                have hstep := (winv_step HE.out hk0 hlt HP.out HW.out).2 HS.out
                rw [← HXE.out, ← HNN.out] at hstep
                have HSt := Lib.hid hstep
                clear hstep hall
                go_wp2
                go_roundw
                case rel => exact ⟨k + 1, hnds m F NN x, by omega, by omega, by go_num, HSt.out.1, HSt.out.2, sD, sS, sB⟩
                case measure => simp [intOf]; omega
          · skip
            have hle1 : decide ((u : Int) + 1 ≤ 1048576) = false := by simp; omega
            have hle2 : decide (u + 1 ≤ 1048576) = false := by simp; omega
            obtain ⟨ST, hST⟩ : ∃ ST : Nat, ST = 1048577 := ⟨_, rfl⟩
            have HST : Hid (ST = cut (wstp m L k)) := by show _ = _; rw [hST]; exact hs2 (by omega)
            obtain ⟨NN, hNN⟩ : ∃ NN : List Nat, NN = [d + 1] := ⟨_, rfl⟩
            have hLen : NN.length = 1 := by rw [hNN]; rfl
            have HNN : Hid (NN = nxr L k) := by show _ = _; rw [hNN]; unfold nxr; rw [if_neg (by rw [HX.out]; simp), if_neg (by rw [HX.out]; simp), if_pos (by rw [HX.out]), hnb]
            clear hs1 hs2 hnb
            go_wp2_with (first | (go_at_call 44; refine CR.out.mono ?_; rintro e w9 ⟨rfl, hb9⟩; have z3 := keep_cell hb9 z1; have z4 := keep_cell hb9 z2))
            have hs9 := hb9.size
            have hST1 : (1048577 : Int) = (ST : Int) := by rw [hST]; rfl
            rw [hST1]
            clear hST1 hST
            have RR1 : Row (w9.alloc (.cells #[.int .i64 ((d : Int) + 1)] 3)) (some ⟨w9.heap.size, 0, none⟩) 1 (NN.map fun p : Nat => (p : Int)) := by
              have := row_lit (w9) #[.int .i64 ((d : Int) + 1)] NN (by rw [hNN]; rfl) (by omega)
              rw [hLen] at this; exact this
            have RB1 : Below w.heap.size w (w9.alloc (.cells #[.int .i64 ((d : Int) + 1)] 3)) := keep_below (keep_below hbl1 hb9) (below_alloc _ _)
            have RD1 : (w9.alloc (.cells #[.int .i64 ((d : Int) + 1)] 3)).rowIs D 3 M (fdF F fr) := (keep_rowIs hb9 qD1).alloc _
            have RS1 : (w9.alloc (.cells #[.int .i64 ((d : Int) + 1)] 3)).rowIs S 4 M (fsF F fr) := (qS1.of_block (hb9.block S qS1.lt)).alloc _
            clear hNN
            clear hle1 hle2 hub wu CR
            have HHLE := Lib.hid hle
            clear hle
            have hD9 : D < w9.heap.size := by omega
            have hS9 : S < w9.heap.size := by have := qS1.lt; omega
            have hgD : D ≠ w9.heap.size := by omega
            have hgS : S ≠ w9.heap.size := by omega
            generalize w9.heap.size = g at hgD hgS RR1 ⊢
            generalize w9.alloc (.cells #[.int .i64 ((d : Int) + 1)] 3) = W1 at RD1 RS1 RB1 RR1 ⊢
            have hnq : ∀ q, q < 1 → k < NN.getD q 0 ∧ fr ≤ NN.getD q 0 ∧ NN.getD q 0 ≤ tp := fun q hq => by
              have hmem : NN.getD q 0 ∈ nxr L k := by rw [← HNN.out, List.getD_eq_getElem?_getD, List.getElem?_eq_getElem (show q < NN.length by omega)]; exact List.getElem_mem _
              have := (HE.out.next (m := m) hk0 hlt (HP.out.reach k (Nat.le_refl _) HS.out).2).1 _ hmem
              omega
            have HNQ := Lib.hid hnq
            have hst : ST ≤ cap := by rw [HST.out]; exact cut_le _
            unfold cap at hst
            have hv0 := HP.out.room k
            unfold cap at hv0
            have HLE := Lib.hid hLen
            clear hnq hLen
            obtain ⟨v0, hv0e⟩ : ∃ v0, v0 = F.1 k := ⟨_, rfl⟩
            rw [← hv0e] at hv0
            obtain ⟨x, hx⟩ : ∃ x, x = cut (v0 + ST) := ⟨_, rfl⟩
            have CU := Lib.hid (fun W => hx ▸ cutR_any ((v0 : Int) + (ST : Int)) (v0 + ST) (by omega) W)
            have hxb : x ≤ 1048577 := by rw [hx]; exact cut_le _
            have HXE : Hid (x = cut (F.1 k + cut (wstp m L k))) := by show _ = _; rw [hx, hv0e, HST.out]
            have HV0 := Lib.hid hv0e
            have ws : IntKind.i64.wrap ((v0 : Int) + (ST : Int)) = (v0 : Int) + (ST : Int) := IntWalk.i64_in _ (by omega)
            clear hx hv0e
            go_loopw [17] (fun v wv => ∃ q : Nat, q ≤ 1 ∧ v = .int .i64 q ∧ wv.rowIs D 3 M (fdF (hnds m F (NN.take q) x) fr) ∧ wv.rowIs S 4 M (fsF (hnds m F (NN.take q) x) fr) ∧ Below w.heap.size w wv ∧ Row wv (some ⟨g, 0, none⟩) 1 (NN.map fun p : Nat => (p : Int))) (fun v _ => 1 - (intOf v).toNat)
            case atStart => exact ⟨0, Nat.zero_le _, by go_num, RD1, RS1, RB1, RR1⟩
            case round =>
              clear RD1 RS1 RB1 RR1
              obtain ⟨q, hq, rfl, sD, sS, sB, sR⟩ := hrel
              by_cases hql : q < 1
              · obtain ⟨y1, y2, y3⟩ := HNQ.out q hql
                obtain ⟨np, hnp⟩ : ∃ np, np = NN.getD q 0 := ⟨_, rfl⟩
                rw [← hnp] at y1 y2 y3
                have hcr := sR.2 (by omega)
                obtain ⟨bb, ob, eb, hBb, hcb⟩ := hcr
                cases eb
                have d1 := hcb q hql
                rw [Nat.zero_add, ints_at (by rw [HLE.out]; exact hql), ← hnp] at d1
                clear hcb
                obtain ⟨jq, rfl⟩ : ∃ jq, np = fr + jq := ⟨np - fr, by omega⟩
                obtain ⟨G, hG⟩ : ∃ G, G = hnds m F (NN.take q) x := ⟨_, rfl⟩
                have hGk : G.1 (fr + j) = v0 := by
                  rw [hG, HV0.out, ← HJ.out]
                  exact (hnds_other m (NN.take q) F (fun hmem => by
                    obtain ⟨q2, hq2, e2⟩ := List.getElem_of_mem hmem
                    rw [List.length_take] at hq2
                    have := (HNQ.out q2 (by omega)).1
                    rw [List.getElem_take] at e2
                    rw [List.getD_eq_getElem?_getD, List.getElem?_eq_getElem (by rw [HLE.out]; omega), Option.getD_some, e2] at this
                    omega)).1
                have hGb : G.1 (fr + jq) ≤ 1048577 := by
                  rw [hG]
                  exact hnds_room (by rw [HXE.out]; exact cut_le _) _ F HP.out.room _
                rw [← hG] at sD sS
                have HG2 : Hid (hnds m F (NN.take (q + 1)) x = hnd m G (fr + jq) x) := by
                  show _ = _
                  rw [take_snocN (by rw [HLE.out]; exact hql), hnds_snoc, ← hG, ← hnp]
                clear hnp hG
                have t0 := sD.cell (i := j) (by omega)
                have t1 := sD.cell (i := jq) (by omega)
                have t2 := sD.frozen jq
                have t3 := sD.lt
                have t4 := sS.cell (i := jq) (by omega)
                have t5 := sS.frozen jq
                have t6 := sS.lt
                have t0' : wr.cell? ⟨D, j, none⟩ = some (.int .i64 (v0 : Int)) := by rw [t0]; unfold fdF; rw [hGk]
                obtain ⟨gv, hgv⟩ : ∃ gv, gv = G.1 (fr + jq) := ⟨_, rfl⟩
                obtain ⟨gs, hgs⟩ : ∃ gs, gs = G.2 (fr + jq) := ⟨_, rfl⟩
                have t1' : wr.cell? ⟨D, jq, none⟩ = some (.int .i64 (gv : Int)) := by rw [t1, hgv]; rfl
                have t4' : wr.cell? ⟨S, jq, none⟩ = some (.bool gs) := by rw [t4, hgs]; rfl
                rw [← hgv] at hGb
                have u1 : IntKind.i64.wrap ((fr : Int) + (jq : Int) - (fr : Int)) = (jq : Int) := by rw [IntWalk.i64_in _ (by omega)]; omega
                have i1 : (0 : Int) ≤ (jq : Int) := by omega
                have i2 : (jq : Int) < (M : Int) := by omega
                have i3 : (q : Int) < ((1 : Nat) : Int) := by omega
                have hDg : D ≠ g := hgD
                have hSg : S ≠ g := hgS
                have HGV := Lib.hid hgv
                have HGS := Lib.hid hgs
                have yes : gs = false ∨ (m = true ∧ gv < x) ∨ (m = false ∧ x < gv) → Hid (((wr.setCell ⟨D, jq, none⟩ (.int .i64 (x : Int))).setCell ⟨S, jq, none⟩ (.bool true)).rowIs D 3 M (fdF (hnds m F (NN.take (q + 1)) x) fr) ∧ ((wr.setCell ⟨D, jq, none⟩ (.int .i64 (x : Int))).setCell ⟨S, jq, none⟩ (.bool true)).rowIs S 4 M (fsF (hnds m F (NN.take (q + 1)) x) fr)) := fun hc => by
                  rw [HGS.out, HGV.out] at hc
                  show _ ∧ _
                  rw [HG2.out]
                  have e : hnd m G (fr + jq) x = (fun i => if i = fr + jq then x else G.1 i, fun i => if i = fr + jq then true else G.2 i) := by unfold hnd; rw [if_pos hc]
                  rw [e]
                  refine ⟨((sD.set jq (.int .i64 (x : Int))).setOther (a := ⟨S, jq, none⟩) hDS _).congr (fun i _ => ?_), ((sS.setOther (a := ⟨D, jq, none⟩) (Ne.symm hDS) _).set jq (.bool true)).congr (fun i _ => ?_)⟩
                  · unfold fdF
                    by_cases h : i = jq
                    · subst h; simp
                    · rw [if_neg h]; simp [h]
                  · unfold fsF
                    by_cases h : i = jq
                    · subst h; simp
                    · rw [if_neg h]; simp [h]
                have no : ¬ (gs = false ∨ (m = true ∧ gv < x) ∨ (m = false ∧ x < gv)) → Hid (wr.rowIs D 3 M (fdF (hnds m F (NN.take (q + 1)) x) fr) ∧ wr.rowIs S 4 M (fsF (hnds m F (NN.take (q + 1)) x) fr)) := fun hc => by
                  rw [HGS.out, HGV.out] at hc
                  show _ ∧ _
                  rw [HG2.out]
                  have e : hnd m G (fr + jq) x = G := by unfold hnd; rw [if_neg hc]
                  rw [e]; exact ⟨sD, sS⟩
                have rB : Hid (Below w.heap.size w ((wr.setCell ⟨D, jq, none⟩ (.int .i64 (x : Int))).setCell ⟨S, jq, none⟩ (.bool true))) := (sB.setCell (p := ⟨D, jq, none⟩) hDw _).setCell (p := ⟨S, jq, none⟩) hSw _
                have rR : Hid (Row ((wr.setCell ⟨D, jq, none⟩ (.int .i64 (x : Int))).setCell ⟨S, jq, none⟩ (.bool true)) (some ⟨g, 0, none⟩) 1 (NN.map fun p : Nat => (p : Int))) := row_set (row_set sR (p := ⟨D, jq, none⟩) (Ne.symm hDg) _) (p := ⟨S, jq, none⟩) (Ne.symm hSg) _
                clear t0 t1 t4 hGk hgv hgs
                cases gs
                · have Y := yes (Or.inl rfl)
                  clear yes no
                  go_wp2_with (go_at_call 100; refine (CU.out _).mono ?_; rintro e w9 ⟨rfl, rfl⟩)
                  go_roundw
                  case rel => exact ⟨q + 1, by omega, by go_num, Y.out.1, Y.out.2, rB.out, rR.out⟩
                  case measure => simp [intOf]; omega
                · cases m
                  · by_cases hc : x < gv
                    · have Y := yes (Or.inr (Or.inr ⟨rfl, hc⟩))
                      have c1 : decide ((x : Int) < (gv : Int)) = true := by simp; omega
                      have c2 : decide (x < gv) = true := by simp; omega
                      clear yes no hc
                      go_wp2_with (go_at_call 100; refine (CU.out _).mono ?_; rintro e w9 ⟨rfl, rfl⟩)
                      go_roundw
                      case rel => exact ⟨q + 1, by omega, by go_num, Y.out.1, Y.out.2, rB.out, rR.out⟩
                      case measure => simp [intOf]; omega
                    · have Y := no (by simp; omega)
                      have c1 : decide ((x : Int) < (gv : Int)) = false := by simp; omega
                      have c2 : decide (x < gv) = false := by simp; omega
                      clear yes no hc rB rR
                      go_wp2_with (go_at_call 100; refine (CU.out _).mono ?_; rintro e w9 ⟨rfl, rfl⟩)
                      go_roundw
                      case rel => exact ⟨q + 1, by omega, by go_num, Y.out.1, Y.out.2, sB, sR⟩
                      case measure => simp [intOf]; omega
                  · by_cases hc : gv < x
                    · have Y := yes (Or.inr (Or.inl ⟨rfl, hc⟩))
                      have c1 : decide ((gv : Int) < (x : Int)) = true := by simp; omega
                      have c2 : decide (gv < x) = true := by simp; omega
                      clear yes no hc
                      go_wp2_with (go_at_call 100; refine (CU.out _).mono ?_; rintro e w9 ⟨rfl, rfl⟩)
                      go_roundw
                      case rel => exact ⟨q + 1, by omega, by go_num, Y.out.1, Y.out.2, rB.out, rR.out⟩
                      case measure => simp [intOf]; omega
                    · have Y := no (by simp; omega)
                      have c1 : decide ((gv : Int) < (x : Int)) = false := by simp; omega
                      have c2 : decide (gv < x) = false := by simp; omega
                      clear yes no hc rB rR
                      go_wp2_with (go_at_call 100; refine (CU.out _).mono ?_; rintro e w9 ⟨rfl, rfl⟩)
                      go_roundw
                      case rel => exact ⟨q + 1, by omega, by go_num, Y.out.1, Y.out.2, sB, sR⟩
                      case measure => simp [intOf]; omega
              · obtain rfl : q = 1 := by omega
                have hall : NN.take 1 = NN := List.take_of_length_le (by rw [HLE.out]; omega)
                rw [hall] at sD sS
                have hstep := (winv_step HE.out hk0 hlt HP.out HW.out).2 HS.out
                rw [← HXE.out, ← HNN.out] at hstep
                have HSt := Lib.hid hstep
                clear hstep hall
                go_wp2
                go_roundw
                case rel => exact ⟨k + 1, hnds m F NN x, by omega, by omega, by go_num, HSt.out.1, HSt.out.2, sD, sS, sB⟩
                case measure => simp [intOf]; omega
        obtain ⟨NN, hNN⟩ : ∃ NN : List Nat, NN = [k + 1] := ⟨_, rfl⟩
        have hLen : NN.length = 1 := by rw [hNN]; rfl
        have HNN : Hid (NN = nxr L k) := by show _ = _; rw [hNN]; unfold nxr; rw [if_neg (by rw [HX.out]; exact h19), if_neg (by rw [HX.out]; exact h20), if_neg (by rw [HX.out]; exact h21)]
        have HST : Hid (1 = cut (wstp m L k)) := by show _ = _; unfold wstp; rw [if_neg (by rw [HX.out]; exact h21)]; rfl
        have RR1 : Row (wr.alloc (.cells #[.int .i64 ((k : Int) + 1)] 3)) (some ⟨wr.heap.size, 0, none⟩) 1 (NN.map fun p : Nat => (p : Int)) := by
          have := row_lit (wr) #[.int .i64 ((k : Int) + 1)] NN (by rw [hNN]; rfl) (by omega)
          rw [hLen] at this; exact this
        have RB1 : Below w.heap.size w (wr.alloc (.cells #[.int .i64 ((k : Int) + 1)] 3)) := keep_below hbl (below_alloc _ _)
        have RD1 : (wr.alloc (.cells #[.int .i64 ((k : Int) + 1)] 3)).rowIs D 3 M (fdF F fr) := qD.alloc _
        have RS1 : (wr.alloc (.cells #[.int .i64 ((k : Int) + 1)] 3)).rowIs S 4 M (fsF F fr) := qS.alloc _
        have f1 : (o == 19) = false := by rw [beq_eq_false_iff_ne]; exact h19
        have f2 : (o == 20) = false := by rw [beq_eq_false_iff_ne]; exact h20
        have f3 : (o == 21) = false := by rw [beq_eq_false_iff_ne]; exact h21
        clear hNN h19 h20 h21
        go_wp2
        have hgD : D ≠ wr.heap.size := by omega
        have hgS : S ≠ wr.heap.size := by omega
        generalize wr.heap.size = g at hgD hgS RR1 ⊢
        generalize wr.alloc (.cells #[.int .i64 ((k : Int) + 1)] 3) = W1 at RD1 RS1 RB1 RR1 ⊢
        have hnq : ∀ q, q < 1 → k < NN.getD q 0 ∧ fr ≤ NN.getD q 0 ∧ NN.getD q 0 ≤ tp := fun q hq => by
          have hmem : NN.getD q 0 ∈ nxr L k := by rw [← HNN.out, List.getD_eq_getElem?_getD, List.getElem?_eq_getElem (show q < NN.length by omega)]; exact List.getElem_mem _
          have := (HE.out.next (m := m) hk0 hlt (HP.out.reach k (Nat.le_refl _) HS.out).2).1 _ hmem
          omega
        have HNQ := Lib.hid hnq
        have hst : 1 ≤ cap := by rw [HST.out]; exact cut_le _
        unfold cap at hst
        have hv0 := HP.out.room k
        unfold cap at hv0
        have HLE := Lib.hid hLen
        clear hnq hLen
        obtain ⟨v0, hv0e⟩ : ∃ v0, v0 = F.1 k := ⟨_, rfl⟩
        rw [← hv0e] at hv0
        obtain ⟨x, hx⟩ : ∃ x, x = cut (v0 + 1) := ⟨_, rfl⟩
        have CU := Lib.hid (fun W => hx ▸ cutR_any ((v0 : Int) + 1) (v0 + 1) (by omega) W)
        have hxb : x ≤ 1048577 := by rw [hx]; exact cut_le _
        have HXE : Hid (x = cut (F.1 k + cut (wstp m L k))) := by show _ = _; rw [hx, hv0e, HST.out]
        have HV0 := Lib.hid hv0e
        have ws : IntKind.i64.wrap ((v0 : Int) + 1) = (v0 : Int) + 1 := IntWalk.i64_in _ (by omega)
        clear hx hv0e
        go_loopw [17] (fun v wv => ∃ q : Nat, q ≤ 1 ∧ v = .int .i64 q ∧ wv.rowIs D 3 M (fdF (hnds m F (NN.take q) x) fr) ∧ wv.rowIs S 4 M (fsF (hnds m F (NN.take q) x) fr) ∧ Below w.heap.size w wv ∧ Row wv (some ⟨g, 0, none⟩) 1 (NN.map fun p : Nat => (p : Int))) (fun v _ => 1 - (intOf v).toNat)
        case atStart => exact ⟨0, Nat.zero_le _, by go_num, RD1, RS1, RB1, RR1⟩
        case round =>
          clear RD1 RS1 RB1 RR1
          obtain ⟨q, hq, rfl, sD, sS, sB, sR⟩ := hrel
          by_cases hql : q < 1
          · obtain ⟨y1, y2, y3⟩ := HNQ.out q hql
            obtain ⟨np, hnp⟩ : ∃ np, np = NN.getD q 0 := ⟨_, rfl⟩
            rw [← hnp] at y1 y2 y3
            have hcr := sR.2 (by omega)
            obtain ⟨bb, ob, eb, hBb, hcb⟩ := hcr
            cases eb
            have d1 := hcb q hql
            rw [Nat.zero_add, ints_at (by rw [HLE.out]; exact hql), ← hnp] at d1
            clear hcb
            obtain ⟨jq, rfl⟩ : ∃ jq, np = fr + jq := ⟨np - fr, by omega⟩
            obtain ⟨G, hG⟩ : ∃ G, G = hnds m F (NN.take q) x := ⟨_, rfl⟩
            have hGk : G.1 (fr + j) = v0 := by
              rw [hG, HV0.out, ← HJ.out]
              exact (hnds_other m (NN.take q) F (fun hmem => by
                obtain ⟨q2, hq2, e2⟩ := List.getElem_of_mem hmem
                rw [List.length_take] at hq2
                have := (HNQ.out q2 (by omega)).1
                rw [List.getElem_take] at e2
                rw [List.getD_eq_getElem?_getD, List.getElem?_eq_getElem (by rw [HLE.out]; omega), Option.getD_some, e2] at this
                omega)).1
            have hGb : G.1 (fr + jq) ≤ 1048577 := by
              rw [hG]
              exact hnds_room (by rw [HXE.out]; exact cut_le _) _ F HP.out.room _
            rw [← hG] at sD sS
            have HG2 : Hid (hnds m F (NN.take (q + 1)) x = hnd m G (fr + jq) x) := by
              show _ = _
              rw [take_snocN (by rw [HLE.out]; exact hql), hnds_snoc, ← hG, ← hnp]
            clear hnp hG
            have t0 := sD.cell (i := j) (by omega)
            have t1 := sD.cell (i := jq) (by omega)
            have t2 := sD.frozen jq
            have t3 := sD.lt
            have t4 := sS.cell (i := jq) (by omega)
            have t5 := sS.frozen jq
            have t6 := sS.lt
            have t0' : wr.cell? ⟨D, j, none⟩ = some (.int .i64 (v0 : Int)) := by rw [t0]; unfold fdF; rw [hGk]
            obtain ⟨gv, hgv⟩ : ∃ gv, gv = G.1 (fr + jq) := ⟨_, rfl⟩
            obtain ⟨gs, hgs⟩ : ∃ gs, gs = G.2 (fr + jq) := ⟨_, rfl⟩
            have t1' : wr.cell? ⟨D, jq, none⟩ = some (.int .i64 (gv : Int)) := by rw [t1, hgv]; rfl
            have t4' : wr.cell? ⟨S, jq, none⟩ = some (.bool gs) := by rw [t4, hgs]; rfl
            rw [← hgv] at hGb
            have u1 : IntKind.i64.wrap ((fr : Int) + (jq : Int) - (fr : Int)) = (jq : Int) := by rw [IntWalk.i64_in _ (by omega)]; omega
            have i1 : (0 : Int) ≤ (jq : Int) := by omega
            have i2 : (jq : Int) < (M : Int) := by omega
            have i3 : (q : Int) < ((1 : Nat) : Int) := by omega
            have hDg : D ≠ g := hgD
            have hSg : S ≠ g := hgS
            have HGV := Lib.hid hgv
            have HGS := Lib.hid hgs
            have yes : gs = false ∨ (m = true ∧ gv < x) ∨ (m = false ∧ x < gv) → Hid (((wr.setCell ⟨D, jq, none⟩ (.int .i64 (x : Int))).setCell ⟨S, jq, none⟩ (.bool true)).rowIs D 3 M (fdF (hnds m F (NN.take (q + 1)) x) fr) ∧ ((wr.setCell ⟨D, jq, none⟩ (.int .i64 (x : Int))).setCell ⟨S, jq, none⟩ (.bool true)).rowIs S 4 M (fsF (hnds m F (NN.take (q + 1)) x) fr)) := fun hc => by
              rw [HGS.out, HGV.out] at hc
              show _ ∧ _
              rw [HG2.out]
              have e : hnd m G (fr + jq) x = (fun i => if i = fr + jq then x else G.1 i, fun i => if i = fr + jq then true else G.2 i) := by unfold hnd; rw [if_pos hc]
              rw [e]
              refine ⟨((sD.set jq (.int .i64 (x : Int))).setOther (a := ⟨S, jq, none⟩) hDS _).congr (fun i _ => ?_), ((sS.setOther (a := ⟨D, jq, none⟩) (Ne.symm hDS) _).set jq (.bool true)).congr (fun i _ => ?_)⟩
              · unfold fdF
                by_cases h : i = jq
                · subst h; simp
                · rw [if_neg h]; simp [h]
              · unfold fsF
                by_cases h : i = jq
                · subst h; simp
                · rw [if_neg h]; simp [h]
            have no : ¬ (gs = false ∨ (m = true ∧ gv < x) ∨ (m = false ∧ x < gv)) → Hid (wr.rowIs D 3 M (fdF (hnds m F (NN.take (q + 1)) x) fr) ∧ wr.rowIs S 4 M (fsF (hnds m F (NN.take (q + 1)) x) fr)) := fun hc => by
              rw [HGS.out, HGV.out] at hc
              show _ ∧ _
              rw [HG2.out]
              have e : hnd m G (fr + jq) x = G := by unfold hnd; rw [if_neg hc]
              rw [e]; exact ⟨sD, sS⟩
            have rB : Hid (Below w.heap.size w ((wr.setCell ⟨D, jq, none⟩ (.int .i64 (x : Int))).setCell ⟨S, jq, none⟩ (.bool true))) := (sB.setCell (p := ⟨D, jq, none⟩) hDw _).setCell (p := ⟨S, jq, none⟩) hSw _
            have rR : Hid (Row ((wr.setCell ⟨D, jq, none⟩ (.int .i64 (x : Int))).setCell ⟨S, jq, none⟩ (.bool true)) (some ⟨g, 0, none⟩) 1 (NN.map fun p : Nat => (p : Int))) := row_set (row_set sR (p := ⟨D, jq, none⟩) (Ne.symm hDg) _) (p := ⟨S, jq, none⟩) (Ne.symm hSg) _
            clear t0 t1 t4 hGk hgv hgs
            cases gs
            · have Y := yes (Or.inl rfl)
              clear yes no
              go_wp2_with (go_at_call 100; refine (CU.out _).mono ?_; rintro e w9 ⟨rfl, rfl⟩)
              go_roundw
              case rel => exact ⟨q + 1, by omega, by go_num, Y.out.1, Y.out.2, rB.out, rR.out⟩
              case measure => simp [intOf]; omega
            · cases m
              · by_cases hc : x < gv
                · have Y := yes (Or.inr (Or.inr ⟨rfl, hc⟩))
                  have c1 : decide ((x : Int) < (gv : Int)) = true := by simp; omega
                  have c2 : decide (x < gv) = true := by simp; omega
                  clear yes no hc
                  go_wp2_with (go_at_call 100; refine (CU.out _).mono ?_; rintro e w9 ⟨rfl, rfl⟩)
                  go_roundw
                  case rel => exact ⟨q + 1, by omega, by go_num, Y.out.1, Y.out.2, rB.out, rR.out⟩
                  case measure => simp [intOf]; omega
                · have Y := no (by simp; omega)
                  have c1 : decide ((x : Int) < (gv : Int)) = false := by simp; omega
                  have c2 : decide (x < gv) = false := by simp; omega
                  clear yes no hc rB rR
                  go_wp2_with (go_at_call 100; refine (CU.out _).mono ?_; rintro e w9 ⟨rfl, rfl⟩)
                  go_roundw
                  case rel => exact ⟨q + 1, by omega, by go_num, Y.out.1, Y.out.2, sB, sR⟩
                  case measure => simp [intOf]; omega
              · by_cases hc : gv < x
                · have Y := yes (Or.inr (Or.inl ⟨rfl, hc⟩))
                  have c1 : decide ((gv : Int) < (x : Int)) = true := by simp; omega
                  have c2 : decide (gv < x) = true := by simp; omega
                  clear yes no hc
                  go_wp2_with (go_at_call 100; refine (CU.out _).mono ?_; rintro e w9 ⟨rfl, rfl⟩)
                  go_roundw
                  case rel => exact ⟨q + 1, by omega, by go_num, Y.out.1, Y.out.2, rB.out, rR.out⟩
                  case measure => simp [intOf]; omega
                · have Y := no (by simp; omega)
                  have c1 : decide ((gv : Int) < (x : Int)) = false := by simp; omega
                  have c2 : decide (gv < x) = false := by simp; omega
                  clear yes no hc rB rR
                  go_wp2_with (go_at_call 100; refine (CU.out _).mono ?_; rintro e w9 ⟨rfl, rfl⟩)
                  go_roundw
                  case rel => exact ⟨q + 1, by omega, by go_num, Y.out.1, Y.out.2, sB, sR⟩
                  case measure => simp [intOf]; omega
          · obtain rfl : q = 1 := by omega
            have hall : NN.take 1 = NN := List.take_of_length_le (by rw [HLE.out]; omega)
            rw [hall] at sD sS
            have hstep := (winv_step HE.out hk0 hlt HP.out HW.out).2 HS.out
            rw [← HXE.out, ← HNN.out] at hstep
            have HSt := Lib.hid hstep
            clear hstep hall
            go_wp2
            go_roundw
            case rel => exact ⟨k + 1, hnds m F NN x, by omega, by omega, by go_num, HSt.out.1, HSt.out.2, sD, sS, sB⟩
            case measure => simp [intOf]; omega
    · obtain rfl : k = tp := by omega
      have hl := inv_last HE.out HP.out HW.out
      have c1 := qD.cell (i := q0) (by have := HQ0.out; omega)
      have e0 : fdF F fr q0 = .int .i64 ((cut (ub m L fr) : Nat) : Int) := by unfold fdF; rw [show fr + q0 = k by have := HQ0.out; omega, hl]
      rw [e0] at c1
      obtain ⟨R, hRR⟩ : ∃ R, R = cut (ub m L fr) := ⟨_, rfl⟩
      rw [← hRR] at c1
      have HRR : Hid (cut (ub m L fr) = R) := hRR.symm
      have hDl := qD.lt
      clear hl e0 hRR
      go_wp2
      go_ret
      exact ⟨by rw [HRR.out]; rfl, hbl⟩
end Go.Proofs.YthncbnalnfbpnaaGreatDoor
end
