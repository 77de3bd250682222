/- What is proved here: plain facts on a loop around a row that is whole, but for its End: its matches, jumps and locks. Conditions: those each theorem states. -/
import Derived.Test.YtncnofcgpiaadaaDoorNest4
namespace Go.Proofs.YtncnofcgpiaadaaDoor

section
variable {A : List (Int × Int × Int)} {x : Int}
/-- A loop around a row, without its End. -/
def lp (x : Int) (A : List (Int × Int × Int)) : List (Int × Int × Int) := (21, x, 0) :: (A.take (A.length - 1) ++ [(22, 0, 0), (25, 0, 0)])
theorem lp_len (hA : 1 ≤ A.length) : (lp x A).length = A.length + 2 := by
  unfold lp; rw [List.length_cons, List.length_append, List.length_take]; simp; omega
theorem lp_zero : at_ (lp x A) 0 = (21, x, 0) := rfl
theorem lp_succ (j : Nat) : at_ (lp x A) (1 + j) = at_ (A.take (A.length - 1) ++ [(22, 0, 0), (25, 0, 0)]) j := by
  unfold lp at_; rw [Nat.add_comm]; rfl
theorem lp_mid {j : Nat} (h : j < A.length - 1) : at_ (lp x A) (1 + j) = at_ A j := by
  rw [lp_succ, at_append (by rw [List.length_take]; omega), at_take h]
theorem lp_next (hA : 1 ≤ A.length) : at_ (lp x A) (1 + (A.length - 1)) = (22, 0, 0) := by
  have e : (A.take (A.length - 1)).length = A.length - 1 := by rw [List.length_take]; omega
  have := at_append2 (A := A.take (A.length - 1)) (B := [(22, 0, 0), (25, 0, 0)]) 0
  rw [e, Nat.add_zero] at this
  rw [lp_succ, this]; rfl
theorem lp_end (hA : 1 ≤ A.length) : at_ (lp x A) (1 + A.length) = (25, 0, 0) := by
  have e : (A.take (A.length - 1)).length = A.length - 1 := by rw [List.length_take]; omega
  have := at_append2 (A := A.take (A.length - 1)) (B := [(22, 0, 0), (25, 0, 0)]) 1
  rw [e] at this
  rw [lp_succ, show A.length = A.length - 1 + 1 by omega]
  exact this
theorem lp_one : sk (lp x A) 1 = [0] := by
  rw [show (1 : Nat) = 0 + 1 from rfl, sk_opn' (by rw [lp_zero]; rfl)]; rfl
theorem lp_good (hA : wE A = 0) : Good A (A.length - 1) := fun j hj => (mE_zero (wE_zero hA).1).2.1 j (by omega)
theorem lp_sk (hA : wE A = 0) {j : Nat} (hj : j ≤ A.length - 1) : sk (lp x A) (1 + j) = (sk A j).map (fun t => 1 + t) ++ [0] :=
  sk_shift lp_one (fun _ h => lp_mid h) (lp_good hA) hj
theorem lp_skn (hA : wE A = 0) : sk (lp x A) (1 + (A.length - 1)) = [0] := by
  have hl := wE_len hA
  obtain ⟨h1, h2, _⟩ := wE_zero hA
  rw [lp_sk hA (Nat.le_refl _), held_end (mE_zero h1).2 h2 hl.1]; rfl
theorem lp_ske (hA : wE A = 0) : sk (lp x A) (1 + A.length) = [] := by
  have hl := wE_len hA
  have e : 1 + A.length = (1 + (A.length - 1)) + 1 := by omega
  rw [e, sk_cls (by rw [lp_next hl.1]; rfl), lp_skn hA]; rfl
theorem lp_case (hA : wE A = 0) {p : Nat} (hp : p < (lp x A).length) : p = 0 ∨ (∃ j, j < A.length - 1 ∧ p = 1 + j) ∨ p = 1 + (A.length - 1) ∨ p = 1 + A.length := by
  have hl := wE_len hA
  rw [lp_len hl.1] at hp
  by_cases h0 : p = 0
  · exact Or.inl h0
  · by_cases h1 : p - 1 < A.length - 1
    · exact Or.inr (Or.inl ⟨p - 1, h1, by omega⟩)
    · by_cases h2 : p = 1 + A.length
      · exact Or.inr (Or.inr (Or.inr h2))
      · exact Or.inr (Or.inr (Or.inl (by omega)))
theorem lp_sound (hA : wE A = 0) : Sound (lp x A) := by
  have hl := wE_len hA
  refine ⟨fun p hp => ?_, ?_⟩
  · rcases lp_case hA hp with rfl | ⟨j, hj, rfl⟩ | rfl | rfl
    · unfold gd; rw [lp_zero]; rfl
    · exact gd_shift lp_one (fun _ h => lp_mid h) (lp_good hA) hj
    · unfold gd; rw [lp_skn hA, lp_next hl.1]; rfl
    · unfold gd; rw [lp_end hl.1]; rfl
  · rw [lp_len hl.1, show A.length + 2 = (1 + A.length) + 1 by omega, sk_oth (by rw [lp_end hl.1]; rfl) (by rw [lp_end hl.1]; rfl), lp_ske hA]
theorem lp_whole (hA : wE A = 0) (hn : A.length ≤ 190) (hx : 1 ≤ x ∧ x ≤ 1000) : wE (lp x A) = 0 := by
  have hl := wE_len hA
  obtain ⟨hmA, heA, hjA⟩ := wE_zero hA
  obtain ⟨hcA, hsA⟩ := mE_zero hmA
  have hlen := lp_len (x := x) hl.1
  refine wE_of (mE_of (can_iff.2 ⟨by omega, fun p hp => ?_⟩) (lp_sound hA)) ?_ ?_
  · rcases lp_case hA hp with rfl | ⟨j, hj, rfl⟩ | rfl | rfl
    · rw [lp_zero]
      have e : rA 21 x = true := by unfold rA; rw [if_neg (by decide), if_neg (by decide), if_neg (by decide), if_neg (by decide), if_neg (by decide), if_pos rfl]; simp; omega
      show (kn 21 && (rA 21 x && rB 21 0)) = true
      rw [e]; decide
    · rw [lp_mid hj]; exact can_right hcA (by omega)
    · rw [lp_next hl.1]; decide
    · rw [lp_end hl.1]; decide
  · refine ends_iff.2 fun p hp => ?_
    rcases lp_case hA hp with rfl | ⟨j, hj, rfl⟩ | rfl | rfl
    · rw [lp_zero]; constructor
      · intro h; cases h
      · intro h; omega
    · rw [lp_mid hj]
      have := ends_iff.1 heA j (by omega)
      constructor
      · intro h; have := this.1 h; omega
      · intro h; omega
    · rw [lp_next hl.1]; constructor
      · intro h; cases h
      · intro h; omega
    · rw [lp_end hl.1]; constructor
      · intro _; omega
      · intro _; rfl
  · refine jmps_iff.2 fun p hp hj => ?_
    rcases lp_case hA hp with rfl | ⟨j, hj2, rfl⟩ | rfl | rfl
    · rw [lp_zero] at hj; cases hj
    · rw [lp_mid hj2] at hj
      obtain ⟨h1, h2⟩ := jmps_iff.1 hjA j (by omega) hj
      have hled : led (lp x A) (1 + j) = 1 + led A j := by unfold led; rw [lp_mid hj2]; omega
      rw [hled]
      refine ⟨by omega, ?_⟩
      unfold hm
      rw [lp_sk hA (by omega), lp_sk hA (by omega), sk_hm h2]
    · rw [lp_next hl.1] at hj; cases hj
    · rw [lp_end hl.1] at hj; cases hj
theorem lp_first (hA : wE A = 0) : mt (lp x A) (lp x A).length 0 = A.length ∧ mt (lp x A) (lp x A).length A.length = 0 := by
  have hl := wE_len hA
  obtain ⟨t, h1, _, h3, h4, _⟩ := (lp_sound (x := x) hA).cls (p := 1 + (A.length - 1)) (by rw [lp_next hl.1]; rfl)
  rw [lp_skn hA] at h1
  obtain rfl : 0 = t := (List.cons.inj h1).1
  have e : 1 + (A.length - 1) = A.length := by omega
  rw [e] at h3 h4
  exact ⟨h4, h3⟩
/-- The matches of the row, one farther on. -/
theorem lp_match (hA : wE A = 0) {i : Nat} (hi : i < A.length - 1) : mt (lp x A) (lp x A).length (i + 1) = if mt A A.length i < 0 then -1 else mt A A.length i + 1 := by
  have hl := wE_len hA
  have hsA := (mE_zero (wE_zero hA).1).2
  have hsQ := lp_sound (x := x) hA
  have ei : i + 1 = 1 + i := by omega
  rw [ei]
  cases ho : opn (at_ A i)
  · cases hc : cls (at_ A i)
    · rw [mt_else (by rw [lp_mid hi]; exact ho) (by rw [lp_mid hi]; exact hc), mt_else ho hc]; rfl
    · obtain ⟨t, g1, g2, g3, _, _⟩ := hsA.cls hc
      obtain ⟨u, f1, _, f3, _, _⟩ := hsQ.cls (p := 1 + i) (by rw [lp_mid hi]; exact hc)
      rw [lp_sk hA (by omega), g1] at f1
      obtain rfl : 1 + t = u := (List.cons.inj f1).1
      rw [f3, g3, if_neg (by omega)]; omega
  · obtain ⟨d, g1, g2, g3, g4, g5, _⟩ := hsA.opn ho
    have hd : d ≠ A.length - 1 := by
      intro e; have := wE_end hA; rw [← e] at this; unfold cls at g4; rw [this] at g4; cases g4
    obtain ⟨u, f1, _, _, f4, _⟩ := hsQ.cls (p := 1 + d) (by rw [lp_mid (by omega)]; exact g4)
    rw [lp_sk hA (by omega), g5] at f1
    obtain rfl : 1 + i = u := (List.cons.inj f1).1
    rw [f4, g1, if_neg (by omega)]; omega
theorem lp_bd (hA : wE A = 0) {j : Nat} (hj : j < A.length - 1) : bd (lp x A) (1 + j) = ((at_ A j).1 == 23 || bd A j) := by
  have ha : ∀ i, i < A.length - 1 → at_ (lp x A) (1 + i) = at_ A i := fun i h => lp_mid h
  have hs : ∀ t ∈ sk A j, t < A.length - 1 := fun t ht => by have := sk_lt ht; omega
  have e3 : ∀ a : Int, lkd (lp x A) (sk (lp x A) (1 + j)) a = lkd A (sk A j) a := by
    intro a
    rw [lp_sk hA (by omega)]
    unfold lkd
    rw [List.any_append, any_shift ha (f := fun i => i.1 == 23 && i.2.1 == a) hs]
    simp [lp_zero]
  unfold bd
  rw [lp_mid hj]
  by_cases h : (at_ A j).1 = 23
  · rw [if_pos h, if_pos h, h, lp_sk hA (by omega)]
    unfold inl
    rw [List.any_append]
    simp [lp_zero]
  · have e : ((at_ A j).1 == 23) = false := by simpa using h
    rw [if_neg h, if_neg h, e3, e, Bool.false_or]
theorem lp_locks (hA : wE A = 0) (hn : A.length ≤ 190) (hx : 1 ≤ x ∧ x ≤ 1000) : (lE A ≠ 0 → lE (lp x A) = 11) ∧ (lE A = 0 → ((lE (lp x A) == 0) = (lks A A.length == []))) := by
  have hl := wE_len hA
  have hw := lp_whole hA hn hx
  have hlen := lp_len (x := x) hl.1
  constructor
  · intro h
    obtain ⟨p, hp, hb⟩ := lE_cases hA h
    have : p ≠ A.length - 1 := by intro e; rw [e, bd_end (wE_end hA)] at hb; cases hb
    exact lE_bad hw (bds_iff.2 ⟨1 + p, by omega, by rw [lp_bd hA (by omega), hb]; simp⟩)
  · intro h
    have hbA := (lE_zero h).2
    cases hc : lks A A.length with
    | nil =>
      have hno := lks_some.1 hc
      have : lE (lp x A) = 0 := by
        refine lE_of hw ?_
        cases hv : bds (lp x A) (lp x A).length
        · rfl
        · obtain ⟨p, hp, hb⟩ := bds_iff.1 hv
          exfalso
          rcases lp_case hA hp with rfl | ⟨j, hj, rfl⟩ | rfl | rfl
          · unfold bd at hb; rw [lp_zero] at hb; cases hb
          · rw [lp_bd hA hj] at hb
            have e : ((at_ A j).1 == 23) = false := by simpa using hno j
            rw [e, Bool.false_or] at hb
            rw [bds_iff.2 ⟨j, by omega, hb⟩] at hbA; cases hbA
          · unfold bd at hb; rw [lp_next hl.1] at hb; cases hb
          · unfold bd at hb; rw [lp_end hl.1] at hb; cases hb
      rw [this]; rfl
    | cons b r =>
      obtain ⟨j, hj, h23, _⟩ := (mem_lks (L := A) (b := b) (Nat.le_refl _)).1 (by rw [hc]; simp)
      have : j ≠ A.length - 1 := by intro e; rw [e, wE_end hA] at h23; omega
      have : lE (lp x A) = 11 := lE_bad hw (bds_iff.2 ⟨1 + j, by omega, by rw [lp_bd hA (by omega), h23]; rfl⟩)
      rw [this]; rfl
end
end Go.Proofs.YtncnofcgpiaadaaDoor
