/- What is proved here: plain facts: the steps of two rows, one behind the other, and of a loop around a row; appends of rows of instructions. Conditions: those each theorem states. -/
import Derived.Test.YtacgnofmccennaaDoorCv
namespace Go.Proofs.YtacgnofmccennaaDoor
open Go.ChangeShapes Go.WideShapes Go.RowKit

section
variable {A B : List (Int × Int × Int)}
theorem of_add (m : Bool) (x y e : Nat) : of_ m (x + e) (y + e) = of_ m x y + e := by unfold of_; cases m <;> simp <;> omega
/-- What closes tells where a region ends. -/
theorem mt_of {Q : List (Int × Int × Int)} (hs : Sound Q) {p d : Nat} {s : List Nat} (hc : cls (at_ Q d) = true) (h : sk Q d = p :: s) : mt Q Q.length p = (d : Int) ∧ p < d := by
  obtain ⟨t, h1, h2, h3, h4, h5⟩ := hs.cls hc
  rw [h] at h1
  obtain rfl : p = t := by simpa using (List.cons.inj h1).1
  exact ⟨h4, h2⟩
theorem nb_of {Q : List (Int × Int × Int)} {p d : Nat} (h : mt Q Q.length p = (d : Int)) (hp : p < d) : nb Q p = d + 1 := by
  unfold nb; rw [h]; simp; omega
theorem op_stop {L : List (Int × Int × Int)} (hw : wE L = 0) {p : Nat} (hp : p + 1 < L.length) : (at_ L p).1 ≠ 25 := by
  intro h
  have := (ends_iff.1 (wE_zero hw).2.1 p (by omega)).1 h
  omega
/-- The steps of the second one of two rows. -/
theorem two_ub2 (hA : wE A = 0) (hB : wE B = 0) (hn : A.length + B.length ≤ 200) (m : Bool) : ∀ j, ub m (two A B) (A.length - 1 + j) = ub m B j := by
  have hl := wE_len hA
  have hT := two_whole2 hA hB hn
  have hS := (mE_zero (wE_zero hT).1).2
  have hSB := (mE_zero (wE_zero hB).1).2
  have hlen := two_len (B := B) hl.1
  refine down (n := B.length) (fun j hj ih => ?_) (fun j hj => by rw [ub_over hj, ub_over (by rw [hlen]; omega)])
  rw [ub_eq m (by rw [hlen]; omega), ub_eq m hj]
  have hat := two_snd (B := B) hl.1 j
  have e1 := ih (j + 1) (by omega)
  have e2 : led (two A B) (A.length - 1 + j) = A.length - 1 + led B j := by unfold led; rw [hat]; omega
  have e3 := ih (led B j) (led_gt B j)
  rw [← e2] at e3
  have e4 : opn (at_ B j) = true → ub m (two A B) (nb (two A B) (A.length - 1 + j)) = ub m B (nb B j) := fun ho => by
    obtain ⟨d, h1, h2, h3, h4, h5, h6⟩ := hSB.opn ho
    have hc : cls (at_ (two A B) (A.length - 1 + d)) = true := by rw [two_snd hl.1]; exact h4
    have hk : sk (two A B) (A.length - 1 + d) = (A.length - 1 + j) :: (sk B j).map fun t => A.length - 1 + t := by
      rw [two_sk2 hA hB (by omega), h5]; rfl
    obtain ⟨g1, g2⟩ := mt_of hS hc hk
    rw [nb_of g1 g2, nb_of h1 h2]
    exact ih (d + 1) (by omega)
  have e1' : ub m (two A B) (A.length - 1 + j + 1) = ub m B (j + 1) := e1
  unfold wv
  rw [hat, e1', e3]
  by_cases c1 : (at_ B j).1 = 22 ∨ (at_ B j).1 = 24 ∨ (at_ B j).1 = 25
  · rw [if_pos c1, if_pos c1]
  · rw [if_neg c1, if_neg c1]
    by_cases c2 : (at_ B j).1 = 21
    · rw [if_pos c2, if_pos c2, e4 (by unfold opn; rw [c2]; rfl)]
    · rw [if_neg c2, if_neg c2]
      by_cases c3 : (at_ B j).1 = 23
      · rw [if_pos c3, if_pos c3, e4 (by unfold opn; rw [c3]; rfl)]
      · rw [if_neg c3, if_neg c3]
/-- The steps of the first one of two rows. -/
theorem two_ub1 (hA : wE A = 0) (hB : wE B = 0) (hn : A.length + B.length ≤ 200) (m : Bool) : ∀ p, p ≤ A.length - 1 → ub m (two A B) p = ub m A p + if sk A p = [] then ub m B 0 else 0 := by
  have hl := wE_len hA
  have hT := two_whole2 hA hB hn
  have hS := (mE_zero (wE_zero hT).1).2
  have hSA := (mE_zero (wE_zero hA).1).2
  have hlen := two_len (B := B) hl.1
  have hend := held_end hSA (wE_zero hA).2.1 hl.1
  have h0 := two_ub2 hA hB hn m 0
  rw [Nat.add_zero] at h0
  have hlast : ub m (two A B) (A.length - 1) = ub m A (A.length - 1) + if sk A (A.length - 1) = [] then ub m B 0 else 0 := by
    rw [h0, if_pos hend, ub_stop m (L := A) (p := A.length - 1) (Or.inr (Or.inr (wE_end hA)))]; omega
  have key : ∀ p, p < A.length - 1 → ub m (two A B) p = ub m A p + if sk A p = [] then ub m B 0 else 0 := by
    refine down (n := A.length - 1) (P := fun p => p < A.length - 1 → ub m (two A B) p = ub m A p + if sk A p = [] then ub m B 0 else 0) (fun p hp ih0 _ => ?_) (fun p hp h => by omega)
    have ih : ∀ q, p < q → q ≤ A.length - 1 → ub m (two A B) q = ub m A q + if sk A q = [] then ub m B 0 else 0 := fun q h1 h2 => by
      by_cases e : q = A.length - 1
      · rw [e]; exact hlast
      · exact ih0 q h1 (by omega)
    rw [ub_eq m (p := p) (by rw [hlen]; omega), ub_eq m (L := A) (p := p) (by omega)]
    have hat := two_fst (B := B) hl.1 hp
    have h25 := op_stop hA (p := p) (by omega)
    unfold wv
    have eled : led (two A B) p = led A p := by unfold led; rw [hat]
    rw [hat, eled]
    by_cases c1 : (at_ A p).1 = 22 ∨ (at_ A p).1 = 24 ∨ (at_ A p).1 = 25
    · rw [if_pos c1, if_pos c1]
      obtain ⟨t, g1, _⟩ := hSA.cls (p := p) (by unfold cls; simp; omega)
      rw [if_neg (by rw [g1]; simp)]
    · rw [if_neg c1, if_neg c1]
      have open_ : opn (at_ A p) = true → ub m (two A B) (p + 1) = ub m A (p + 1) ∧ ub m (two A B) (nb (two A B) p) = ub m A (nb A p) + if sk A p = [] then ub m B 0 else 0 := fun ho => by
        obtain ⟨d, h1, h2, h3, h4, h5, h6⟩ := hSA.opn ho
        have hd : d < A.length - 1 := by
          have : d ≠ A.length - 1 := fun e => by rw [e, hend] at h5; cases h5
          omega
        have hc : cls (at_ (two A B) d) = true := by rw [two_fst hl.1 hd]; exact h4
        have hk : sk (two A B) d = p :: sk A p := by rw [two_sk1 hl.1 (by omega), h5]
        obtain ⟨g1, g2⟩ := mt_of hS hc hk
        have i1 := ih (p + 1) (by omega) (by omega)
        rw [if_neg (by rw [sk_opn' ho]; simp)] at i1
        have i2 := ih (d + 1) (by omega) (by omega)
        have hsk : sk A (d + 1) = sk A p := by rw [sk_cls h4, h5]; rfl
        rw [hsk] at i2
        rw [nb_of g1 g2, nb_of h1 h2]
        exact ⟨i1, i2⟩
      by_cases c2 : (at_ A p).1 = 21
      · obtain ⟨i1, i2⟩ := open_ (by unfold opn; rw [c2]; rfl)
        rw [if_pos c2, if_pos c2, i1, i2]; omega
      · rw [if_neg c2, if_neg c2]
        by_cases c3 : (at_ A p).1 = 23
        · obtain ⟨i1, i2⟩ := open_ (by unfold opn; rw [c3]; rfl)
          rw [if_pos c3, if_pos c3, i1, i2]; omega
        · rw [if_neg c3, if_neg c3]
          have hsk : sk A (p + 1) = sk A p := sk_same (by omega)
          have i1 := ih (p + 1) (by omega) (by omega)
          rw [hsk] at i1
          have i3 : (at_ A p).1 = 19 ∨ (at_ A p).1 = 20 → ub m (two A B) (led A p) = ub m A (led A p) + if sk A p = [] then ub m B 0 else 0 := fun h => by
            have hl2 := led_hm hA (p := p) (by omega) h
            have := ih (led A p) (led_gt A p) (by omega)
            rw [sk_hm hl2.2] at this; exact this
          by_cases c4 : (at_ A p).1 = 19
          · rw [if_pos c4, if_pos c4, i3 (Or.inl c4)]; omega
          · rw [if_neg c4, if_neg c4]
            by_cases c5 : (at_ A p).1 = 20
            · rw [if_pos c5, if_pos c5, i3 (Or.inr c5), i1, of_add]; omega
            · rw [if_neg c5, if_neg c5, i1]; omega
  intro p hp
  by_cases e : p = A.length - 1
  · rw [e]; exact hlast
  · exact key p (by omega)
theorem two_sum (hA : wE A = 0) (hB : wE B = 0) (hn : A.length + B.length ≤ 200) (m : Bool) : ub m (two A B) 0 = ub m A 0 + ub m B 0 := by
  have := two_ub1 hA hB hn m 0 (by omega)
  rw [this, if_pos (by rfl)]
/-- The steps of a loop around a row. -/
theorem lp_ub1 {x : Int} (hA : wE A = 0) (m : Bool) : ∀ j, j ≤ A.length - 1 → ub m (lp x A) (1 + j) = ub m A j := by
  have hl := wE_len hA
  have hS := lp_sound (x := x) hA
  have hSA := (mE_zero (wE_zero hA).1).2
  have hlen := lp_len (x := x) hl.1
  have hend := held_end hSA (wE_zero hA).2.1 hl.1
  have hlast : ub m (lp x A) (1 + (A.length - 1)) = ub m A (A.length - 1) := by
    rw [ub_stop m (L := A) (p := A.length - 1) (Or.inr (Or.inr (wE_end hA))), ub_stop m (L := lp x A) (p := 1 + (A.length - 1)) (Or.inl (by rw [lp_next hl.1]))]
  have key : ∀ p, p < A.length - 1 → ub m (lp x A) (1 + p) = ub m A p := by
    refine down (n := A.length - 1) (P := fun p => p < A.length - 1 → ub m (lp x A) (1 + p) = ub m A p) (fun p hp ih0 _ => ?_) (fun p hp h => by omega)
    have ih : ∀ q, p < q → q ≤ A.length - 1 → ub m (lp x A) (1 + q) = ub m A q := fun q h1 h2 => by
      by_cases e : q = A.length - 1
      · rw [e]; exact hlast
      · exact ih0 q h1 (by omega)
    rw [ub_eq m (p := 1 + p) (by rw [hlen]; omega), ub_eq m (L := A) (p := p) (by omega)]
    have hat := lp_mid (x := x) hp
    have h25 := op_stop hA (p := p) (by omega)
    unfold wv
    have eled : led (lp x A) (1 + p) = 1 + led A p := by unfold led; rw [hat]; omega
    have enx : 1 + p + 1 = 1 + (p + 1) := by omega
    rw [hat, eled, enx]
    by_cases c1 : (at_ A p).1 = 22 ∨ (at_ A p).1 = 24 ∨ (at_ A p).1 = 25
    · rw [if_pos c1, if_pos c1]
    · rw [if_neg c1, if_neg c1]
      have i1 := ih (p + 1) (by omega) (by omega)
      have open_ : opn (at_ A p) = true → ub m (lp x A) (nb (lp x A) (1 + p)) = ub m A (nb A p) := fun ho => by
        obtain ⟨d, h1, h2, h3, h4, h5, h6⟩ := hSA.opn ho
        have hd : d < A.length - 1 := by
          have : d ≠ A.length - 1 := fun e => by rw [e, hend] at h5; cases h5
          omega
        have hc : cls (at_ (lp x A) (1 + d)) = true := by rw [lp_mid hd]; exact h4
        have hk : sk (lp x A) (1 + d) = (1 + p) :: ((sk A p).map (fun t => 1 + t) ++ [0]) := by rw [lp_sk hA (by omega), h5]; rfl
        obtain ⟨g1, g2⟩ := mt_of hS hc hk
        rw [nb_of g1 g2, nb_of h1 h2, show 1 + d + 1 = 1 + (d + 1) by omega]
        exact ih (d + 1) (by omega) (by omega)
      rw [i1]
      by_cases c2 : (at_ A p).1 = 21
      · rw [if_pos c2, if_pos c2, open_ (by unfold opn; rw [c2]; rfl)]
      · rw [if_neg c2, if_neg c2]
        by_cases c3 : (at_ A p).1 = 23
        · rw [if_pos c3, if_pos c3, open_ (by unfold opn; rw [c3]; rfl)]
        · rw [if_neg c3, if_neg c3]
          have i3 : (at_ A p).1 = 19 ∨ (at_ A p).1 = 20 → ub m (lp x A) (1 + led A p) = ub m A (led A p) := fun h => by
            have hl2 := led_hm hA (p := p) (by omega) h
            exact ih (led A p) (led_gt A p) (by omega)
          by_cases c4 : (at_ A p).1 = 19
          · rw [if_pos c4, if_pos c4, i3 (Or.inl c4)]
          · rw [if_neg c4, if_neg c4]
            by_cases c5 : (at_ A p).1 = 20
            · rw [if_pos c5, if_pos c5, i3 (Or.inr c5)]
            · rw [if_neg c5, if_neg c5]
  intro p hp
  by_cases e : p = A.length - 1
  · rw [e]; exact hlast
  · exact key p (by omega)
theorem lp_sum {x : Int} (hA : wE A = 0) (m : Bool) : ub m (lp x A) 0 = 1 + x.toNat * (ub m A 0 + 1) := by
  have hl := wE_len hA
  have h1 := lp_ub1 (x := x) hA m 0 (by omega)
  rw [Nat.add_zero] at h1
  obtain ⟨f1, _⟩ := lp_first (x := x) hA
  rw [ub_loop m (by rw [lp_zero]), nb_of f1 (by omega), lp_zero, h1, ub_stop m (L := lp x A) (p := A.length + 1) (Or.inr (Or.inr (by rw [Nat.add_comm, lp_end hl.1])))]
  rfl
/-- What the law asks of the rows. -/
theorem sums_facts (hn : A.length + B.length ≤ 190) (x : Int) (hx : 1 ≤ x) (h1 : cE true A = 0) (h2 : cE true B = 0) :
    (1 ≤ cW true A ∧ cW true A ≤ 1048576 ∧ 1 ≤ cW true B ∧ cW true B ≤ 1048576) ∧ (cE true (two A B) = 0 → cW true (two A B) = cW true A + cW true B - 1) ∧ (cE true (lp x A) = 0 → cW true (lp x A) = x * cW true A + 2) := by
  obtain ⟨a1, a2⟩ := cE_zero h1
  obtain ⟨b1, b2⟩ := cE_zero h2
  have hA := (lE_zero (rE_zero a1).1).1
  have hB := (lE_zero (rE_zero b1).1).1
  unfold cW
  rw [if_pos h1, if_pos h2]
  refine ⟨by omega, fun h => ?_, fun h => ?_⟩
  · rw [if_pos h, two_sum hA hB (by omega)]; omega
  · rw [if_pos h, lp_sum hA]
    obtain ⟨k, rfl⟩ : ∃ k : Nat, x = k := ⟨x.toNat, by omega⟩
    rw [Int.toNat_natCast]
    generalize ub true A 0 = u
    have : ((1 + k * (u + 1) + 1 : Nat) : Int) = (k : Int) * ((u + 1 : Nat) : Int) + 2 := by
      rw [Int.natCast_add, Int.natCast_add, Int.natCast_mul]; omega
    exact this
end
/-- A row of instructions, or none, is appended to an own one. -/
theorem wpList_append_rowI {P : Program} (w : World) {ops : Array Oper} {rest : List Oper} {o : Oper} {a : Act} {Q : Exit → Act → World → Prop} (hw : Region.wanted o (yielded ops a.tmps) = true) (s x : Operand) (t : TypeId)
    (ho : o.op = .call { callee := .builtin .append, args := #[s, x], argTypes := #[t, t] })
    (base : Nat) (i : TypeInfo) (ht : P.underlying t = some (.slice 37)) (hi : P.info? 37 = some i) (hz : i.zero = some (.agg #[.int .i64 0, .int .i64 0, .int .i64 0])) (hsize : i.size = 3) (hby : i.bytes = 24)
    (g n cap : Nat) (xs : List Value) (hs : a.eval s = .slice (some ⟨g, 0, none⟩) n cap) (hown : w.ownsRow base 37 3 (.slice (some ⟨g, 0, none⟩) n cap) n xs)
    (xa : Option Addr) (m c : Nat) (l : List (Int × Int × Int)) (hx : a.eval x = .slice xa m c) (hr : RowI w xa m l)
    (h63 : n + m ≤ 1000) (hbase : base ≤ w.heap.size)
    (h : ∀ g' cap' w', w'.ownsRow base 37 3 (.slice (some ⟨g', 0, none⟩) (n + m) cap') (n + m) (xs ++ cellsI l) → w.grownBy w' (some g) → wpList P ops Q rest (a.put o.dst (.slice (some ⟨g', 0, none⟩) (n + m) cap')) w') : wpList P ops Q (o :: rest) a w := by
  unfold wpList
  rw [if_pos hw]
  have none_ : m = 0 → xa = none → _ := fun hm hxa => by
    subst hm; subst hxa
    have hl : l = [] := List.eq_nil_of_length_eq_zero hr.1.symm
    subst hl
    have hnc : n ≤ cap := by
      rcases hown.2 with ⟨e, _⟩ | ⟨g', cap', cur, e, _, _, h4, _⟩
      · cases e
      · cases e; exact h4
    exact Lib.wp_append_run_sl (Q := Q) (K := fun a' w' => wpList P ops Q rest a' w') w s x t ho _ _ hs hx (run_append_none w t o.type 37 i ht hi g n cap c hnc) (h g cap w (by simpa [cellsI] using hown) ⟨rfl, rfl, rfl, Nat.le_refl _, fun _ _ _ => rfl⟩)
  cases xa with
  | none =>
    have hm : m = 0 := by
      rcases Nat.eq_zero_or_pos m with h | h
      · exact h
      · obtain ⟨_, _, e, _⟩ := hr.2 h; cases e
    exact Or.inl (none_ hm rfl)
  | some ad =>
    have hcells : ∀ j u, (cellsI l)[j]? = some u → w.cell? (ad.add j) = some u := by
      rcases Nat.eq_zero_or_pos m with h | h
      · have hl : l = [] := List.eq_nil_of_length_eq_zero (by rw [← hr.1]; exact h)
        subst hl; intro j u hj; simp [cellsI] at hj
      · obtain ⟨b, off, e, _⟩ := hr.2 h
        cases e
        exact hr.cells rfl
    refine Or.inl (wp_append_own w s x t ho base 37 i (.agg #[.int .i64 0, .int .i64 0, .int .i64 0]) 3 24 ht hi hz hsize hby rfl (by decide) _ n xs hs hown ad m c (cellsI l) hx (by rw [cellsI_length, hr.1]) hcells (cellsI_one l) (by unfold maxLen; omega) (by omega) hbase ?_)
    intro v' w' h1 h2 h3
    rcases h1.2 with ⟨e, e0⟩ | ⟨g', cap', cur, e, _⟩
    · have := h3.1 e
      cases this.1
    · subst e
      exact h g' cap' w' h1 h2
end Go.Proofs.YtacgnofmccennaaDoor
