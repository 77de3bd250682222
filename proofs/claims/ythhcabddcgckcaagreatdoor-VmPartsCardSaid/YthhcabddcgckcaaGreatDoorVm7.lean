/- What is proved here: each step leaves fewer steps to go; so a run ends. Conditions: New takes the row. -/
import Derived.Test.YthhcabddcgckcaaGreatDoorVm6
namespace Go.Proofs.YthhcabddcgckcaaGreatDoor

theorem ph_less {L : List (Int × Int × Int)} (w : Takes L) {p q : Nat} {c : List (Nat × Int)} (hp : p < L.length) (h : Lm L (lo L (sk L p)) c) (hpq : p < q) (hq : q < L.length) (hs : sk L q = sk L p) : ph L c q + 1 ≤ ph L c p := by
  obtain ⟨R, hR⟩ := ph_form L c
  obtain ⟨f1, f2, f3, f4, f5⟩ := place_facts w hp h
  rw [hR, hR]
  have := sm_less L (fst_ c) hpq (Nat.le_of_lt (f5 q hq hs)) f1
  omega
/-- The loop that a place opens is within the one that it stands in. -/
theorem loop_in {L : List (Int × Int × Int)} (w : Takes L) {p : Nat} {c : List (Nat × Int)} (hp : p < L.length) (h : Lm L (lo L (sk L p)) c) (ho : (at_ L p).1 = 21) :
    p + 1 ≤ clP L (p + 1) ∧ clP L (p + 1) ≤ lst_ L c ∧ ∀ j, p + 1 ≤ j → j < clP L (p + 1) → prd L (fst_ c) (sk L j) = (at_ L p).2.1.toNat * prd L (p + 1) (sk L j) := by
  obtain ⟨m, hm1, hm2, hm3, hm4, hm5, hm6⟩ := w.sound.opn (p := p) (by unfold opn; rw [ho]; rfl)
  obtain ⟨f1, f2, f3, f4, f5⟩ := place_facts w hp h
  have hcl : clP L (p + 1) = m + 1 := by unfold clP; rw [Nat.add_sub_cancel, hm1]; rfl
  rw [hcl]
  refine ⟨by omega, ?_, ?_⟩
  · cases c with
    | nil => show m + 1 ≤ L.length; omega
    | cons x r =>
      cases hq : lo L (sk L p) with
      | nil => rw [hq] at h; exact h.elim
      | cons t s =>
        rw [hq] at h
        have hx : x.1 = t + 1 := h.1
        have ht1 : t ∈ sk L p := (lo_mem.1 (by rw [hq]; simp : t ∈ lo L (sk L p))).1
        have h2 : t ∈ sk L m := by rw [hm5]; exact List.mem_cons_of_mem _ ht1
        have := (w.sound.within (k := t) (i := m) (by omega)).1 h2
        show m + 1 ≤ clP L x.1
        rw [hx]; unfold clP; rw [Nat.add_sub_cancel]; omega
  · intro j h1 h2
    have hin : p ∈ sk L j := (w.sound.within (k := p) (i := j) (by omega)).2 ⟨by omega, by rw [hm1]; omega⟩
    obtain ⟨u, hu⟩ := sk_mem hin
    have hgt : ∀ x ∈ u, p + 1 ≤ x := by
      intro x hx
      obtain ⟨a1, a2, ha⟩ := List.append_of_mem hx
      have := sk_chain (l := L) (k := j) (t := x) (u := a1) (s := a2 ++ p :: sk L p) (by rw [hu, ha]; simp)
      have h3 : p ∈ sk L x := by rw [← this]; simp
      have := sk_lt h3; omega
    rw [hu, prd_append, prd_append]
    have e1 : prd L (fst_ c) u = prd L (p + 1) u := prd_same fun x hx => ⟨by have := hgt x hx; omega, hgt x hx⟩
    have e2 : prd L (fst_ c) (p :: sk L p) = (at_ L p).2.1.toNat := by
      unfold prd; rw [if_pos ⟨ho, f3⟩, f1, Nat.mul_one]
    have e3 : prd L (p + 1) (p :: sk L p) = 1 := prd_one fun x hx _ => by
      rcases List.mem_cons.1 hx with rfl | hx
      · omega
      · have := sk_lt hx; omega
    rw [e1, e2, e3, Nat.mul_one, Nat.mul_comm]
/-- Each step leaves fewer. -/
theorem ph_step {L : List (Int × Int × Int)} {v : V} (h : Agr L v) (w : Takes L) (M : List Int) (ho : (at_ L v.pl).1 ≠ 25) : ph L (stp L v M).1.lps.reverse (stp L v M).1.pl + 1 ≤ ph L v.lps.reverse v.pl := by
  have hr := w.right h.pl
  have hk := right_kn hr
  have hmore := w.more h.pl ho
  have hst : (stp L v M).1 = (deed (at_ L v.pl) v.ahead M).1 := rfl
  have hA := (right_parts hr).2.1
  have hI := inv_step h w M ho
  rcases (show ((at_ L v.pl).1 < 19 ∧ 1 ≤ (at_ L v.pl).1) ∨ (at_ L v.pl).1 = 19 ∨ (at_ L v.pl).1 = 20 ∨ (at_ L v.pl).1 = 21 ∨ (at_ L v.pl).1 = 22 ∨ ((at_ L v.pl).1 = 23 ∨ (at_ L v.pl).1 = 24) by omega) with e | e | e | e | e | e
  · obtain ⟨d1, d2, _, _⟩ := deed_plain (at_ L v.pl) v.ahead M e
    rw [hst, d1, d2]
    exact ph_less w h.pl h.lps (by show v.pl < v.pl + 1; omega) hmore (sk_oth (opn_not (by omega) (by omega)) (cls_not (by omega) (by omega)))
  · have hj := jmps_iff.1 w.jmps v.pl h.pl (by unfold jmp; rw [e]; rfl)
    have hd : (deed (at_ L v.pl) v.ahead M).1 = { v.ahead with pl := led L v.pl } := by
      rcases hx : at_ L v.pl with ⟨o, a, c⟩
      rw [hx] at e; simp only at e; subst e
      unfold led; rw [hx]; rfl
    rw [hst, hd]
    exact ph_less w h.pl h.lps (by show v.pl < led L v.pl; unfold led; omega) hj.1 (sk_hm hj.2)
  · have hj := jmps_iff.1 w.jmps v.pl h.pl (by unfold jmp; rw [e]; rfl)
    have hd : (deed (at_ L v.pl) v.ahead M).1 = { v.ahead.pop with pl := if v.ahead.top = 0 then led L v.pl else v.pl + 1 } := by
      rcases hx : at_ L v.pl with ⟨o, a, c⟩
      rw [hx] at e; simp only at e; subst e
      unfold led; rw [hx]; rfl
    rw [hst, hd]
    show ph L v.lps.reverse (if v.ahead.top = 0 then led L v.pl else v.pl + 1) + 1 ≤ _
    by_cases h0 : v.ahead.top = 0
    · rw [if_pos h0]; exact ph_less w h.pl h.lps (by unfold led; omega) hj.1 (sk_hm hj.2)
    · rw [if_neg h0]; exact ph_less w h.pl h.lps (by omega) hmore (sk_oth (opn_not (by omega) (by omega)) (cls_not (by omega) (by omega)))
  · have hd : (deed (at_ L v.pl) v.ahead M).1 = { v.ahead with lps := v.lps ++ [(v.pl + 1, (at_ L v.pl).2.1)] } := by
      rcases hx : at_ L v.pl with ⟨o, a, c⟩
      rw [hx] at e; simp only at e; subst e; rfl
    rw [e] at hA
    have hA2 : 1 ≤ (at_ L v.pl).2.1 ∧ (at_ L v.pl).2.1 ≤ 1000 := of_decide_eq_true hA
    rw [hst, hd]
    show ph L (v.lps ++ [(v.pl + 1, (at_ L v.pl).2.1)]).reverse (v.pl + 1) + 1 ≤ _
    simp only [List.reverse_append, List.reverse_cons, List.reverse_nil, List.nil_append, List.singleton_append]
    obtain ⟨g1, g2, g3⟩ := loop_in w h.pl h.lps e
    obtain ⟨R, hR⟩ := ph_form L v.lps.reverse
    obtain ⟨f1, f2, _⟩ := place_facts w h.pl h.lps
    show sm L (v.pl + 1) (v.pl + 1) (clP L (v.pl + 1) - (v.pl + 1)) + ((at_ L v.pl).2.1.toNat - 1) * sm L (v.pl + 1) (v.pl + 1) (clP L (v.pl + 1) - (v.pl + 1)) + ph L v.lps.reverse (clP L (v.pl + 1)) + 1 ≤ ph L v.lps.reverse v.pl
    rw [hR v.pl, hR (clP L (v.pl + 1))]
    have s1 := sm_split L (fst_ v.lps.reverse) 1 v.pl (lst_ L v.lps.reverse - (v.pl + 1))
    rw [show 1 + (lst_ L v.lps.reverse - (v.pl + 1)) = lst_ L v.lps.reverse - v.pl by omega] at s1
    have s2 : sm L (fst_ v.lps.reverse) v.pl 1 = 1 := by show prd L _ (sk L v.pl) + 0 = 1; rw [f1]
    have s3 := sm_split L (fst_ v.lps.reverse) (clP L (v.pl + 1) - (v.pl + 1)) (v.pl + 1) (lst_ L v.lps.reverse - clP L (v.pl + 1))
    rw [show clP L (v.pl + 1) - (v.pl + 1) + (lst_ L v.lps.reverse - clP L (v.pl + 1)) = lst_ L v.lps.reverse - (v.pl + 1) by omega, show v.pl + 1 + (clP L (v.pl + 1) - (v.pl + 1)) = clP L (v.pl + 1) by omega] at s3
    have s4 := sm_mul (L := L) (f := fst_ v.lps.reverse) (g := v.pl + 1) (c := (at_ L v.pl).2.1.toNat) (n := clP L (v.pl + 1) - (v.pl + 1)) (p := v.pl + 1) fun j h1 h2 => g3 j h1 (by omega)
    rw [s1, s2, s3, s4]
    obtain ⟨A, hAn⟩ : ∃ A, (at_ L v.pl).2.1.toNat = A + 1 := ⟨(at_ L v.pl).2.1.toNat - 1, by omega⟩
    rw [hAn, Nat.add_sub_cancel, Nat.add_mul, Nat.one_mul]
    generalize A * sm L (v.pl + 1) (v.pl + 1) (clP L (v.pl + 1) - (v.pl + 1)) = X
    omega
  · obtain ⟨t, s, hs, hc⟩ := w.close h.pl (by unfold cls; rw [e]; rfl)
    have ht := clo_next hc e
    have hm := h.lps
    rw [hs, lo_cons, if_pos ht] at hm
    cases hq : v.lps.reverse with
    | nil => rw [hq] at hm; exact hm.elim
    | cons x q =>
      have hpf := place_facts w h.pl h.lps
      rw [hq] at hm hpf
      obtain ⟨m1, m2, m3, m4⟩ := hm
      have hlps := snoc_rev hq
      have hd : (deed (at_ L v.pl) v.ahead M).1 = if 0 < x.2 - 1 then { v.ahead with lps := q.reverse ++ [(x.1, x.2 - 1)], pl := x.1 } else { v.ahead with lps := q.reverse } := by
        rcases hx : at_ L v.pl with ⟨o, a, c⟩
        rw [hx] at e; simp only at e; subst e
        show (if 0 < (v.lps.getLastD (0, 0)).2 - 1 then ({ v.ahead with lps := v.lps.dropLast ++ [((v.lps.getLastD (0, 0)).1, (v.lps.getLastD (0, 0)).2 - 1)], pl := (v.lps.getLastD (0, 0)).1 } : V) else { v.ahead with lps := v.lps.dropLast }) = _
        rw [hlps]; simp
      have hcl : clP L x.1 = v.pl + 1 := by
        obtain ⟨u, hu1, _, _, hu4, _⟩ := mt_cls (l := L) (k := L.length) w.sound.1 h.pl (by unfold cls; rw [e]; rfl)
        rw [hs] at hu1
        simp only [List.cons.injEq] at hu1
        unfold clP
        rw [m1, Nat.add_sub_cancel, hu1.1, hu4]; rfl
      have one : sm L x.1 v.pl (clP L x.1 - v.pl) = 1 := by
        rw [hcl, show v.pl + 1 - v.pl = 1 by omega]
        show prd L x.1 (sk L v.pl) + 0 = 1
        have := hpf.1
        rw [Nat.add_zero]; exact this
      rw [hst, hd]
      by_cases h0 : 0 < x.2 - 1
      · rw [if_pos h0]
        show ph L (q.reverse ++ [(x.1, x.2 - 1)]).reverse x.1 + 1 ≤ _
        simp only [List.reverse_append, List.reverse_cons, List.reverse_nil, List.nil_append, List.singleton_append, List.reverse_reverse]
        show sm L x.1 x.1 (clP L x.1 - x.1) + ((x.2 - 1).toNat - 1) * sm L x.1 x.1 (clP L x.1 - x.1) + ph L q (clP L x.1) + 1 ≤ sm L x.1 v.pl (clP L x.1 - v.pl) + (x.2.toNat - 1) * sm L x.1 x.1 (clP L x.1 - x.1) + ph L q (clP L x.1)
        rw [one]
        obtain ⟨K, hK⟩ : ∃ K, x.2.toNat = K + 2 := ⟨x.2.toNat - 2, by omega⟩
        rw [show (x.2 - 1).toNat - 1 = K by omega, show x.2.toNat - 1 = K + 1 by omega, Nat.add_mul, Nat.one_mul]
        omega
      · rw [if_neg h0]
        show ph L q.reverse.reverse (v.pl + 1) + 1 ≤ sm L x.1 v.pl (clP L x.1 - v.pl) + (x.2.toNat - 1) * sm L x.1 x.1 (clP L x.1 - x.1) + ph L q (clP L x.1)
        rw [one, List.reverse_reverse, hcl]
        omega
  · -- Lock, Unlock
    obtain ⟨R, hR⟩ := ph_form L v.lps.reverse
    obtain ⟨f1, f2, f3, f4, f5⟩ := place_facts w h.pl h.lps
    have hd : (deed (at_ L v.pl) v.ahead M).1.pl = v.pl + 1 ∧ (deed (at_ L v.pl) v.ahead M).1.lps = v.lps := by
      rcases hx : at_ L v.pl with ⟨o, a, c⟩
      rw [hx] at e
      rcases e with e | e <;> simp only at e <;> subst e <;> exact ⟨rfl, rfl⟩
    rw [hst, hd.1, hd.2, hR v.pl, hR (v.pl + 1)]
    have := sm_less L (fst_ v.lps.reverse) (show v.pl < v.pl + 1 from Nat.lt_succ_self _) f2 f1
    omega
/-- The bound. -/
def most (L : List (Int × Int × Int)) : Nat := sm L 0 0 L.length
theorem ph_pos {L : List (Int × Int × Int)} {v : V} (h : Agr L v) (w : Takes L) : 1 ≤ ph L v.lps.reverse v.pl := by
  obtain ⟨R, hR⟩ := ph_form L v.lps.reverse
  obtain ⟨f1, f2, _⟩ := place_facts w h.pl h.lps
  rw [hR]
  have := sm_less L (fst_ v.lps.reverse) (p := v.pl) (q := lst_ L v.lps.reverse) f2 (Nat.le_refl _) f1
  omega
/-- As long as it runs there are steps to go. -/
theorem run_short {L : List (Int × Int × Int)} (w : Takes L) {x : V × List Int} (h : Agr L x.1) : ∀ k, (it L k x).1.goes = true → Agr L (it L k x).1 ∧ ph L (it L k x).1.lps.reverse (it L k x).1.pl + k ≤ ph L x.1.lps.reverse x.1.pl
  | 0, _ => ⟨h, Nat.le_refl _⟩
  | k + 1, hg => by
    have hg2 : (it L k x).1.goes = true := by
      cases hq : (it L k x).1.goes
      · have : (it L (k + 1) x).1.goes = false := by show (nxt L (it L k x)).1.goes = false; unfold nxt; rw [if_neg (by rw [hq]; simp)]; exact hq
        rw [this] at hg; cases hg
      · rfl
    obtain ⟨i1, i2⟩ := run_short w h k hg2
    have hn : it L (k + 1) x = stp L (it L k x).1 (it L k x).2 := by show nxt L (it L k x) = _; unfold nxt; rw [if_pos hg2]
    by_cases he : (at_ L (it L k x).1.pl).1 = 25
    · rw [hn, (w.end_ i1 he _).1] at hg; cases hg
    · rw [hn]
      refine ⟨inv_step i1 w _ he, ?_⟩
      have := ph_step i1 w (it L k x).2 he
      omega
theorem run_ends {L : List (Int × Int × Int)} (w : Takes L) (ret inp M : List Int) : (it L (most L) (begun ret inp, M)).1.goes = false := by
  cases hq : (it L (most L) (begun ret inp, M)).1.goes
  · rfl
  · obtain ⟨i1, i2⟩ := run_short w (x := (begun ret inp, M)) (w.begun ret inp) _ hq
    have := ph_pos i1 w
    have e : ph L (begun ret inp).lps.reverse (begun ret inp).pl = most L := rfl
    have e2 : ph L (begun ret inp, M).1.lps.reverse (begun ret inp, M).1.pl = most L := e
    omega
end Go.Proofs.YthhcabddcgckcaaGreatDoor
