/- What is proved here: a run takes no fewer steps than the best way, and no more than the worst; a block is locked for no more steps than its section's. Conditions: New takes the row (Takes). -/
import Derived.Test.YthncbnalnfbpnaaGreatDoorHp
import Derived.Test.YthncbnalnfbpnaaGreatDoorPl10
namespace Go.Proofs.YthncbnalnfbpnaaGreatDoor
open Go.RowKit

/-- The steps behind the last instruction of the innermost region, by the regions around it and the rounds of their loops. -/
def rem (m : Bool) (L : List (Int × Int × Int)) : List Nat → List (Nat × Int) → Nat
  | [], _ => 1
  | t :: s, c => if (at_ L t).1 = 21 then 1 + ((c.headD (0, 0)).2.toNat - 1) * (ub m L (t + 1) + 1) + ub m L (nb L t) + rem m L s c.tail else 1 + ub m L (nb L t) + rem m L s c
/-- One step fewer, at least or at most. -/
def stl (m : Bool) (x y : Nat) : Prop := if m = true then y + 1 ≤ x else x ≤ y + 1
theorem stl_eq {m : Bool} {x y : Nat} (h : x = y + 1) : stl m x y := by unfold stl; split <;> omega
theorem stl_of1 (m : Bool) (x y R : Nat) : stl m (1 + of_ m x y + R) (x + R) := by unfold stl of_; cases m <;> simp <;> omega
theorem stl_of2 (m : Bool) (x y R : Nat) : stl m (1 + of_ m x y + R) (y + R) := by unfold stl of_; cases m <;> simp <;> omega
theorem rem_pos (m : Bool) (L : List (Int × Int × Int)) (s : List Nat) (c : List (Nat × Int)) : 1 ≤ rem m L s c := by
  cases s with
  | nil => exact Nat.le_refl _
  | cons t s => unfold rem; split <;> omega
theorem nb_of {L : List (Int × Int × Int)} {t p : Nat} (h : mt L L.length t = (p : Int)) (hp : t < p) : nb L t = p + 1 := by
  unfold nb; rw [h]; simp; omega
/-- What is left changes by one. -/
theorem rem_step {L : List (Int × Int × Int)} {v : V} (h : Agr L v) (w : Takes L) (M : List Int) (ho : (at_ L v.pl).1 ≠ 25) (u b : List Nat) (hs : sk L v.pl = u ++ b) (hu : u = [] → cls (at_ L v.pl) = false) :
    ∃ u', sk L (stp L v M).1.pl = u' ++ b ∧ (opn (at_ L v.pl) = false → ∀ z ∈ u', z ∈ u) ∧ ∀ m, stl m (ub m L v.pl + rem m L u v.lps.reverse) (ub m L (stp L v M).1.pl + rem m L u' (stp L v M).1.lps.reverse) := by
  have hr := w.right h.pl
  have hk := right_kn hr
  have hst : (stp L v M).1 = (deed (at_ L v.pl) v.ahead M).1 := rfl
  have hA := (right_parts hr).2.1
  rcases (show ((at_ L v.pl).1 < 19 ∧ 1 ≤ (at_ L v.pl).1) ∨ (at_ L v.pl).1 = 19 ∨ (at_ L v.pl).1 = 20 ∨ (at_ L v.pl).1 = 21 ∨ (at_ L v.pl).1 = 22 ∨ (at_ L v.pl).1 = 23 ∨ (at_ L v.pl).1 = 24 by omega) with e | e | e | e | e | e | e
  · obtain ⟨d1, d2, _, _⟩ := deed_plain (at_ L v.pl) v.ahead M e
    have hsk : sk L (v.pl + 1) = sk L v.pl := sk_oth (opn_not (by omega) (by omega)) (cls_not (by omega) (by omega))
    rw [hst, d1, d2]
    refine ⟨u, by show sk L (v.pl + 1) = _; rw [hsk, hs], fun _ z hz => hz, fun m => stl_eq ?_⟩
    show ub m L v.pl + rem m L u v.lps.reverse = ub m L (v.pl + 1) + rem m L u v.lps.reverse + 1
    rw [ub_else m h.pl (by omega) (by omega) (by omega) (by omega) (by omega)]; omega
  · have hj := jmps_iff.1 w.jmps v.pl h.pl (by unfold jmp; rw [e]; rfl)
    have hd : (deed (at_ L v.pl) v.ahead M).1 = { v.ahead with pl := led L v.pl } := by
      rcases hx : at_ L v.pl with ⟨o, a, c⟩
      rw [hx] at e; simp only at e; subst e
      unfold led; rw [hx]; rfl
    rw [hst, hd]
    refine ⟨u, by show sk L (led L v.pl) = _; rw [sk_hm hj.2, hs], fun _ z hz => hz, fun m => stl_eq ?_⟩
    show ub m L v.pl + rem m L u v.lps.reverse = ub m L (led L v.pl) + rem m L u v.lps.reverse + 1
    rw [ub_jump m e]; omega
  · have hj := jmps_iff.1 w.jmps v.pl h.pl (by unfold jmp; rw [e]; rfl)
    have hd : (deed (at_ L v.pl) v.ahead M).1 = { v.ahead.pop with pl := if v.ahead.top = 0 then led L v.pl else v.pl + 1 } := by
      rcases hx : at_ L v.pl with ⟨o, a, c⟩
      rw [hx] at e; simp only at e; subst e
      unfold led; rw [hx]; rfl
    have hsk : sk L (v.pl + 1) = sk L v.pl := sk_oth (opn_not (by omega) (by omega)) (cls_not (by omega) (by omega))
    rw [hst, hd]
    by_cases h0 : v.ahead.top = 0
    · rw [if_pos h0]
      refine ⟨u, by show sk L (led L v.pl) = _; rw [sk_hm hj.2, hs], fun _ z hz => hz, fun m => ?_⟩
      show stl m (ub m L v.pl + rem m L u v.lps.reverse) (ub m L (led L v.pl) + rem m L u v.lps.reverse)
      rw [ub_branch m e]; exact stl_of2 _ _ _ _
    · rw [if_neg h0]
      refine ⟨u, by show sk L (v.pl + 1) = _; rw [hsk, hs], fun _ z hz => hz, fun m => ?_⟩
      show stl m (ub m L v.pl + rem m L u v.lps.reverse) (ub m L (v.pl + 1) + rem m L u v.lps.reverse)
      rw [ub_branch m e]; exact stl_of1 _ _ _ _
  · have hd : (deed (at_ L v.pl) v.ahead M).1 = { v.ahead with lps := v.lps ++ [(v.pl + 1, (at_ L v.pl).2.1)] } := by
      rcases hx : at_ L v.pl with ⟨o, a, c⟩
      rw [hx] at e; simp only at e; subst e; rfl
    have hsk : sk L (v.pl + 1) = v.pl :: sk L v.pl := sk_opn' (by unfold opn; rw [e]; rfl)
    rw [e] at hA
    have hA2 : 1 ≤ (at_ L v.pl).2.1 ∧ (at_ L v.pl).2.1 ≤ 1000 := of_decide_eq_true hA
    rw [hst, hd]
    refine ⟨v.pl :: u, by show sk L (v.pl + 1) = _; rw [hsk, hs]; rfl, fun hop => (by unfold opn at hop; rw [e] at hop; cases hop), fun m => stl_eq ?_⟩
    show ub m L v.pl + rem m L u v.lps.reverse = ub m L (v.pl + 1) + rem m L (v.pl :: u) (v.lps ++ [(v.pl + 1, (at_ L v.pl).2.1)]).reverse + 1
    simp only [List.reverse_append, List.reverse_cons, List.reverse_nil, List.nil_append, List.singleton_append]
    rw [ub_loop m e, rem, if_pos e]
    simp only [List.headD_cons, List.tail_cons]
    obtain ⟨A, hAn⟩ : ∃ A, (at_ L v.pl).2.1.toNat = A + 1 := ⟨(at_ L v.pl).2.1.toNat - 1, by omega⟩
    rw [hAn, Nat.add_sub_cancel, Nat.add_mul, Nat.one_mul]
    generalize A * (ub m L (v.pl + 1) + 1) = X
    omega
  · obtain ⟨t, s, hts, hc⟩ := w.close h.pl (by unfold cls; rw [e]; rfl)
    have ht := clo_next hc e
    have htp : t < v.pl := sk_lt (l := L) (by rw [hts]; simp)
    have hm := h.lps
    rw [hts, lo_cons, if_pos ht] at hm
    have hnb : nb L t = v.pl + 1 := by
      obtain ⟨u, hu1, _, _, hu4, _⟩ := mt_cls (l := L) (k := L.length) w.sound.1 h.pl (by unfold cls; rw [e]; rfl)
      rw [hts] at hu1
      simp only [List.cons.injEq] at hu1
      exact nb_of (by rw [hu1.1]; exact hu4) htp
    cases u with
    | nil => have := hu rfl; unfold cls at this; rw [e] at this; cases this
    | cons t' u1 =>
      rw [hts] at hs
      simp only [List.cons_append, List.cons.injEq] at hs
      obtain ⟨rfl, hs1⟩ := hs
      cases hq : v.lps.reverse with
      | nil => rw [hq] at hm; exact hm.elim
      | cons x q =>
        rw [hq] at hm
        obtain ⟨m1, m2, m3, m4⟩ := hm
        have hlps := snoc_rev hq
        have hd : (deed (at_ L v.pl) v.ahead M).1 = if 0 < x.2 - 1 then { v.ahead with lps := q.reverse ++ [(x.1, x.2 - 1)], pl := x.1 } else { v.ahead with lps := q.reverse } := by
          rcases hx : at_ L v.pl with ⟨o, a, c⟩
          rw [hx] at e; simp only at e; subst e
          show (if 0 < (v.lps.getLastD (0, 0)).2 - 1 then ({ v.ahead with lps := v.lps.dropLast ++ [((v.lps.getLastD (0, 0)).1, (v.lps.getLastD (0, 0)).2 - 1)], pl := (v.lps.getLastD (0, 0)).1 } : V) else { v.ahead with lps := v.lps.dropLast }) = _
          rw [hlps]; simp
        have e0 : ∀ m, ub m L v.pl + rem m L (t :: u1) (x :: q) = 1 + (x.2.toNat - 1) * (ub m L (t + 1) + 1) + ub m L (v.pl + 1) + rem m L u1 q := fun m => by
          rw [ub_stop m (Or.inl e), rem, if_pos ht, hnb]
          simp only [List.headD_cons, List.tail_cons]; omega
        rw [hst, hd]
        by_cases h0 : 0 < x.2 - 1
        · rw [if_pos h0]
          have hsk : sk L (t + 1) = t :: sk L t := sk_opn' (by unfold opn; rw [ht]; rfl)
          refine ⟨t :: u1, by show sk L x.1 = _; rw [m1, hsk, ← sk_head hts, hs1]; rfl, fun _ z hz => hz, fun m => stl_eq ?_⟩
          rw [e0 m]
          show _ = ub m L x.1 + rem m L (t :: u1) (q.reverse ++ [(x.1, x.2 - 1)]).reverse + 1
          simp only [List.reverse_append, List.reverse_cons, List.reverse_nil, List.nil_append, List.singleton_append, List.reverse_reverse]
          rw [rem, if_pos ht, hnb, m1]
          simp only [List.headD_cons, List.tail_cons]
          obtain ⟨K, hK⟩ : ∃ K, x.2.toNat = K + 2 := ⟨x.2.toNat - 2, by omega⟩
          rw [show (x.2 - 1).toNat - 1 = K by omega, show x.2.toNat - 1 = K + 1 by omega, Nat.add_mul, Nat.one_mul]
          omega
        · rw [if_neg h0]
          have hsk : sk L (v.pl + 1) = s := by rw [sk_cls (by unfold cls; rw [e]; rfl), hts]; rfl
          refine ⟨u1, by show sk L (v.pl + 1) = _; rw [hsk, hs1], fun _ z hz => List.mem_cons_of_mem _ hz, fun m => stl_eq ?_⟩
          rw [e0 m]
          show _ = ub m L (v.pl + 1) + rem m L u1 q.reverse.reverse + 1
          rw [List.reverse_reverse, show x.2.toNat - 1 = 0 by omega, Nat.zero_mul]
          omega
  · have hd : (deed (at_ L v.pl) v.ahead M).1.pl = v.pl + 1 ∧ (deed (at_ L v.pl) v.ahead M).1.lps = v.lps := by
      rcases hx : at_ L v.pl with ⟨o, a, c⟩
      rw [hx] at e; simp only at e; subst e; exact ⟨rfl, rfl⟩
    have hsk : sk L (v.pl + 1) = v.pl :: sk L v.pl := sk_opn' (by unfold opn; rw [e]; rfl)
    rw [hst, hd.1, hd.2]
    refine ⟨v.pl :: u, by rw [hsk, hs]; rfl, fun hop => (by unfold opn at hop; rw [e] at hop; cases hop), fun m => stl_eq ?_⟩
    rw [ub_lock m e, rem, if_neg (by omega)]; omega
  · obtain ⟨t, s, hts, hc⟩ := w.close h.pl (by unfold cls; rw [e]; rfl)
    obtain ⟨ht, hta⟩ := clo_unlock hc e
    have htp : t < v.pl := sk_lt (l := L) (by rw [hts]; simp)
    have hnb : nb L t = v.pl + 1 := by
      obtain ⟨u, hu1, _, _, hu4, _⟩ := mt_cls (l := L) (k := L.length) w.sound.1 h.pl (by unfold cls; rw [e]; rfl)
      rw [hts] at hu1
      simp only [List.cons.injEq] at hu1
      exact nb_of (by rw [hu1.1]; exact hu4) htp
    have hd : (deed (at_ L v.pl) v.ahead M).1.pl = v.pl + 1 ∧ (deed (at_ L v.pl) v.ahead M).1.lps = v.lps := by
      rcases hx : at_ L v.pl with ⟨o, a, c⟩
      rw [hx] at e; simp only at e; subst e; exact ⟨rfl, rfl⟩
    have hsk : sk L (v.pl + 1) = s := by rw [sk_cls (by unfold cls; rw [e]; rfl), hts]; rfl
    cases u with
    | nil => have := hu rfl; unfold cls at this; rw [e] at this; cases this
    | cons t' u1 =>
      rw [hts] at hs
      simp only [List.cons_append, List.cons.injEq] at hs
      obtain ⟨rfl, hs1⟩ := hs
      rw [hst, hd.1, hd.2]
      refine ⟨u1, by rw [hsk, hs1], fun _ z hz => List.mem_cons_of_mem _ hz, fun m => stl_eq ?_⟩
      rw [ub_stop m (Or.inr (Or.inl e)), rem, if_neg (by omega), hnb]; omega

/-- Where a Lock stands, its section is told. -/
theorem sec_mem {L : List (Int × Int × Int)} {t : Nat} (h : (at_ L t).1 = 23) : ∀ k, t < k → ((at_ L t).2.1, ((cut (ub true L (t + 1)) + 1 : Nat) : Int)) ∈ sec L k
  | 0, hk => absurd hk (by omega)
  | k + 1, hk => by
    rw [sec_succ]
    by_cases e : t = k
    · subst e; rw [if_pos h]; simp
    · have := sec_mem h k (by omega)
      split
      · exact List.mem_append_left _ this
      · exact this

/-- A run on its way: k steps are done; S tells when blocks were locked; B and W are the fewest and the most steps. -/
structure Way (L : List (Int × Int × Int)) (B W k : Nat) (v : V) (S : List Int) : Prop where
  st : v.stp = (k : Int)
  hi : v.goes = true → k + (ub true L v.pl + rem true L (sk L v.pl) v.lps.reverse) ≤ W
  lo : v.goes = true → B ≤ k + (ub false L v.pl + rem false L (sk L v.pl) v.lps.reverse)
  fin : v.goes = false → B ≤ k ∧ k ≤ W
  len : S.length = 8
  s0 : ∀ j, 0 ≤ S.getD j 0 ∧ S.getD j 0 ≤ (k : Int)
  lk : v.goes = true → ∀ u t s, sk L v.pl = u ++ t :: s → (at_ L t).1 = 23 → (k : Int) + ((ub true L v.pl + rem true L u v.lps.reverse : Nat) : Int) ≤ S.getD (at_ L t).2.1.toNat 0 + ((ub true L (t + 1) + 1 : Nat) : Int)
theorem Way.begun (L : List (Int × Int × Int)) (ret inp : List Int) : Way L (ub false L 0 + 1) (ub true L 0 + 1) 0 (begun ret inp) (List.replicate 8 0) where
  st := rfl
  hi _ := by show 0 + (ub true L 0 + 1) ≤ _; omega
  lo _ := by show _ ≤ 0 + (ub false L 0 + 1); omega
  fin h := by cases h
  len := rfl
  s0 j := by
    have : (List.replicate 8 (0 : Int)).getD j 0 = 0 := by
      rw [List.getD_eq_getElem?_getD, List.getElem?_replicate]; split <;> rfl
    rw [this]; omega
  lk _ u t s h _ := by
    have h0 : sk L (Go.Proofs.YthncbnalnfbpnaaGreatDoor.begun ret inp).pl = [] := rfl
    rw [h0] at h
    cases u <;> simp at h
theorem Way.le {L : List (Int × Int × Int)} {B W k : Nat} {v : V} {S : List Int} (h : Way L B W k v S) : k ≤ W := by
  cases e : v.goes
  · exact (h.fin e).2
  · have := h.hi e; omega
/-- A step that is the End. -/
theorem Way.ended {L : List (Int × Int × Int)} {B W k : Nat} {v : V} {S : List Int} (h : Way L B W k v S) (a : Agr L v) (w : Takes L) (M : List Int) (hW : W ≤ 20000) (ho : (at_ L v.pl).1 = 25) : Way L B W (k + 1) (stp L v M).1 S := by
  have hk := h.le
  obtain ⟨e1, _, e3⟩ := w.end_ a ho M
  have h1 := h.hi a.goes
  have h2 := h.lo a.goes
  rw [e3, ub_stop true (Or.inr (Or.inr ho)), rem] at h1
  rw [e3, ub_stop false (Or.inr (Or.inr ho)), rem] at h2
  refine ⟨by rw [stp_stp, h.st, IntKind.wrap_i64]; omega, fun hg => ?_, fun hg => ?_, fun _ => ⟨by omega, by omega⟩, h.len, fun j => by have := h.s0 j; omega, fun hg => ?_⟩
  all_goals rw [e1] at hg; cases hg
/-- Other steps but Lock and Unlock, and these but for their own block. -/
theorem Way.more {L : List (Int × Int × Int)} {B W k : Nat} {v : V} {S S' : List Int} (h : Way L B W k v S) (a : Agr L v) (w : Takes L) (M : List Int) (hW : W ≤ 20000) (ho : (at_ L v.pl).1 ≠ 25)
    (hl : S'.length = 8) (hs : ∀ j, 0 ≤ S'.getD j 0 ∧ S'.getD j 0 ≤ ((k + 1 : Nat) : Int)) (hk' : ∀ t, t ∈ sk L v.pl → (at_ L t).1 = 23 → S.getD (at_ L t).2.1.toNat 0 ≤ S'.getD (at_ L t).2.1.toNat 0)
    (hp : (at_ L v.pl).1 = 23 → ((k + 1 : Nat) : Int) ≤ S'.getD (at_ L v.pl).2.1.toNat 0) : Way L B W (k + 1) (stp L v M).1 S' := by
  have hk := h.le
  have ha := inv_step a w M ho
  obtain ⟨u0, g1, g0, g2⟩ := rem_step a w M ho (sk L v.pl) [] (by simp) (fun hn => by
    cases hc : cls (at_ L v.pl)
    · rfl
    · obtain ⟨t, s, hts, _⟩ := w.close a.pl hc
      rw [hn] at hts; cases hts)
  rw [List.append_nil] at g1
  have h1 := h.hi a.goes
  have h2 := h.lo a.goes
  have t1 := g2 true
  have t2 := g2 false
  rw [← g1] at t1 t2
  unfold stl at t1 t2
  rw [if_pos rfl] at t1
  rw [if_neg (by decide)] at t2
  refine ⟨by rw [stp_stp, h.st, IntKind.wrap_i64]; omega, fun hg => by omega, fun hg => by omega, fun hg => (by rw [ha.goes] at hg; cases hg), hl, hs, fun _ u t s h3 h4 => ?_⟩
  by_cases htm : t ∈ sk L v.pl
  · -- it was open
    obtain ⟨x, hx⟩ := sk_mem htm
    have hh := h.lk a.goes x t (sk L t) hx h4
    have hs2 := hk' t htm h4
    have hnc : x = [] → cls (at_ L v.pl) = false := fun hn => by
      cases hc : cls (at_ L v.pl)
      · rfl
      · have hsk : sk L (stp L v M).1.pl = sk L t := by
          have hst : (stp L v M).1.pl = v.pl + 1 := by
            obtain ⟨t', s', hts, hcl⟩ := w.close a.pl hc
            rw [hx, hn] at hts
            simp only [List.nil_append, List.cons.injEq] at hts
            obtain ⟨rfl, _⟩ := hts
            have h24 : (at_ L v.pl).1 = 24 := by
              have hc2 := hc
              unfold cls at hc2; simp at hc2
              rcases hc2 with hc2 | hc2
              · have := clo_next hcl hc2; omega
              · exact hc2
            show (deed (at_ L v.pl) v.ahead M).1.pl = v.pl + 1
            rcases hx2 : at_ L v.pl with ⟨o, aa, c⟩
            rw [hx2] at h24; simp only at h24; subst h24; rfl
          rw [hst, sk_cls hc, hx, hn]; rfl
        rw [hsk] at h3
        have h5 : t ∈ sk L t := by rw [h3]; simp
        exact absurd (sk_lt h5) (by omega)
    obtain ⟨u', f1, _, f2⟩ := rem_step a w M ho x (t :: sk L t) hx hnc
    have hst : s = sk L t := sk_chain h3
    rw [h3, hst] at f1
    have f1' : u = u' := List.append_cancel_right f1
    have f3 := f2 true
    rw [← f1'] at f3
    unfold stl at f3
    rw [if_pos rfl] at f3
    omega
  · -- it is the Lock that opens
    have hpl : t = v.pl ∧ (stp L v M).1.pl = v.pl + 1 ∧ u = [] := by
      cases hop : opn (at_ L v.pl)
      · exfalso
        have hin := g0 hop
        rw [← g1] at hin
        exact htm (hin t (by rw [h3]; simp))
      · have h23 : (at_ L v.pl).1 = 21 ∨ (at_ L v.pl).1 = 23 := by unfold opn at hop; simp at hop; exact hop
        have hst : (stp L v M).1.pl = v.pl + 1 := by
          show (deed (at_ L v.pl) v.ahead M).1.pl = v.pl + 1
          rcases hx : at_ L v.pl with ⟨o, aa, c⟩
          rw [hx] at h23; simp only at h23
          rcases h23 with h23 | h23 <;> subst h23 <;> rfl
        rw [hst, sk_opn' hop] at h3
        cases u with
        | nil => simp only [List.nil_append, List.cons.injEq] at h3; exact ⟨h3.1.symm, hst, rfl⟩
        | cons y u =>
          simp only [List.cons_append, List.cons.injEq] at h3
          exact absurd (by rw [h3.2]; simp) htm
    obtain ⟨rfl, p2, rfl⟩ := hpl
    rw [p2, rem]
    have := hp h4
    omega
/-- A step that locks nothing. -/
theorem Way.next {L : List (Int × Int × Int)} {B W k : Nat} {v : V} {S : List Int} (h : Way L B W k v S) (a : Agr L v) (w : Takes L) (M : List Int) (hW : W ≤ 20000) (ho : (at_ L v.pl).1 ≠ 23) : Way L B W (k + 1) (stp L v M).1 S := by
  by_cases e : (at_ L v.pl).1 = 25
  · exact h.ended a w M hW e
  · exact h.more a w M hW e h.len (fun j => by have := h.s0 j; omega) (fun _ _ _ => Int.le_refl _) (fun e => absurd e ho)
/-- A Lock. -/
theorem Way.lock {L : List (Int × Int × Int)} {B W k : Nat} {v : V} {S : List Int} (h : Way L B W k v S) (a : Agr L v) (w : Takes L) (M : List Int) (hW : W ≤ 20000) (ho : (at_ L v.pl).1 = 23) : Way L B W (k + 1) (stp L v M).1 (S.set (at_ L v.pl).2.1.toNat ((k + 1 : Nat) : Int)) := by
  have hA := right_lock (w.right a.pl) (Or.inl ho)
  have hat : ∀ j, (S.set (at_ L v.pl).2.1.toNat ((k + 1 : Nat) : Int)).getD j 0 = if (at_ L v.pl).2.1.toNat = j then ((k + 1 : Nat) : Int) else S.getD j 0 := fun j => by
    rw [List.getD_eq_getElem?_getD, List.getElem?_set]
    by_cases e : (at_ L v.pl).2.1.toNat = j
    · rw [if_pos e, if_pos e, if_pos (by rw [h.len]; omega)]; rfl
    · rw [if_neg e, if_neg e, List.getD_eq_getElem?_getD]
  refine h.more a w M hW (by omega) (by rw [List.length_set]; exact h.len) (fun j => ?_) (fun t _ _ => ?_) (fun _ => ?_)
  · rw [hat j]
    have := h.s0 j
    split <;> omega
  · rw [hat]
    have := h.s0 (at_ L t).2.1.toNat
    split <;> omega
  · rw [hat, if_pos rfl]; omega
/-- At an Unlock the block was locked no longer than its section's. -/
theorem Way.freed {L : List (Int × Int × Int)} {B W k : Nat} {v : V} {S : List Int} (h : Way L B W k v S) (a : Agr L v) (w : Takes L) (hW : W ≤ 20000) (ho : (at_ L v.pl).1 = 24) (hc : cE true L = 0) :
    ∃ j, j < (sA L).length ∧ ((sA L).getD j (0, 0)).1 = (at_ L v.pl).2.1 ∧ ((k + 1 : Nat) : Int) - S.getD (at_ L v.pl).2.1.toNat 0 ≤ ((sA L).getD j (0, 0)).2 := by
  obtain ⟨t, s, hts, hcl⟩ := w.close a.pl (by unfold cls; rw [ho]; rfl)
  obtain ⟨ht, hta⟩ := clo_unlock hcl ho
  have hl := h.lk a.goes [] t s hts ht
  rw [ub_stop true (Or.inr (Or.inl ho)), rem, hta] at hl
  have hk := h.le
  have h0 := h.s0 (at_ L v.pl).2.1.toNat
  have htp : t < v.pl := sk_lt (l := L) (by rw [hts]; simp)
  have hm := sec_mem ht L.length (by have := a.pl; omega)
  have hS : sA L = sec L L.length := by unfold sA; rw [if_pos hc]
  rw [← hS] at hm
  obtain ⟨j, hj, e⟩ := List.getElem_of_mem hm
  have hd : (sA L).getD j (0, 0) = ((at_ L t).2.1, ((cut (ub true L (t + 1)) + 1 : Nat) : Int)) := by
    rw [List.getD_eq_getElem?_getD, List.getElem?_eq_getElem hj, Option.getD_some, e]
  refine ⟨j, hj, by rw [hd]; exact hta, ?_⟩
  rw [hd]
  show _ ≤ ((cut (ub true L (t + 1)) + 1 : Nat) : Int)
  unfold cut cap
  omega
/-- What is told of a step. -/
theorem told_at {L : List (Int × Int × Int)} {v : V} (h : v.goes = true) : told L v = ((evt (at_ L v.pl)).1, (evt (at_ L v.pl)).2, 0) := by unfold told; rw [if_pos h]
/-- Where the steps at most are not too many, those at least are not. -/
theorem cE_both {L : List (Int × Int × Int)} (h : cE true L = 0) : cE false L = 0 := by
  obtain ⟨h1, h2⟩ := cE_zero h
  have := ub_le L 0
  exact cE_of h1 (by omega)
theorem cE_bad {m : Bool} {L : List (Int × Int × Int)} (h : rE L ≠ 0) : cE m L = rE L := by rw [cE_eq, if_neg h]
end Go.Proofs.YthncbnalnfbpnaaGreatDoor
