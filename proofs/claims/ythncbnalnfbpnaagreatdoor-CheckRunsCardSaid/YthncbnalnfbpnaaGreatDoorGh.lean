/- What is proved here: the state of a machine that runs agrees with what is told of its place: the stack's kinds, the open loops, the held blocks; each step keeps it so. Conditions: New takes the row. each step keeps the state so that it agrees with what is told of its place. Conditions: New takes the row. runs, step by step; each state of a run agrees with its place, or the run has ended. Conditions: New takes the row. a run ends: behind no more steps than the instructions, each as often as the rounds of all loops that it stands in. Conditions: New takes the row. each step leaves fewer steps to go; so a run ends. Conditions: New takes the row. -/
import Derived.Test.YthncbnalnfbpnaaGreatDoorGg
import Derived.Test.YthncbnalnfbpnaaGreatDoorGt
import Derived.Test.YthncbnalnfbpnaaGreatDoorGa
section
namespace Go.Proofs.YthncbnalnfbpnaaGreatDoor

/-- The loops among regions; open loops that match them, the innermost first. -/
def lo (L : List (Int × Int × Int)) (s : List Nat) : List Nat := s.filter fun t => (at_ L t).1 == 21
def Lm (L : List (Int × Int × Int)) : List Nat → List (Nat × Int) → Prop
  | [], [] => True
  | t :: r, x :: q => x.1 = t + 1 ∧ 1 ≤ x.2 ∧ x.2 ≤ (at_ L t).2.1 ∧ Lm L r q
  | _, _ => False
theorem Lm.len {L : List (Int × Int × Int)} : ∀ {s : List Nat} {q : List (Nat × Int)}, Lm L s q → q.length = s.length
  | [], [], _ => rfl
  | _ :: _, _ :: _, h => by simp only [List.length_cons]; rw [Lm.len h.2.2.2]
  | [], _ :: _, h => h.elim
  | _ :: _, [], h => h.elim
/-- New takes the row. -/
structure Takes (L : List (Int × Int × Int)) : Prop where
  l : lE L = 0
  t : tE L = 0
structure Agr (L : List (Int × Int × Int)) (v : V) : Prop where
  goes : v.goes = true
  pl : v.pl < L.length
  typ : Typed (sf L v.pl) v.stk
  lps : Lm L (lo L (sk L v.pl)) v.lps.reverse
  held : v.held = ((hb L (sk L v.pl) : Nat) : Int)
section
variable {L : List (Int × Int × Int)} (w : Takes L)
include w
theorem Takes.whole : wE L = 0 := (lE_zero w.l).1
theorem Takes.can : can L = true := (mE_zero (wE_zero w.whole).1).1
theorem Takes.sound : Sound L := (mE_zero (wE_zero w.whole).1).2
theorem Takes.ends : ends L = true := (wE_zero w.whole).2.1
theorem Takes.jmps : jmps L = true := (wE_zero w.whole).2.2
theorem Takes.bds : bds L L.length = false := (lE_zero w.l).2
theorem Takes.er {p : Nat} (h : p < L.length) : er L p = 0 := (tE_zero w.t).2 p h
theorem Takes.bE {p : Nat} (h : p < L.length) : bE (at_ L p).1 (at_ L p).2.1 (sf L p) = 0 := (er_zero (w.er h)).2.2.2
theorem Takes.right {p : Nat} (h : p < L.length) : right (at_ L p) = true := can_right w.can h
theorem Takes.more {p : Nat} (h : p < L.length) (ho : (at_ L p).1 ≠ 25) : p + 1 < L.length := by
  have := (ends_iff.1 w.ends p h)
  have h2 : ¬ (p + 1 = L.length) := fun e => ho (this.2 e)
  omega
theorem Takes.close {p : Nat} (h : p < L.length) (ho : cls (at_ L p) = true) : ∃ t s, sk L p = t :: s ∧ clo (at_ L t) (at_ L p) = true := by
  have := w.sound.1 p h
  unfold gd at this
  rw [ho] at this
  cases hs : sk L p with
  | nil => rw [hs] at this; simp at this
  | cons t s => rw [hs] at this; exact ⟨t, s, rfl, by simpa using this⟩
end
theorem sk_len' {L : List (Int × Int × Int)} : ∀ {k : Nat}, (sk L k).length ≤ k
  | 0 => by simp [sk]
  | k + 1 => by
    have ih := sk_len' (L := L) (k := k)
    cases ho : opn (at_ L k)
    · cases hc : cls (at_ L k)
      · rw [sk_oth ho hc]; omega
      · rw [sk_cls hc, List.length_tail]; omega
    · rw [sk_opn' ho, List.length_cons]; omega
theorem lo_len (L : List (Int × Int × Int)) (s : List Nat) : (lo L s).length ≤ s.length := List.length_filter_le _ _
theorem lo_cons {L : List (Int × Int × Int)} {t : Nat} {s : List Nat} : lo L (t :: s) = if (at_ L t).1 = 21 then t :: lo L s else lo L s := by
  unfold lo
  rw [List.filter_cons]
  by_cases h : (at_ L t).1 = 21
  · rw [if_pos (by simpa using h), if_pos h]
  · rw [if_neg (by simpa using h), if_neg h]
theorem clo_next {a b : Int × Int × Int} (h : clo a b = true) (hb : b.1 = 22) : a.1 = 21 := by
  unfold clo at h; rw [hb] at h; simpa using h
theorem clo_unlock {a b : Int × Int × Int} (h : clo a b = true) (hb : b.1 = 24) : a.1 = 23 ∧ a.2.1 = b.2.1 := by
  unfold clo at h; rw [hb] at h; simpa using h
theorem snoc_rev {α : Type} {l q : List α} {x : α} (h : l.reverse = x :: q) : l = q.reverse ++ [x] := by
  have := congrArg List.reverse h; simpa using this
/-- A state that agrees can step. -/
theorem Agr.can {L : List (Int × Int × Int)} {v : V} (h : Agr L v) (w : Takes L) : Can L v where
  goes := h.goes
  pl := h.pl
  len := (can_len w.can).2
  right := w.right h.pl
  pre := by
    have h16 := sf_len w.t h.pl
    have hl := h.typ.1
    have hll := h.lps.len
    have h1 := lo_len L (sk L v.pl)
    have h2 := sk_len' (L := L) (k := v.pl)
    have h3 := (can_len w.can).2
    have h4 := h.pl
    rw [List.length_reverse] at hll
    refine ⟨by show v.stk.length ≤ 900; omega, by show v.lps.length ≤ 900; omega, by show v.pl + 1 ≤ 1000; omega, ?_, fun ho => ?_⟩
    · show _ ≤ v.stk.length
      rw [hl]; exact (bE_zero (w.bE h.pl)).1
    · obtain ⟨t, s, hs, hc⟩ := w.close h.pl (by unfold cls; rw [ho]; rfl)
      have ht := clo_next hc ho
      have hm := h.lps
      rw [hs, lo_cons, if_pos ht] at hm
      have hr := w.right (p := t) (by have := sk_lt (l := L) (k := v.pl) (t := t) (by rw [hs]; simp); omega)
      have hA := (right_parts hr).2.1
      rw [ht] at hA
      have hA2 : 1 ≤ (at_ L t).2.1 ∧ (at_ L t).2.1 ≤ 1000 := of_decide_eq_true hA
      cases hq : v.lps.reverse with
      | nil => rw [hq] at hm; exact hm.elim
      | cons x q =>
        rw [hq] at hm
        exact ⟨q.reverse, x.1, x.2, snoc_rev hq, hm.2.1, by have := hm.2.2.1; omega⟩
theorem deed_plain (i : Int × Int × Int) (v : V) (M : List Int) (ho : i.1 < 19 ∧ 1 ≤ i.1) : (deed i v M).1.pl = v.pl ∧ (deed i v M).1.lps = v.lps ∧ (deed i v M).1.held = v.held ∧ (deed i v M).1.goes = v.goes := by
  obtain ⟨o, a, c⟩ := i
  simp only at ho
  rcases (show o = 1 ∨ o = 2 ∨ o = 3 ∨ o = 4 ∨ o = 5 ∨ o = 6 ∨ o = 7 ∨ o = 8 ∨ o = 9 ∨ o = 10 ∨ o = 11 ∨ o = 12 ∨ o = 13 ∨ o = 14 ∨ o = 15 ∨ o = 16 ∨ o = 17 ∨ o = 18 by omega) with
    rfl | rfl | rfl | rfl | rfl | rfl | rfl | rfl | rfl | rfl | rfl | rfl | rfl | rfl | rfl | rfl | rfl | rfl
  all_goals exact ⟨rfl, rfl, rfl, rfl⟩
theorem andNot_small : ∀ x : Fin 256, ∀ a : Fin 8, x.val.testBit a.val = false → bits .andNot .i64 ((x.val ||| 2 ^ a.val : Nat) : Int) ((2 ^ a.val : Nat) : Int) = (x.val : Int) := by decide +kernel
theorem opn_not {i : Int × Int × Int} (h1 : i.1 ≠ 21) (h2 : i.1 ≠ 23) : opn i = false := by unfold opn; simp [h1, h2]
theorem cls_not {i : Int × Int × Int} (h1 : i.1 ≠ 22) (h2 : i.1 ≠ 24) : cls i = false := by unfold cls; simp [h1, h2]
end Go.Proofs.YthncbnalnfbpnaaGreatDoor
end

section
namespace Go.Proofs.YthncbnalnfbpnaaGreatDoor

theorem hb_cons (L : List (Int × Int × Int)) (t : Nat) (s : List Nat) : hb L (t :: s) = if (at_ L t).1 = 23 then hb L s ||| 2 ^ (at_ L t).2.1.toNat else hb L s := rfl
/-- A state at a place: all but that it runs. -/
theorem Agr.at_ {L : List (Int × Int × Int)} {v v' : V} (h : Agr L v) (w : Takes L) {q : Nat} (hq : q < L.length) (hn : q ∈ nx L v.pl) (hg : v'.goes = true) (hpl : v'.pl = q)
    (hs : Typed (bh (at_ L v.pl).1 (at_ L v.pl).2.1 (sf L v.pl)) v'.stk) (hl : Lm L (lo L (sk L q)) v'.lps.reverse) (hh : v'.held = ((hb L (sk L q) : Nat) : Int)) : Agr L v' := by
  subst hpl
  have := h.goes
  exact ⟨hg, hq, by rw [flow hn (w.er hq)]; exact hs, hl, hh⟩
theorem inv_step {L : List (Int × Int × Int)} {v : V} (h : Agr L v) (w : Takes L) (M : List Int) (ho : (at_ L v.pl).1 ≠ 25) : Agr L (stp L v M).1 := by
  obtain ⟨i, hi⟩ : ∃ i, i = at_ L v.pl := ⟨_, rfl⟩
  have hr := w.right h.pl
  have hk := right_kn hr
  have hmore := w.more h.pl ho
  have hty : Typed (bh (at_ L v.pl).1 (at_ L v.pl).2.1 (sf L v.pl)) (stp L v M).1.stk := by
    unfold stp
    exact deed_typed _ _ _ hk v.ahead M (sf L v.pl) h.typ (w.bE h.pl)
  have hst : (stp L v M).1 = (deed (at_ L v.pl) v.ahead M).1 := rfl
  have fall : (at_ L v.pl).1 ≠ 19 → v.pl + 1 ∈ nx L v.pl := fun h19 => nx_falls h19 ho
  have hA := (right_parts hr).2.1
  rcases (show ((at_ L v.pl).1 < 19 ∧ 1 ≤ (at_ L v.pl).1) ∨ (at_ L v.pl).1 = 19 ∨ (at_ L v.pl).1 = 20 ∨ (at_ L v.pl).1 = 21 ∨ (at_ L v.pl).1 = 22 ∨ (at_ L v.pl).1 = 23 ∨ (at_ L v.pl).1 = 24 by omega) with e | e | e | e | e | e | e
  · obtain ⟨d1, d2, d3, d4⟩ := deed_plain (at_ L v.pl) v.ahead M e
    have hsk : sk L (v.pl + 1) = sk L v.pl := sk_oth (opn_not (by omega) (by omega)) (cls_not (by omega) (by omega))
    refine h.at_ w hmore (fall (by omega)) (by rw [hst, d4]; exact h.goes) (by rw [hst, d1]; rfl) hty ?_ ?_
    · rw [hst, d2, hsk]; exact h.lps
    · rw [hst, d3, hsk]; exact h.held
  · have hj := jmps_iff.1 w.jmps v.pl h.pl (by unfold jmp; rw [e]; rfl)
    have hsk : sk L (led L v.pl) = sk L v.pl := sk_hm hj.2
    have hd : (deed (at_ L v.pl) v.ahead M).1 = { v.ahead with pl := led L v.pl } := by
      rcases hx : at_ L v.pl with ⟨o, a, c⟩
      rw [hx] at e; simp only at e; subst e
      unfold led; rw [hx]; rfl
    refine h.at_ w hj.1 (nx_leads (Or.inl e)) (by rw [hst, hd]; exact h.goes) (by rw [hst, hd]) hty ?_ ?_
    · rw [hst, hd, hsk]; exact h.lps
    · rw [hst, hd, hsk]; exact h.held
  · have hj := jmps_iff.1 w.jmps v.pl h.pl (by unfold jmp; rw [e]; rfl)
    have hd : (deed (at_ L v.pl) v.ahead M).1 = { v.ahead.pop with pl := if v.ahead.top = 0 then led L v.pl else v.pl + 1 } := by
      rcases hx : at_ L v.pl with ⟨o, a, c⟩
      rw [hx] at e; simp only at e; subst e
      unfold led; rw [hx]; rfl
    by_cases h0 : v.ahead.top = 0
    · rw [if_pos h0] at hd
      have hsk : sk L (led L v.pl) = sk L v.pl := sk_hm hj.2
      refine h.at_ w hj.1 (nx_leads (Or.inr e)) (by rw [hst, hd]; exact h.goes) (by rw [hst, hd]) hty ?_ ?_
      · rw [hst, hd, hsk]; exact h.lps
      · rw [hst, hd, hsk]; exact h.held
    · rw [if_neg h0] at hd
      have hsk : sk L (v.pl + 1) = sk L v.pl := sk_oth (opn_not (by omega) (by omega)) (cls_not (by omega) (by omega))
      refine h.at_ w hmore (fall (by omega)) (by rw [hst, hd]; exact h.goes) (by rw [hst, hd]) hty ?_ ?_
      · rw [hst, hd, hsk]; exact h.lps
      · rw [hst, hd, hsk]; exact h.held
  · have hsk : sk L (v.pl + 1) = v.pl :: sk L v.pl := sk_opn' (by unfold opn; rw [e]; rfl)
    have hd : (deed (at_ L v.pl) v.ahead M).1 = { v.ahead with lps := v.lps ++ [(v.pl + 1, (at_ L v.pl).2.1)] } := by
      rcases hx : at_ L v.pl with ⟨o, a, c⟩
      rw [hx] at e; simp only at e; subst e; rfl
    rw [e] at hA
    have hA2 : 1 ≤ (at_ L v.pl).2.1 ∧ (at_ L v.pl).2.1 ≤ 1000 := of_decide_eq_true hA
    refine h.at_ w hmore (fall (by omega)) (by rw [hst, hd]; exact h.goes) (by rw [hst, hd]; rfl) hty ?_ ?_
    · rw [hst, hd, hsk, lo_cons, if_pos e]
      simp only [List.reverse_append, List.reverse_cons, List.reverse_nil, List.nil_append, List.singleton_append]
      exact ⟨rfl, hA2.1, Int.le_refl _, h.lps⟩
    · rw [hst, hd, hsk]
      show v.held = _
      rw [h.held, hb_cons, if_neg (by omega)]
  · obtain ⟨t, s, hs, hc⟩ := w.close h.pl (by unfold cls; rw [e]; rfl)
    have ht := clo_next hc e
    have htp : t < v.pl := sk_lt (l := L) (by rw [hs]; simp)
    have hss : s = sk L t := sk_head hs
    have hm := h.lps
    rw [hs, lo_cons, if_pos ht] at hm
    cases hq : v.lps.reverse with
    | nil => rw [hq] at hm; exact hm.elim
    | cons x q =>
      rw [hq] at hm
      obtain ⟨m1, m2, m3, m4⟩ := hm
      have hlps := snoc_rev hq
      have hh : v.held = ((hb L s : Nat) : Int) := by
        have := h.held
        rw [hs] at this
        rw [hb_cons, if_neg (by omega)] at this; exact this
      have hd : (deed (at_ L v.pl) v.ahead M).1 = if 0 < x.2 - 1 then { v.ahead with lps := q.reverse ++ [(x.1, x.2 - 1)], pl := x.1 } else { v.ahead with lps := q.reverse } := by
        rcases hx : at_ L v.pl with ⟨o, a, c⟩
        rw [hx] at e; simp only at e; subst e
        show (if 0 < (v.lps.getLastD (0, 0)).2 - 1 then ({ v.ahead with lps := v.lps.dropLast ++ [((v.lps.getLastD (0, 0)).1, (v.lps.getLastD (0, 0)).2 - 1)], pl := (v.lps.getLastD (0, 0)).1 } : V) else { v.ahead with lps := v.lps.dropLast }) = _
        rw [hlps]; simp
      by_cases h0 : 0 < x.2 - 1
      · rw [if_pos h0] at hd
        have hsk : sk L (t + 1) = t :: sk L t := sk_opn' (by unfold opn; rw [ht]; rfl)
        have htl : t + 1 < L.length := by have := h.pl; omega
        -- the stack behind the Loop is the stack here
        have hsame : sf L (t + 1) = sf L v.pl := by
          have f1 := flow (L := L) (p := t) (q := t + 1) (nx_falls (by omega) (by omega)) (w.er htl)
          have hmt : mt L L.length v.pl = t := by
            obtain ⟨u, hu1, _, hu3, _⟩ := mt_cls (l := L) (k := L.length) w.sound.1 h.pl (by unfold cls; rw [e]; rfl)
            rw [hs] at hu1
            simp only [List.cons.injEq] at hu1
            rw [hu3, hu1.1]
          have f2 := (er_zero (w.er h.pl)).2.2.1 e
          rw [hmt] at f2
          rw [f1, f2, ht]
          unfold bh
          simp [tk, gv]
        refine ⟨by rw [hst, hd]; exact h.goes, by rw [hst, hd]; show x.1 < _; omega, ?_, ?_, ?_⟩
        · rw [hst, hd]
          show Typed (sf L x.1) v.stk
          rw [m1, hsame]; exact h.typ
        · rw [hst, hd]
          show Lm L (lo L (sk L x.1)) (q.reverse ++ [(x.1, x.2 - 1)]).reverse
          rw [m1, hsk, lo_cons, if_pos ht, ← hss]
          simp only [List.reverse_append, List.reverse_cons, List.reverse_nil, List.nil_append, List.singleton_append, List.reverse_reverse]
          exact ⟨rfl, by show 1 ≤ x.2 - 1; omega, by show x.2 - 1 ≤ _; omega, m4⟩
        · rw [hst, hd]
          show v.held = ((hb L (sk L x.1) : Nat) : Int)
          rw [m1, hsk, ← hss, hh, hb_cons, if_neg (by omega)]
      · rw [if_neg h0] at hd
        have hsk : sk L (v.pl + 1) = s := by rw [sk_cls (by unfold cls; rw [e]; rfl), hs]; rfl
        refine h.at_ w hmore (fall (by omega)) (by rw [hst, hd]; exact h.goes) (by rw [hst, hd]; rfl) hty ?_ ?_
        · rw [hst, hd, hsk]
          show Lm L (lo L s) q.reverse.reverse
          rw [List.reverse_reverse]; exact m4
        · rw [hst, hd, hsk]; exact hh
  · have hsk : sk L (v.pl + 1) = v.pl :: sk L v.pl := sk_opn' (by unfold opn; rw [e]; rfl)
    have hA2 := right_lock hr (Or.inl e)
    have hd : (deed (at_ L v.pl) v.ahead M).1 = { v.ahead with held := bits .or .i64 v.held ((2 ^ (at_ L v.pl).2.1.toNat : Nat) : Int) } := by
      rcases hx : at_ L v.pl with ⟨o, a, c⟩
      rw [hx] at e; simp only at e; subst e; rfl
    refine h.at_ w hmore (fall (by omega)) (by rw [hst, hd]; exact h.goes) (by rw [hst, hd]; rfl) hty ?_ ?_
    · rw [hst, hd, hsk, lo_cons, if_neg (by omega)]; exact h.lps
    · rw [hst, hd, hsk]
      show bits .or .i64 v.held _ = _
      rw [h.held, i64_or_small _ _ (hb_lt (can_blk w.can) _) (pow8 (by omega))]
      rw [hb_cons, if_pos e]
  · obtain ⟨t, s, hs, hc⟩ := w.close h.pl (by unfold cls; rw [e]; rfl)
    obtain ⟨ht, hta⟩ := clo_unlock hc e
    have htp : t < v.pl := sk_lt (l := L) (by rw [hs]; simp)
    have htl : t < L.length := by have := h.pl; omega
    have hss : s = sk L t := sk_head hs
    have hsk : sk L (v.pl + 1) = s := by rw [sk_cls (by unfold cls; rw [e]; rfl), hs]; rfl
    have hA2 := right_lock hr (Or.inr (Or.inl e))
    have hd : (deed (at_ L v.pl) v.ahead M).1 = { v.ahead with held := bits .andNot .i64 v.held ((2 ^ (at_ L v.pl).2.1.toNat : Nat) : Int) } := by
      rcases hx : at_ L v.pl with ⟨o, a, c⟩
      rw [hx] at e; simp only at e; subst e; rfl
    refine h.at_ w hmore (fall (by omega)) (by rw [hst, hd]; exact h.goes) (by rw [hst, hd]; rfl) hty ?_ ?_
    · rw [hst, hd, hsk]
      have := h.lps
      rw [hs, lo_cons, if_neg (by omega)] at this; exact this
    · rw [hst, hd, hsk]
      show bits .andNot .i64 v.held _ = _
      have hbt : (hb L s).testBit (at_ L v.pl).2.1.toNat = false := by
        rw [hb_test, hss]
        have hbad : bd L t = false := by
          cases hbd : bd L t
          · rfl
          · have := bds_bad htl hbd; rw [w.bds] at this; cases this
        rw [bd_lock ht] at hbad
        simp only [Bool.or_eq_false_iff] at hbad
        have hov := hbad.2.1
        unfold ovr at hov
        rw [List.any_eq_false] at hov ⊢
        intro u hu hx
        simp only [Bool.and_eq_true, beq_iff_eq] at hx
        refine hov u hu ?_
        simp only [Bool.and_eq_true, beq_iff_eq, decide_eq_true_eq]
        refine ⟨hx.1, ?_⟩
        have h8 := can_blk w.can u hx.1
        have h82 := can_blk w.can t ht
        omega
      have hv : v.held = ((hb L s ||| 2 ^ (at_ L v.pl).2.1.toNat : Nat) : Int) := by
        have := h.held
        rw [hs] at this
        rw [hb_cons, if_pos ht, hta] at this; exact this
      rw [hv]
      exact andNot_small ⟨hb L s, hb_lt (can_blk w.can) _⟩ ⟨(at_ L v.pl).2.1.toNat, by omega⟩ hbt
end Go.Proofs.YthncbnalnfbpnaaGreatDoor
end

section
namespace Go.Proofs.YthncbnalnfbpnaaGreatDoor
open Go.RowKit Go.Maps

/-- A step, if it runs. -/
def nxt (L : List (Int × Int × Int)) (x : V × List Int) : V × List Int := if x.1.goes = true then stp L x.1 x.2 else x
/-- Many steps. -/
def it (L : List (Int × Int × Int)) : Nat → V × List Int → V × List Int
  | 0, x => x
  | k + 1, x => nxt L (it L k x)
/-- What is told at a step. -/
def told (L : List (Int × Int × Int)) (v : V) : Int × Int × Int := if v.goes = true then ((evt (at_ L v.pl)).1, (evt (at_ L v.pl)).2, 0) else (0, 0, 16)
def toldV (t : Int × Int × Int) : Value := .tuple #[.agg #[.int .i64 t.1, .int .i64 t.2.1], .int .i64 t.2.2]
/-- It agrees, or has ended. -/
def Fine (L : List (Int × Int × Int)) (v : V) : Prop := Agr L v ∨ (v.goes = false ∧ v.held = 0 ∧ v.stk.length ≤ 16 ∧ v.lps.length = 0)
theorem Takes.end_ {L : List (Int × Int × Int)} (w : Takes L) {v : V} (h : Agr L v) (he : (at_ L v.pl).1 = 25) (M : List Int) :
    stp L v M = ({ v.ahead with goes := false }, M) ∧ v.pl + 1 = L.length ∧ sk L v.pl = [] := by
  have h1 := (ends_iff.1 w.ends v.pl h.pl).1 he
  refine ⟨?_, h1, ?_⟩
  · show deed (at_ L v.pl) v.ahead M = _
    rcases hx : at_ L v.pl with ⟨o, a, c⟩
    rw [hx] at he; simp only at he; subst he; rfl
  · have := held_end w.sound w.ends (can_len w.can).1
    rw [show L.length - 1 = v.pl by omega] at this; exact this
theorem Fine.next {L : List (Int × Int × Int)} {x : V × List Int} (h : Fine L x.1) (w : Takes L) : Fine L (nxt L x).1 := by
  unfold nxt
  rcases h with h | h
  · rw [if_pos h.goes]
    by_cases he : (at_ L x.1.pl).1 = 25
    · obtain ⟨e1, e2, e3⟩ := w.end_ h he x.2
      rw [e1]
      refine Or.inr ⟨rfl, ?_, ?_, ?_⟩
      · show x.1.held = 0
        rw [h.held, e3]; rfl
      · show x.1.stk.length ≤ 16
        rw [h.typ.1]; exact sf_len w.t h.pl
      · show x.1.lps.length = 0
        have := h.lps.len
        rw [e3] at this
        simpa [lo] using this
    · exact Or.inl (inv_step h w x.2 he)
  · rw [if_neg (by rw [h.1]; simp)]; exact Or.inr h
theorem Fine.it {L : List (Int × Int × Int)} {x : V × List Int} (h : Fine L x.1) (w : Takes L) : ∀ k, Fine L (it L k x).1
  | 0 => h
  | k + 1 => (Fine.it h w k).next w
theorem Fine.stk {L : List (Int × Int × Int)} {v : V} (h : Fine L v) (w : Takes L) : v.stk.length ≤ 16 := by
  rcases h with h | h
  · rw [h.typ.1]; exact sf_len w.t h.pl
  · exact h.2.2.1
theorem Fine.lps {L : List (Int × Int × Int)} {v : V} (h : Fine L v) (w : Takes L) : v.lps.length ≤ 200 := by
  rcases h with h | h
  · have h1 := lo_len L (sk L v.pl)
    have h2 := sk_len' (L := L) (k := v.pl)
    have h3 := (can_len w.can).2
    have h4 := h.pl
    have hll := h.lps.len
    rw [List.length_reverse] at hll
    omega
  · omega
/-- A run that begins agrees. -/
theorem Takes.begun {L : List (Int × Int × Int)} (w : Takes L) (ret inp : List Int) : Agr L (begun ret inp) :=
  ⟨rfl, (can_len w.can).1, Typed.nil, trivial, rfl⟩
/-- Step, whatever the state. -/
theorem stepn_any (w : World) (F : Nat → Prop) (b mb : Nat) (L : List (Int × Int × Int)) (x : V × List Int) (h : Mac w F b L x.1) (hm : MemAt w mb x.2) (hF : ¬ F mb) (hok : Fine L x.1) (ht : Takes L) :
    Calls Tryz.prog 22 #[.pointer (some ⟨b, 0, none⟩), .pointer (some ⟨mb, 0, none⟩)] w fun e w' => e = .returned (toldV (told L x.1)) ∧
      ∃ F', Mac w' F' b L (nxt L x).1 ∧ MemAt w' mb (nxt L x).2 ∧ ¬ F' mb ∧ Chg F F' mb w w' := by
  unfold nxt told
  rcases hok with hi | hi
  · rw [if_pos hi.goes, if_pos hi.goes]
    exact step_any w F b mb L x.1 x.2 h hm hF (hi.can ht)
  · rw [if_neg (by rw [hi.1]; simp), if_neg (by rw [hi.1]; simp)]
    refine (step_idle w F b L x.1 h hi.1 _).mono ?_
    rintro e w' ⟨rfl, hb⟩
    exact ⟨rfl, F, h.below hb, hm.below hb, hF, Chg.below hb⟩
theorem it_add (L : List (Int × Int × Int)) (x : V × List Int) (j : Nat) : ∀ k, it L (k + j) x = it L k (it L j x)
  | 0 => by rw [Nat.zero_add]; rfl
  | k + 1 => by rw [show k + 1 + j = (k + j) + 1 by omega]; show nxt L (it L (k + j) x) = nxt L (it L k (it L j x)); rw [it_add L x j k]
theorem it_idle {L : List (Int × Int × Int)} {x : V × List Int} (h : x.1.goes = false) : ∀ k, it L k x = x
  | 0 => rfl
  | k + 1 => by show nxt L (it L k x) = x; rw [it_idle h k]; unfold nxt; rw [if_neg (by rw [h]; simp)]
end Go.Proofs.YthncbnalnfbpnaaGreatDoor
end

section
namespace Go.Proofs.YthncbnalnfbpnaaGreatDoor

/-- The rounds of the loops from a place on, all together. -/
def prd (L : List (Int × Int × Int)) (f : Nat) : List Nat → Nat
  | [] => 1
  | u :: s => if (at_ L u).1 = 21 ∧ f ≤ u then (at_ L u).2.1.toNat * prd L f s else prd L f s
/-- The sum of it over places. -/
def sm (L : List (Int × Int × Int)) (f : Nat) : Nat → Nat → Nat
  | _, 0 => 0
  | p, n + 1 => prd L f (sk L p) + sm L f (p + 1) n
/-- The place behind the end of a loop, by the place behind its beginning. -/
def clP (L : List (Int × Int × Int)) (f : Nat) : Nat := (mt L L.length (f - 1)).toNat + 1
/-- How many steps are left at most. -/
def ph (L : List (Int × Int × Int)) : List (Nat × Int) → Nat → Nat
  | [], p => sm L 0 p (L.length - p)
  | (f, k) :: r, p => sm L f p (clP L f - p) + (k.toNat - 1) * sm L f f (clP L f - f) + ph L r (clP L f)
theorem prd_append (L : List (Int × Int × Int)) (f : Nat) (a b : List Nat) : prd L f (a ++ b) = prd L f a * prd L f b := by
  induction a with
  | nil => simp [prd]
  | cons u a ih =>
    simp only [List.cons_append, prd, ih]
    split
    · rw [Nat.mul_assoc]
    · rfl
theorem prd_one {L : List (Int × Int × Int)} {f : Nat} : ∀ {s : List Nat}, (∀ u ∈ s, (at_ L u).1 = 21 → u < f) → prd L f s = 1
  | [], _ => rfl
  | u :: s, h => by
    unfold prd
    rw [if_neg (by intro hc; have := h u (by simp) hc.1; omega)]
    exact prd_one fun x hx => h x (List.mem_cons_of_mem _ hx)
theorem prd_same {L : List (Int × Int × Int)} {f g : Nat} : ∀ {s : List Nat}, (∀ u ∈ s, f ≤ u ∧ g ≤ u) → prd L f s = prd L g s
  | [], _ => rfl
  | u :: s, h => by
    have h1 := h u (by simp)
    have ih := prd_same (L := L) (f := f) (g := g) (s := s) fun x hx => h x (List.mem_cons_of_mem _ hx)
    unfold prd
    rw [ih]
    by_cases e : (at_ L u).1 = 21
    · rw [if_pos ⟨e, h1.1⟩, if_pos ⟨e, h1.2⟩]
    · rw [if_neg (fun h => e h.1), if_neg (fun h => e h.1)]
theorem sm_split (L : List (Int × Int × Int)) (f : Nat) : ∀ (m p n : Nat), sm L f p (m + n) = sm L f p m + sm L f (p + m) n
  | 0, p, n => by rw [Nat.zero_add]; show _ = 0 + _; rw [Nat.zero_add]; rfl
  | m + 1, p, n => by
    rw [show m + 1 + n = (m + n) + 1 by omega]
    show prd L f (sk L p) + sm L f (p + 1) (m + n) = prd L f (sk L p) + sm L f (p + 1) m + sm L f (p + (m + 1)) n
    rw [sm_split L f m (p + 1) n, show p + 1 + m = p + (m + 1) by omega]; omega
theorem sm_mul {L : List (Int × Int × Int)} {f g c : Nat} : ∀ {n p : Nat}, (∀ j, p ≤ j → j < p + n → prd L f (sk L j) = c * prd L g (sk L j)) → sm L f p n = c * sm L g p n
  | 0, _, _ => rfl
  | n + 1, p, h => by
    unfold sm
    rw [h p (Nat.le_refl _) (by omega), sm_mul (n := n) (p := p + 1) fun j h1 h2 => h j (by omega) (by omega), Nat.mul_add]
theorem sm_less (L : List (Int × Int × Int)) (f : Nat) {p q e : Nat} (h : p < q) (h2 : q ≤ e) (h1 : prd L f (sk L p) = 1) : sm L f q (e - q) + 1 ≤ sm L f p (e - p) := by
  rw [show e - p = (q - p) + (e - q) by omega, sm_split, show p + (q - p) = q by omega]
  have : 1 ≤ sm L f p (q - p) := by
    rw [show q - p = (q - p - 1) + 1 by omega]
    show 1 ≤ prd L f (sk L p) + _
    omega
  omega
/-- The innermost loop's first place and the place behind its end. -/
def fst_ : List (Nat × Int) → Nat
  | [] => 0
  | x :: _ => x.1
def lst_ (L : List (Int × Int × Int)) : List (Nat × Int) → Nat
  | [] => L.length
  | x :: _ => clP L x.1
theorem ph_form (L : List (Int × Int × Int)) (c : List (Nat × Int)) : ∃ R, ∀ p, ph L c p = sm L (fst_ c) p (lst_ L c - p) + R := by
  cases c with
  | nil => exact ⟨0, fun p => rfl⟩
  | cons x r => exact ⟨(x.2.toNat - 1) * sm L x.1 x.1 (clP L x.1 - x.1) + ph L r (clP L x.1), fun p => by show sm L x.1 p (clP L x.1 - p) + _ + _ = _; unfold fst_ lst_; simp only; omega⟩
theorem lo_mem {L : List (Int × Int × Int)} {s : List Nat} {u : Nat} : u ∈ lo L s ↔ u ∈ s ∧ (at_ L u).1 = 21 := by unfold lo; simp
/-- Facts on a place with its open loops. -/
theorem place_facts {L : List (Int × Int × Int)} (w : Takes L) {p : Nat} {c : List (Nat × Int)} (hp : p < L.length) (h : Lm L (lo L (sk L p)) c) :
    prd L (fst_ c) (sk L p) = 1 ∧ p < lst_ L c ∧ fst_ c ≤ p ∧ lst_ L c ≤ L.length ∧ (∀ q, q < L.length → sk L q = sk L p → q < lst_ L c) := by
  cases c with
  | nil =>
    have hl : lo L (sk L p) = [] := by
      cases hq : lo L (sk L p) with
      | nil => rfl
      | cons t r => rw [hq] at h; exact h.elim
    refine ⟨prd_one fun u hu h21 => ?_, hp, Nat.zero_le _, Nat.le_refl _, fun q hq _ => hq⟩
    have := lo_mem.2 ⟨hu, h21⟩
    rw [hl] at this; cases this
  | cons x r =>
    cases hq : lo L (sk L p) with
    | nil => rw [hq] at h; exact h.elim
    | cons t s =>
      rw [hq] at h
      have hx : x.1 = t + 1 := h.1
      have htm : t ∈ lo L (sk L p) := by rw [hq]; simp
      obtain ⟨ht1, ht2⟩ := lo_mem.1 htm
      have htp := sk_lt ht1
      have hmt := (w.sound.opn (p := t) (by unfold opn; rw [ht2]; rfl))
      have hw : ∀ q, q < L.length → t ∈ sk L q → q < clP L (t + 1) := by
        intro q hq1 hq2
        have := (w.sound.within (k := t) (i := q) (by omega)).1 hq2
        unfold clP; rw [Nat.add_sub_cancel]; omega
      have hlast : clP L (t + 1) ≤ L.length := by
        unfold clP; rw [Nat.add_sub_cancel]
        obtain ⟨m, hm1, hm2, hm3, _⟩ := hmt
        omega
      refine ⟨?_, ?_, ?_, ?_, ?_⟩
      · show prd L x.1 (sk L p) = 1
        rw [hx]
        refine prd_one fun u hu h21 => ?_
        -- t is the first of the loops
        obtain ⟨a, ha⟩ := sk_mem ht1
        rw [ha] at hu
        rcases List.mem_append.1 hu with hu1 | hu1
        · have hlo : lo L (sk L p) = lo L a ++ lo L (t :: sk L t) := by rw [ha]; unfold lo; rw [List.filter_append]
          rw [hq] at hlo
          have hua : u ∈ lo L a := lo_mem.2 ⟨hu1, h21⟩
          cases hla : lo L a with
          | nil => rw [hla] at hua; cases hua
          | cons y z =>
            rw [hla] at hlo
            have hy : t = y := by simp at hlo; exact hlo.1
            have hy2 : y ∈ a := (lo_mem.1 (by rw [hla]; simp : y ∈ lo L a)).1
            obtain ⟨a1, a2, ha2⟩ := List.append_of_mem hy2
            rw [ha2] at ha
            have := sk_chain (l := L) (k := p) (t := y) (u := a1) (s := a2 ++ t :: sk L t) (by rw [ha]; simp)
            have h3 : t ∈ sk L y := by rw [← this]; simp
            have := sk_lt h3
            omega
        · rcases List.mem_cons.1 hu1 with rfl | hu2
          · omega
          · have := sk_lt hu2; omega
      · show p < clP L x.1
        rw [hx]; exact hw p hp ht1
      · show x.1 ≤ p
        omega
      · show clP L x.1 ≤ _
        rw [hx]; exact hlast
      · intro q hq1 hq2
        show q < clP L x.1
        rw [hx]; exact hw q hq1 (by rw [hq2]; exact ht1)
end Go.Proofs.YthncbnalnfbpnaaGreatDoor
end

section
namespace Go.Proofs.YthncbnalnfbpnaaGreatDoor

theorem ph_less {L : List (Int × Int × Int)} (w : Takes L) {p q : Nat} {c : List (Nat × Int)} (hp : p < L.length) (h : Lm L (lo L (sk L p)) c) (hpq : p < q) (hq : q < L.length) (hs : sk L q = sk L p) : ph L c q + 1 ≤ ph L c p := by
  obtain ⟨R, hR⟩ := ph_form L c
  obtain ⟨f1, f2, f3, f4, f5⟩ := place_facts w hp h
  rw [hR, hR]
  have := sm_less L (fst_ c) hpq (Nat.le_of_lt (f5 q hq hs)) f1
  omega
/-- The loop that a place opens is within the one that it stands in. -/
theorem loop_in {L : List (Int × Int × Int)} (w : Takes L) {p : Nat} {c : List (Nat × Int)} (hp : p < L.length) (h : Lm L (lo L (sk L p)) c) (ho : (at_ L p).1 = 21) :
    p + 1 ≤ clP L (p + 1) ∧ clP L (p + 1) ≤ lst_ L c ∧ ∀ j, p + 1 ≤ j → j < clP L (p + 1) → prd L (fst_ c) (sk L j) = (at_ L p).2.1.toNat * prd L (p + 1) (sk L j) := by
  obtain ⟨m, hm1, hm2, hm3, hm4, hm5, hm6⟩ := w.sound.opn (p := p) (by unfold opn; rw [ho]; rfl)
  obtain ⟨f1, f2, f3, f4, f5⟩ := place_facts w hp h
  have hcl : clP L (p + 1) = m + 1 := by unfold clP; rw [Nat.add_sub_cancel, hm1]; rfl
  rw [hcl]
  refine ⟨by omega, ?_, ?_⟩
  · cases c with
    | nil => show m + 1 ≤ L.length; omega
    | cons x r =>
      cases hq : lo L (sk L p) with
      | nil => rw [hq] at h; exact h.elim
      | cons t s =>
        rw [hq] at h
        have hx : x.1 = t + 1 := h.1
        have ht1 : t ∈ sk L p := (lo_mem.1 (by rw [hq]; simp : t ∈ lo L (sk L p))).1
        have h2 : t ∈ sk L m := by rw [hm5]; exact List.mem_cons_of_mem _ ht1
        have := (w.sound.within (k := t) (i := m) (by omega)).1 h2
        show m + 1 ≤ clP L x.1
        rw [hx]; unfold clP; rw [Nat.add_sub_cancel]; omega
  · intro j h1 h2
    have hin : p ∈ sk L j := (w.sound.within (k := p) (i := j) (by omega)).2 ⟨by omega, by rw [hm1]; omega⟩
    obtain ⟨u, hu⟩ := sk_mem hin
    have hgt : ∀ x ∈ u, p + 1 ≤ x := by
      intro x hx
      obtain ⟨a1, a2, ha⟩ := List.append_of_mem hx
      have := sk_chain (l := L) (k := j) (t := x) (u := a1) (s := a2 ++ p :: sk L p) (by rw [hu, ha]; simp)
      have h3 : p ∈ sk L x := by rw [← this]; simp
      have := sk_lt h3; omega
    rw [hu, prd_append, prd_append]
    have e1 : prd L (fst_ c) u = prd L (p + 1) u := prd_same fun x hx => ⟨by have := hgt x hx; omega, hgt x hx⟩
    have e2 : prd L (fst_ c) (p :: sk L p) = (at_ L p).2.1.toNat := by
      unfold prd; rw [if_pos ⟨ho, f3⟩, f1, Nat.mul_one]
    have e3 : prd L (p + 1) (p :: sk L p) = 1 := prd_one fun x hx _ => by
      rcases List.mem_cons.1 hx with rfl | hx
      · omega
      · have := sk_lt hx; omega
    rw [e1, e2, e3, Nat.mul_one, Nat.mul_comm]
/-- Each step leaves fewer. -/
theorem ph_step {L : List (Int × Int × Int)} {v : V} (h : Agr L v) (w : Takes L) (M : List Int) (ho : (at_ L v.pl).1 ≠ 25) : ph L (stp L v M).1.lps.reverse (stp L v M).1.pl + 1 ≤ ph L v.lps.reverse v.pl := by
  have hr := w.right h.pl
  have hk := right_kn hr
  have hmore := w.more h.pl ho
  have hst : (stp L v M).1 = (deed (at_ L v.pl) v.ahead M).1 := rfl
  have hA := (right_parts hr).2.1
  have hI := inv_step h w M ho
  rcases (show ((at_ L v.pl).1 < 19 ∧ 1 ≤ (at_ L v.pl).1) ∨ (at_ L v.pl).1 = 19 ∨ (at_ L v.pl).1 = 20 ∨ (at_ L v.pl).1 = 21 ∨ (at_ L v.pl).1 = 22 ∨ ((at_ L v.pl).1 = 23 ∨ (at_ L v.pl).1 = 24) by omega) with e | e | e | e | e | e
  · obtain ⟨d1, d2, _, _⟩ := deed_plain (at_ L v.pl) v.ahead M e
    rw [hst, d1, d2]
    exact ph_less w h.pl h.lps (by show v.pl < v.pl + 1; omega) hmore (sk_oth (opn_not (by omega) (by omega)) (cls_not (by omega) (by omega)))
  · have hj := jmps_iff.1 w.jmps v.pl h.pl (by unfold jmp; rw [e]; rfl)
    have hd : (deed (at_ L v.pl) v.ahead M).1 = { v.ahead with pl := led L v.pl } := by
      rcases hx : at_ L v.pl with ⟨o, a, c⟩
      rw [hx] at e; simp only at e; subst e
      unfold led; rw [hx]; rfl
    rw [hst, hd]
    exact ph_less w h.pl h.lps (by show v.pl < led L v.pl; unfold led; omega) hj.1 (sk_hm hj.2)
  · have hj := jmps_iff.1 w.jmps v.pl h.pl (by unfold jmp; rw [e]; rfl)
    have hd : (deed (at_ L v.pl) v.ahead M).1 = { v.ahead.pop with pl := if v.ahead.top = 0 then led L v.pl else v.pl + 1 } := by
      rcases hx : at_ L v.pl with ⟨o, a, c⟩
      rw [hx] at e; simp only at e; subst e
      unfold led; rw [hx]; rfl
    rw [hst, hd]
    show ph L v.lps.reverse (if v.ahead.top = 0 then led L v.pl else v.pl + 1) + 1 ≤ _
    by_cases h0 : v.ahead.top = 0
    · rw [if_pos h0]; exact ph_less w h.pl h.lps (by unfold led; omega) hj.1 (sk_hm hj.2)
    · rw [if_neg h0]; exact ph_less w h.pl h.lps (by omega) hmore (sk_oth (opn_not (by omega) (by omega)) (cls_not (by omega) (by omega)))
  · have hd : (deed (at_ L v.pl) v.ahead M).1 = { v.ahead with lps := v.lps ++ [(v.pl + 1, (at_ L v.pl).2.1)] } := by
      rcases hx : at_ L v.pl with ⟨o, a, c⟩
      rw [hx] at e; simp only at e; subst e; rfl
    rw [e] at hA
    have hA2 : 1 ≤ (at_ L v.pl).2.1 ∧ (at_ L v.pl).2.1 ≤ 1000 := of_decide_eq_true hA
    rw [hst, hd]
    show ph L (v.lps ++ [(v.pl + 1, (at_ L v.pl).2.1)]).reverse (v.pl + 1) + 1 ≤ _
    simp only [List.reverse_append, List.reverse_cons, List.reverse_nil, List.nil_append, List.singleton_append]
    obtain ⟨g1, g2, g3⟩ := loop_in w h.pl h.lps e
    obtain ⟨R, hR⟩ := ph_form L v.lps.reverse
    obtain ⟨f1, f2, _⟩ := place_facts w h.pl h.lps
    show sm L (v.pl + 1) (v.pl + 1) (clP L (v.pl + 1) - (v.pl + 1)) + ((at_ L v.pl).2.1.toNat - 1) * sm L (v.pl + 1) (v.pl + 1) (clP L (v.pl + 1) - (v.pl + 1)) + ph L v.lps.reverse (clP L (v.pl + 1)) + 1 ≤ ph L v.lps.reverse v.pl
    rw [hR v.pl, hR (clP L (v.pl + 1))]
    have s1 := sm_split L (fst_ v.lps.reverse) 1 v.pl (lst_ L v.lps.reverse - (v.pl + 1))
    rw [show 1 + (lst_ L v.lps.reverse - (v.pl + 1)) = lst_ L v.lps.reverse - v.pl by omega] at s1
    have s2 : sm L (fst_ v.lps.reverse) v.pl 1 = 1 := by show prd L _ (sk L v.pl) + 0 = 1; rw [f1]
    have s3 := sm_split L (fst_ v.lps.reverse) (clP L (v.pl + 1) - (v.pl + 1)) (v.pl + 1) (lst_ L v.lps.reverse - clP L (v.pl + 1))
    rw [show clP L (v.pl + 1) - (v.pl + 1) + (lst_ L v.lps.reverse - clP L (v.pl + 1)) = lst_ L v.lps.reverse - (v.pl + 1) by omega, show v.pl + 1 + (clP L (v.pl + 1) - (v.pl + 1)) = clP L (v.pl + 1) by omega] at s3
    have s4 := sm_mul (L := L) (f := fst_ v.lps.reverse) (g := v.pl + 1) (c := (at_ L v.pl).2.1.toNat) (n := clP L (v.pl + 1) - (v.pl + 1)) (p := v.pl + 1) fun j h1 h2 => g3 j h1 (by omega)
    rw [s1, s2, s3, s4]
    obtain ⟨A, hAn⟩ : ∃ A, (at_ L v.pl).2.1.toNat = A + 1 := ⟨(at_ L v.pl).2.1.toNat - 1, by omega⟩
    rw [hAn, Nat.add_sub_cancel, Nat.add_mul, Nat.one_mul]
    generalize A * sm L (v.pl + 1) (v.pl + 1) (clP L (v.pl + 1) - (v.pl + 1)) = X
    omega
  · obtain ⟨t, s, hs, hc⟩ := w.close h.pl (by unfold cls; rw [e]; rfl)
    have ht := clo_next hc e
    have hm := h.lps
    rw [hs, lo_cons, if_pos ht] at hm
    cases hq : v.lps.reverse with
    | nil => rw [hq] at hm; exact hm.elim
    | cons x q =>
      have hpf := place_facts w h.pl h.lps
      rw [hq] at hm hpf
      obtain ⟨m1, m2, m3, m4⟩ := hm
      have hlps := snoc_rev hq
      have hd : (deed (at_ L v.pl) v.ahead M).1 = if 0 < x.2 - 1 then { v.ahead with lps := q.reverse ++ [(x.1, x.2 - 1)], pl := x.1 } else { v.ahead with lps := q.reverse } := by
        rcases hx : at_ L v.pl with ⟨o, a, c⟩
        rw [hx] at e; simp only at e; subst e
        show (if 0 < (v.lps.getLastD (0, 0)).2 - 1 then ({ v.ahead with lps := v.lps.dropLast ++ [((v.lps.getLastD (0, 0)).1, (v.lps.getLastD (0, 0)).2 - 1)], pl := (v.lps.getLastD (0, 0)).1 } : V) else { v.ahead with lps := v.lps.dropLast }) = _
        rw [hlps]; simp
      have hcl : clP L x.1 = v.pl + 1 := by
        obtain ⟨u, hu1, _, _, hu4, _⟩ := mt_cls (l := L) (k := L.length) w.sound.1 h.pl (by unfold cls; rw [e]; rfl)
        rw [hs] at hu1
        simp only [List.cons.injEq] at hu1
        unfold clP
        rw [m1, Nat.add_sub_cancel, hu1.1, hu4]; rfl
      have one : sm L x.1 v.pl (clP L x.1 - v.pl) = 1 := by
        rw [hcl, show v.pl + 1 - v.pl = 1 by omega]
        show prd L x.1 (sk L v.pl) + 0 = 1
        have := hpf.1
        rw [Nat.add_zero]; exact this
      rw [hst, hd]
      by_cases h0 : 0 < x.2 - 1
      · rw [if_pos h0]
        show ph L (q.reverse ++ [(x.1, x.2 - 1)]).reverse x.1 + 1 ≤ _
        simp only [List.reverse_append, List.reverse_cons, List.reverse_nil, List.nil_append, List.singleton_append, List.reverse_reverse]
        show sm L x.1 x.1 (clP L x.1 - x.1) + ((x.2 - 1).toNat - 1) * sm L x.1 x.1 (clP L x.1 - x.1) + ph L q (clP L x.1) + 1 ≤ sm L x.1 v.pl (clP L x.1 - v.pl) + (x.2.toNat - 1) * sm L x.1 x.1 (clP L x.1 - x.1) + ph L q (clP L x.1)
        rw [one]
        obtain ⟨K, hK⟩ : ∃ K, x.2.toNat = K + 2 := ⟨x.2.toNat - 2, by omega⟩
        rw [show (x.2 - 1).toNat - 1 = K by omega, show x.2.toNat - 1 = K + 1 by omega, Nat.add_mul, Nat.one_mul]
        omega
      · rw [if_neg h0]
        show ph L q.reverse.reverse (v.pl + 1) + 1 ≤ sm L x.1 v.pl (clP L x.1 - v.pl) + (x.2.toNat - 1) * sm L x.1 x.1 (clP L x.1 - x.1) + ph L q (clP L x.1)
        rw [one, List.reverse_reverse, hcl]
        omega
  · -- Lock, Unlock
    obtain ⟨R, hR⟩ := ph_form L v.lps.reverse
    obtain ⟨f1, f2, f3, f4, f5⟩ := place_facts w h.pl h.lps
    have hd : (deed (at_ L v.pl) v.ahead M).1.pl = v.pl + 1 ∧ (deed (at_ L v.pl) v.ahead M).1.lps = v.lps := by
      rcases hx : at_ L v.pl with ⟨o, a, c⟩
      rw [hx] at e
      rcases e with e | e <;> simp only at e <;> subst e <;> exact ⟨rfl, rfl⟩
    rw [hst, hd.1, hd.2, hR v.pl, hR (v.pl + 1)]
    have := sm_less L (fst_ v.lps.reverse) (show v.pl < v.pl + 1 from Nat.lt_succ_self _) f2 f1
    omega
/-- The bound. -/
def most (L : List (Int × Int × Int)) : Nat := sm L 0 0 L.length
theorem ph_pos {L : List (Int × Int × Int)} {v : V} (h : Agr L v) (w : Takes L) : 1 ≤ ph L v.lps.reverse v.pl := by
  obtain ⟨R, hR⟩ := ph_form L v.lps.reverse
  obtain ⟨f1, f2, _⟩ := place_facts w h.pl h.lps
  rw [hR]
  have := sm_less L (fst_ v.lps.reverse) (p := v.pl) (q := lst_ L v.lps.reverse) f2 (Nat.le_refl _) f1
  omega
/-- As long as it runs there are steps to go. -/
theorem run_short {L : List (Int × Int × Int)} (w : Takes L) {x : V × List Int} (h : Agr L x.1) : ∀ k, (it L k x).1.goes = true → Agr L (it L k x).1 ∧ ph L (it L k x).1.lps.reverse (it L k x).1.pl + k ≤ ph L x.1.lps.reverse x.1.pl
  | 0, _ => ⟨h, Nat.le_refl _⟩
  | k + 1, hg => by
    have hg2 : (it L k x).1.goes = true := by
      cases hq : (it L k x).1.goes
      · have : (it L (k + 1) x).1.goes = false := by show (nxt L (it L k x)).1.goes = false; unfold nxt; rw [if_neg (by rw [hq]; simp)]; exact hq
        rw [this] at hg; cases hg
      · rfl
    obtain ⟨i1, i2⟩ := run_short w h k hg2
    have hn : it L (k + 1) x = stp L (it L k x).1 (it L k x).2 := by show nxt L (it L k x) = _; unfold nxt; rw [if_pos hg2]
    by_cases he : (at_ L (it L k x).1.pl).1 = 25
    · rw [hn, (w.end_ i1 he _).1] at hg; cases hg
    · rw [hn]
      refine ⟨inv_step i1 w _ he, ?_⟩
      have := ph_step i1 w (it L k x).2 he
      omega
theorem run_ends {L : List (Int × Int × Int)} (w : Takes L) (ret inp M : List Int) : (it L (most L) (begun ret inp, M)).1.goes = false := by
  cases hq : (it L (most L) (begun ret inp, M)).1.goes
  · rfl
  · obtain ⟨i1, i2⟩ := run_short w (x := (begun ret inp, M)) (w.begun ret inp) _ hq
    have := ph_pos i1 w
    have e : ph L (begun ret inp).lps.reverse (begun ret inp).pl = most L := rfl
    have e2 : ph L (begun ret inp, M).1.lps.reverse (begun ret inp, M).1.pl = most L := e
    omega
end Go.Proofs.YthncbnalnfbpnaaGreatDoor
end
