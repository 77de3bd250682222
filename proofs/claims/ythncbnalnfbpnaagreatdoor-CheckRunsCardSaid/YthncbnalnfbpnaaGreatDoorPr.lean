/- What is proved here: what a run of a task that can be run writes: outputs at its own ports alone, words that are there alone; it takes no more steps than the worst. Conditions: the task can be run, in an image that is right. -/
import Derived.Test.YthncbnalnfbpnaaGreatDoorCk
import Derived.Test.YthncbnalnfbpnaaGreatDoorCn
import Derived.Test.YthncbnalnfbpnaaGreatDoorPl8
import Derived.Test.YthncbnalnfbpnaaGreatDoorPl9
namespace Go.Proofs.YthncbnalnfbpnaaGreatDoor
open Go.RowKit

theorem takes_of {L : List (Int × Int × Int)} (h : cE true L = 0) : Takes L := ⟨(rE_zero (cE_zero h).1).1, (rE_zero (cE_zero h).1).2⟩
/-- As long as it runs, what is left is no more than the worst less the steps that are done. -/
theorem run_worst {L : List (Int × Int × Int)} (w : Takes L) (ret inp M : List Int) : ∀ k, (it L k (begun ret inp, M)).1.goes = true →
    Agr L (it L k (begun ret inp, M)).1 ∧ k + (ub true L (it L k (begun ret inp, M)).1.pl + rem true L (sk L (it L k (begun ret inp, M)).1.pl) (it L k (begun ret inp, M)).1.lps.reverse) ≤ ub true L 0 + 1
  | 0, _ => ⟨w.begun ret inp, by show 0 + (ub true L 0 + 1) ≤ _; omega⟩
  | k + 1, hg => by
    have hg2 : (it L k (begun ret inp, M)).1.goes = true := by
      cases hq : (it L k (begun ret inp, M)).1.goes
      · have : (it L (k + 1) (begun ret inp, M)).1.goes = false := by show (nxt L (it L k (begun ret inp, M))).1.goes = false; unfold nxt; rw [if_neg (by rw [hq]; simp)]; exact hq
        rw [this] at hg; cases hg
      · rfl
    obtain ⟨i1, i2⟩ := run_worst w ret inp M k hg2
    have hn : it L (k + 1) (begun ret inp, M) = stp L (it L k (begun ret inp, M)).1 (it L k (begun ret inp, M)).2 := by show nxt L (it L k (begun ret inp, M)) = _; unfold nxt; rw [if_pos hg2]
    by_cases he : (at_ L (it L k (begun ret inp, M)).1.pl).1 = 25
    · rw [hn, (w.end_ i1 he _).1] at hg; cases hg
    · rw [hn]
      obtain ⟨u, g1, _, g2⟩ := rem_step i1 w (it L k (begun ret inp, M)).2 he (sk L (it L k (begun ret inp, M)).1.pl) [] (by simp) (fun hs => by
        cases hc : cls (at_ L (it L k (begun ret inp, M)).1.pl)
        · rfl
        · obtain ⟨t, s, hts, _⟩ := w.close i1.pl hc
          rw [hs] at hts; cases hts)
      rw [List.append_nil] at g1
      have t1 := g2 true
      rw [← g1] at t1
      unfold stl at t1
      rw [if_pos rfl] at t1
      exact ⟨inv_step i1 w _ he, by omega⟩
theorem run_less {L : List (Int × Int × Int)} (w : Takes L) (ret inp M : List Int) (k : Nat) (h : (it L k (begun ret inp, M)).1.goes = true) : k < ub true L 0 + 1 := by
  have h1 := (run_worst w ret inp M k h).2
  have h2 := rem_pos true L (sk L (it L k (begun ret inp, M)).1.pl) (it L k (begun ret inp, M)).1.lps.reverse
  omega
/-- Steps, as long as it runs. -/
theorem nxt_stp {L : List (Int × Int × Int)} {x : V × List Int} {k : Nat} (hg : x.1.goes = true) (h : x.1.stp = (k : Int)) (hk : k ≤ 1000000) : (nxt L x).1.stp = ((k + 1 : Nat) : Int) := by
  unfold nxt
  rw [if_pos hg, stp_stp, h, IntKind.wrap_i64]; omega
theorem held_byte {L : List (Int × Int × Int)} {v : V} (w : Takes L) (h : Agr L v) : 0 ≤ v.held ∧ v.held ≤ 255 := by
  have h8 : Blk8 L := can_blk w.can
  have := hb_lt h8 (sk L v.pl)
  rw [h.held]; omega

/-- What a run has written: outputs at ports of these alone; words that are not there are as they were. -/
structure Sane (m : ImP) (ou : List Int) (x : V × List Int) : Prop where
  outs : ∀ p, (x.1.outs.getD p (false, 0)).1 = true → ou.contains (p : Int) = true
  mem : ∀ k w, k < 8 → w < 8 → ¬ (k < m.blocks.length ∧ w < (m.blocks.getD k []).length) → x.2.getD (k * 8 + w) 0 = 77
theorem Sane.begun (m : ImP) (ou ret inp : List Int) : Sane m ou (begun ret inp, List.replicate 64 77) where
  outs p h := by
    have e : (List.replicate 16 ((false, 0) : Bool × Int)).getD p (false, 0) = (false, 0) := by
      rw [List.getD_eq_getElem?_getD, List.getElem?_replicate]; split <;> rfl
    have h2 : ((List.replicate 16 ((false, 0) : Bool × Int)).getD p (false, 0)).1 = true := h
    rw [e] at h2; cases h2
  mem k w hk hw _ := by
    show (List.replicate 64 (77 : Int)).getD (k * 8 + w) 0 = 77
    rw [List.getD_eq_getElem?_getD, List.getElem?_replicate, if_pos (by omega)]; rfl
theorem deed_out (i : Int × Int × Int) (v : V) (M : List Int) (h : i.1 = 16) : (deed i v M).1.outs = v.outs.set i.2.1.toNat (true, v.top) := by
  rcases i with ⟨o, a, c⟩
  simp only at h
  subst h
  rfl
theorem Sane.next {m : ImP} {T : TkP} (hm : imE m = true) (ht : T ∈ m.tasks) (hw : wrE m T = 0) {x : V × List Int} (ha : Agr T.co x.1) (hs : Sane m T.ou x) : Sane m T.ou (nxt T.co x) := by
  obtain ⟨c1, c2, c3⟩ := wrE_zero hw
  have w := takes_of c1
  have hr := w.right ha.pl
  obtain ⟨_, hA, hB⟩ := right_parts hr
  have hby : bynE m T.ou (at_ T.co x.1.pl) = false := by
    rw [List.any_eq_false] at c3
    have := c3 (at_ T.co x.1.pl) (by unfold at_; rw [List.getD_eq_getElem?_getD, List.getElem?_eq_getElem ha.pl]; exact List.getElem_mem _)
    simpa using this
  have hn : nxt T.co x = stp T.co x.1 x.2 := by unfold nxt; rw [if_pos ha.goes]
  rw [hn]
  refine ⟨fun p hp => ?_, fun k q hk hq hnt => ?_⟩
  · by_cases h16 : (at_ T.co x.1.pl).1 = 16
    · have e : (stp T.co x.1 x.2).1.outs = x.1.outs.set (at_ T.co x.1.pl).2.1.toNat (true, x.1.top) := deed_out _ _ _ h16
      rw [e, List.getD_eq_getElem?_getD, List.getElem?_set] at hp
      by_cases ep : (at_ T.co x.1.pl).2.1.toNat = p
      · have h0 : 0 ≤ (at_ T.co x.1.pl).2.1 := (rA_small hA (by rw [h16]; decide)).1
        unfold bynE at hby
        rw [if_neg (by rw [h16]; decide), if_pos h16] at hby
        have h7 : T.ou.contains (at_ T.co x.1.pl).2.1 = true := by simpa using hby
        rw [← ep, show (((at_ T.co x.1.pl).2.1.toNat : Nat) : Int) = (at_ T.co x.1.pl).2.1 by omega]
        exact h7
      · rw [if_neg ep, ← List.getD_eq_getElem?_getD] at hp
        exact hs.outs p hp
    · rw [stp_outs _ _ _ h16] at hp
      exact hs.outs p hp
  · by_cases h18 : (at_ T.co x.1.pl).1 = 18
    · have e : (stp T.co x.1 x.2).2 = x.2.set ((at_ T.co x.1.pl).2.1.toNat * 8 + (at_ T.co x.1.pl).2.2.toNat) x.1.top := deed_put _ _ _ h18
      obtain ⟨b1, b2⟩ := block_there hm ht c1 c2 ha.pl (Or.inr h18)
      unfold bynE at hby
      rw [if_neg (by rw [h18]; decide), if_neg (by rw [h18]; decide), if_pos (Or.inr h18)] at hby
      have h7 := of_decide_eq_false hby
      have h8 : (at_ T.co x.1.pl).2.2.toNat < 8 ∧ 0 ≤ (at_ T.co x.1.pl).2.2 := by
        unfold rB at hB
        rw [if_pos (Or.inr h18)] at hB
        have := pl_iff.1 hB
        omega
      rw [e, List.getD_eq_getElem?_getD, List.getElem?_set, if_neg ?_, ← List.getD_eq_getElem?_getD]
      · exact hs.mem k q hk hq hnt
      · intro e2
        have e3 : (at_ T.co x.1.pl).2.1.toNat = k := by omega
        have e4 : (at_ T.co x.1.pl).2.2.toNat = q := by omega
        refine hnt ⟨by omega, ?_⟩
        rw [e3] at h7
        omega
    · have e : (stp T.co x.1 x.2).2 = x.2 := deed_mem _ _ _ h18
      rw [e]
      exact hs.mem k q hk hq hnt
theorem Sane.outs_mem {m : ImP} {ou : List Int} {x : V × List Int} (h : Sane m ou x) : ∀ {k : Nat} {y : Int × Int}, (outsOf x.1.outs 0)[k]? = some y → ou.contains y.1 = true := by
  have key : ∀ (l : List (Bool × Int)) (p : Nat), (∀ q, (l.getD q (false, 0)).1 = true → ou.contains ((p + q : Nat) : Int) = true) → ∀ y ∈ outsOf l p, ou.contains y.1 = true := by
    intro l
    induction l with
    | nil => intro p _ y hy; simp [outsOf] at hy
    | cons o r ih =>
      intro p hq y hy
      have hr : ∀ y ∈ outsOf r (p + 1), ou.contains y.1 = true := ih (p + 1) fun q hq2 => by
        have := hq (q + 1) (by simpa using hq2)
        rw [show p + 1 + q = p + (q + 1) by omega]; exact this
      unfold outsOf at hy
      by_cases ho : o.1 = true
      · rw [if_pos ho] at hy
        rcases List.mem_cons.1 hy with rfl | hy
        · have := hq 0 (by simpa using ho)
          simpa using this
        · exact hr y hy
      · rw [if_neg ho] at hy
        exact hr y hy
  intro k y hy
  exact key x.1.outs 0 (fun q hq => by rw [Nat.zero_add]; exact h.outs q hq) y (List.mem_of_getElem? hy)
end Go.Proofs.YthncbnalnfbpnaaGreatDoor
