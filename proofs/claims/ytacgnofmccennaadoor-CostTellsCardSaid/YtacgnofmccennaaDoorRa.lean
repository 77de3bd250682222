/- What is proved here: contracts of the document: what is wrong, Worst, Best, Straight. Conditions: the row is not too long. -/
import Derived.Test.YtacgnofmccennaaDoorWy
import Derived.Test.YtacgnofmccennaaDoorGs
import Derived.Test.YtacgnofmccennaaDoorGu
namespace Go.Proofs.YtacgnofmccennaaDoor
open Go.ChangeShapes Go.WideShapes Go.RowKit

theorem bad9R_any (a : Option Addr) (n c : Nat) (L : List (Int × Int × Int)) (w : World) (hr : RowI w a n L) (hn : n ≤ 1000000) :
    Calls Tryd.prog 29 #[.slice a n c] w fun e w' => e = .returned (.int .i64 (rE L)) ∧ Below w.heap.size w w' := by
  have cl := locksR_any a n c L w hr hn
  by_cases h1 : lE L = 0
  · have h3 : rE L = tE L := by unfold rE; rw [if_pos h1]
    rw [h3]
    rw [h1] at cl
    obtain ⟨x, hx⟩ : ∃ x, x = tE L := ⟨_, rfl⟩
    rw [← hx]
    have CS := Lib.hid (fun W (h : Below w.heap.size w W) => hx ▸ stacksR_any a n c L W (hr.below h) hn)
    have CL := Lib.hid cl
    clear cl hr h1 h3 hx
    go_enter Tryd.func29, Tryd.ntmps29
    go_wp2_with (first | (go_at_call 40; refine CL.out.mono ?_; rintro e w1 ⟨a1, n1, c1, rfl, hr1, hb1⟩) | (go_at_call 41; refine (CS.out _ (by assumption)).mono ?_; rintro e w2 ⟨a2, n2, c2, rfl, hr2, hb2⟩; have hb3 := keep_below hb1 hb2))
    go_ret
    exact ⟨rfl, hb3⟩
  · have h3 : rE L = lE L := by unfold rE; rw [if_neg h1]
    obtain ⟨x, hx⟩ : ∃ x, x = lE L := ⟨_, rfl⟩
    rw [h3, ← hx]
    rw [← hx] at h1 cl
    have CL := Lib.hid cl
    have e1 : (x != 0) = true := by simpa using h1
    have e2 : (x == 0) = false := by simpa using h1
    clear cl hr h1 h3 hx
    go_enter Tryd.func29, Tryd.ntmps29
    go_wp2_with (first | (go_at_call 40; refine CL.out.mono ?_; rintro e w1 ⟨a1, n1, c1, rfl, hr1, hb1⟩))
    go_ret
    exact ⟨rfl, hb1⟩
theorem allR_any (m : Bool) (a : Option Addr) (n c : Nat) (L : List (Int × Int × Int)) (w : World) (hr : RowI w a n L) (hn : n ≤ 1000000) :
    Calls Tryd.prog 21 #[.slice a n c, .bool m] w fun e w' => e = .returned (.tuple #[.int .i64 (cW m L), .int .i64 (cE m L)]) ∧ Below w.heap.size w w' := by
  have cb := bad9R_any a n c L w hr hn
  by_cases h0 : rE L = 0
  · have hw : wE L = 0 := (lE_zero (rE_zero h0).1).1
    have hm : mE L = 0 := (wE_zero hw).1
    have hln := wE_len hw
    have hE : Ends L [] 0 (L.length - 1) := ⟨hw, Nat.zero_le _, by omega, rfl, held_end (mE_zero hm).2 (wE_zero hw).2.1 hln.1, Or.inr (Or.inr (wE_end hw))⟩
    have CM := Lib.hid (fun W (h : Below w.heap.size w W) => (show mA L = mL L by unfold mA; rw [if_pos hm]) ▸ hm ▸ matchR_any a n c L W (hr.below h) hn)
    obtain ⟨k, hk⟩ : ∃ k, k = L.length - 1 := ⟨_, rfl⟩
    rw [← hk] at hE
    have CW := Lib.hid (fun W a1 n1 c1 (h : Below w.heap.size w W) (hm1 : Row W a1 n1 (mL L)) => wayR_any m a n c n1 c1 L (k - 0) a1 0 k [] W rfl hE (hr.below h) hm1)
    have w1 : IntKind.i64.wrap ((n : Int) - 1) = (k : Int) := by rw [IntWalk.i64_in _ (by have := hr.1; omega)]; have := hr.1; omega
    have hcE := cE_eq m L
    rw [if_pos h0] at hcE
    rw [h0] at cb
    have CB := Lib.hid cb
    have hcu := cut_le (ub m L 0)
    have hbig : 1048576 < cut (ub m L 0) + 1 ↔ 1048576 < ub m L 0 + 1 := by unfold cut cap; omega
    obtain ⟨v, hv⟩ : ∃ v, v = cut (ub m L 0) := ⟨_, rfl⟩
    rw [← hv] at CW hcu hbig
    unfold cap at hcu
    have w2 : IntKind.i64.wrap ((v : Int) + 1) = (v : Int) + 1 := IntWalk.i64_in _ (by omega)
    by_cases hlt : 1048576 < v + 1
    · have hE2 : cE m L = 4 := by rw [hcE, if_pos (hbig.1 hlt)]
      have HE := Lib.hid hE2
      have HQ : Hid (cW m L = 0) := by show _ = _; unfold cW; rw [hE2]; rfl
      have e5 : decide ((1048576 : Int) < (v : Int) + 1) = true := by simp; omega
      have e6 : decide ((1048576 : Nat) < v + 1) = true := by simp; omega
      clear hv hbig hE2 hcE hlt hr cb h0 hw hm hln hE hk
      go_enter Tryd.func21, Tryd.ntmps21
      go_wp2_with (first | (go_at_call 29; refine CB.out.mono ?_; rintro e w1 ⟨rfl, hb1⟩) | (go_at_call 22; refine (CM.out _ hb1).mono ?_; rintro e w2 ⟨a2, n2, c2, rfl, hr2, hb2⟩; have hb3 := keep_below hb1 hb2) | (go_at_call 23; refine (CW.out _ a2 n2 c2 hb3 hr2).mono ?_; rintro e w4 ⟨rfl, hb4⟩))
      go_ret2
      exact ⟨by rw [HE.out, HQ.out]; rfl, keep_below hb3 hb4⟩
    · have hE2 : cE m L = 0 := by rw [hcE, if_neg (fun h => hlt (hbig.2 h))]
      have hub : v = ub m L 0 := by rw [hv]; unfold cut cap at *; omega
      have HE := Lib.hid hE2
      have HQ : Hid (cW m L = ((v + 1 : Nat) : Int)) := by show _ = _; unfold cW; rw [if_pos hE2, hub]
      have e5 : decide ((1048576 : Int) < (v : Int) + 1) = false := by simp; omega
      have e6 : decide ((1048576 : Nat) < v + 1) = false := by simp; omega
      clear hv hbig hE2 hub hcE hlt hr cb h0 hw hm hln hE hk
      go_enter Tryd.func21, Tryd.ntmps21
      go_wp2_with (first | (go_at_call 29; refine CB.out.mono ?_; rintro e w1 ⟨rfl, hb1⟩) | (go_at_call 22; refine (CM.out _ hb1).mono ?_; rintro e w2 ⟨a2, n2, c2, rfl, hr2, hb2⟩; have hb3 := keep_below hb1 hb2) | (go_at_call 23; refine (CW.out _ a2 n2 c2 hb3 hr2).mono ?_; rintro e w4 ⟨rfl, hb4⟩))
      go_ret2
      exact ⟨by rw [HE.out, HQ.out]; go_num, keep_below hb3 hb4⟩
  · have h1 : cE m L = rE L := by rw [cE_eq, if_neg h0]
    have HQ : Hid (cW m L = 0) := by show _ = _; unfold cW; rw [h1, if_neg h0]
    obtain ⟨x, hx⟩ : ∃ x, x = rE L := ⟨_, rfl⟩
    rw [h1, ← hx]
    rw [← hx] at h0 cb
    have CB := Lib.hid cb
    have e1 : (x != 0) = true := by simpa using h0
    have e2 : (x == 0) = false := by simpa using h0
    clear cb hr h0 h1 hx
    go_enter Tryd.func21, Tryd.ntmps21
    go_wp2_with (first | (go_at_call 29; refine CB.out.mono ?_; rintro e w1 ⟨rfl, hb1⟩))
    go_ret2
    exact ⟨by rw [HQ.out]; rfl, hb1⟩
theorem worstR_any (a : Option Addr) (n c : Nat) (L : List (Int × Int × Int)) (w : World) (hr : RowI w a n L) (hn : n ≤ 1000000) :
    Calls Tryd.prog 10 #[.slice a n c] w fun e w' => e = .returned (.tuple #[.int .i64 (cW true L), .int .i64 (cE true L)]) ∧ Below w.heap.size w w' := by
  have CA := Lib.hid (allR_any true a n c L w hr hn)
  clear hr
  go_enter Tryd.func10, Tryd.ntmps10
  go_wp2_with (go_at_call 21; refine CA.out.mono ?_; rintro e w1 ⟨rfl, hb1⟩)
  go_ret2
  exact ⟨rfl, hb1⟩
theorem bestR_any (a : Option Addr) (n c : Nat) (L : List (Int × Int × Int)) (w : World) (hr : RowI w a n L) (hn : n ≤ 1000000) :
    Calls Tryd.prog 12 #[.slice a n c] w fun e w' => e = .returned (.tuple #[.int .i64 (cW false L), .int .i64 (cE false L)]) ∧ Below w.heap.size w w' := by
  have CA := Lib.hid (allR_any false a n c L w hr hn)
  clear hr
  go_enter Tryd.func12, Tryd.ntmps12
  go_wp2_with (go_at_call 21; refine CA.out.mono ?_; rintro e w1 ⟨rfl, hb1⟩)
  go_ret2
  exact ⟨rfl, hb1⟩
/-- Does none of the first k leave something out? -/
theorem strt_iff {L : List (Int × Int × Int)} : strt L = true ↔ ∀ p, p < L.length → lv (at_ L p) = false := by
  constructor
  · intro h p _; exact strt_at h p
  · intro h
    unfold strt
    rw [Bool.not_eq_true', List.any_eq_false]
    intro x hx
    obtain ⟨p, hp, e⟩ := List.getElem_of_mem hx
    have he : at_ L p = x := by unfold at_; rw [List.getD_eq_getElem?_getD, List.getElem?_eq_getElem hp]; exact e
    rw [← he, h p hp]; simp
set_option maxHeartbeats 2000000 in
set_option maxRecDepth 100000 in
theorem straightR_any (a : Option Addr) (n c : Nat) (L : List (Int × Int × Int)) (w : World) (hr : RowI w a n L) (hn : n ≤ 1000000) :
    Calls Tryd.prog 18 #[.slice a n c] w fun e w' => e = .returned (.bool (strt L)) ∧ Below w.heap.size w w' := by
  have HL := Lib.hid hr.1
  go_enter Tryd.func18, Tryd.ntmps18
  go_wp2
  go_loopw [3] (fun i wr => ∃ k : Nat, k ≤ n ∧ i = .int .i64 k ∧ Hid (∀ p, p < k → lv (at_ L p) = false) ∧ wr = w) (fun i _ => n - (intOf i).toNat)
  case atStart => exact ⟨0, by omega, rfl, fun p hp => absurd hp (by omega), rfl⟩
  case round =>
    obtain ⟨k, hk, rfl, HA, rfl⟩ := hrel
    by_cases hlt : k < n
    · obtain ⟨b1, o1, p1, p2, p3, rfl, hB1, hx, hc1, hc2, hc3⟩ := hr.at_ hlt
      have HX := Lib.hid (at_some hx)
      clear hx
      cases hv : lv (p1, p2, p3)
      · have HA2 : Hid (∀ p, p < k + 1 → lv (at_ L p) = false) := by
          intro p hp
          by_cases e : p = k
          · rw [e, HX.out]; exact hv
          · exact HA.out p (by omega)
        unfold lv at hv
        simp only at hv
        cases h1 : (p1 == 19)
        · cases h2 : (p1 == 20)
          · clear hv HA HX
            go_wp2
            go_roundw
            case rel => exact ⟨k + 1, by omega, by go_num, HA2, trivial⟩
            case measure => simp [intOf]; omega
          · have h3 : decide (0 < p2) = false := by rw [h1, h2] at hv; simpa using hv
            clear hv HA HX
            go_wp2
            go_roundw
            case rel => exact ⟨k + 1, by omega, by go_num, HA2, trivial⟩
            case measure => simp [intOf]; omega
        · have h3 : decide (0 < p2) = false := by rw [h1] at hv; simpa using hv
          clear hv HA HX
          go_wp2
          go_roundw
          case rel => exact ⟨k + 1, by omega, by go_num, HA2, trivial⟩
          case measure => simp [intOf]; omega
      · have HQ : Hid (strt L = false) := by
          show _ = _
          cases hz : strt L
          · rfl
          · have := strt_at hz k
            rw [HX.out, hv] at this; cases this
        unfold lv at hv
        simp only at hv
        have h3 : decide (0 < p2) = true := by
          cases hd : decide (0 < p2)
          · rw [hd] at hv; simp at hv
          · rfl
        cases h1 : (p1 == 19)
        · have h2 : (p1 == 20) = true := by rw [h1, h3] at hv; simpa using hv
          clear hv HA HX
          go_wp2
          go_ret
          exact ⟨by rw [HQ.out]; rfl, Below.refl _ _⟩
        · clear hv HA HX
          go_wp2
          go_ret
          exact ⟨by rw [HQ.out]; rfl, Below.refl _ _⟩
    · have HQ : Hid (strt L = true) := strt_iff.2 (fun p hp => HA.out p (by rw [← HL.out] at hp; omega))
      clear HA
      go_wp2
      go_ret
      exact ⟨by rw [HQ.out]; rfl, Below.refl _ _⟩
end Go.Proofs.YtacgnofmccennaaDoor
