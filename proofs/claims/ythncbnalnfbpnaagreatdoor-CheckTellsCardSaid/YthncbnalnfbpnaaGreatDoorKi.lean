/- What is proved here: contracts of the document: what is wrong, Worst, Best, Straight. Conditions: the row is not too long. the contract of the sections of the document. Conditions: the row is not too long. -/
import Derived.Test.YthncbnalnfbpnaaGreatDoorKh
import Derived.Test.YthncbnalnfbpnaaGreatDoorKe
import Derived.Test.YthncbnalnfbpnaaGreatDoorKg
import Derived.Test.YthncbnalnfbpnaaGreatDoorHr
section
namespace Go.Proofs.YthncbnalnfbpnaaGreatDoor
open Go.ChangeShapes Go.WideShapes Go.RowKit

theorem bad9R_any (a : Option Addr) (n c : Nat) (L : List (Int × Int × Int)) (w : World) (hr : RowI w a n L) (hn : n ≤ 1000000) :
    Calls Tryz.prog 95 #[.slice a n c] w fun e w' => e = .returned (.int .i64 (rE L)) ∧ Below w.heap.size w w' := by
  have cl := locksR_any a n c L w hr hn
  by_cases h1 : lE L = 0
  · have h3 : rE L = tE L := by unfold rE; rw [if_pos h1]
    rw [h3]
    rw [h1] at cl
    obtain ⟨x, hx⟩ : ∃ x, x = tE L := ⟨_, rfl⟩
    rw [← hx]
    have CS := Lib.hid (fun W (h : Below w.heap.size w W) => hx ▸ stacksR_any a n c L W (hr.below h) hn)
    have CL := Lib.hid cl
    clear cl hr h1 h3 hx
    go_enter Tryz.func95, Tryz.ntmps95
    go_wp2_with (first | (go_at_call 32; refine CL.out.mono ?_; rintro e w1 ⟨a1, n1, c1, rfl, hr1, hb1⟩) | (go_at_call 134; refine (CS.out _ (by assumption)).mono ?_; rintro e w2 ⟨a2, n2, c2, rfl, hr2, hb2⟩; have hb3 := keep_below hb1 hb2))
    go_ret
    exact ⟨rfl, hb3⟩
  · have h3 : rE L = lE L := by unfold rE; rw [if_neg h1]
    obtain ⟨x, hx⟩ : ∃ x, x = lE L := ⟨_, rfl⟩
    rw [h3, ← hx]
    rw [← hx] at h1 cl
    have CL := Lib.hid cl
    have e1 : (x != 0) = true := by simpa using h1
    have e2 : (x == 0) = false := by simpa using h1
    clear cl hr h1 h3 hx
    go_enter Tryz.func95, Tryz.ntmps95
    go_wp2_with (first | (go_at_call 32; refine CL.out.mono ?_; rintro e w1 ⟨a1, n1, c1, rfl, hr1, hb1⟩))
    go_ret
    exact ⟨rfl, hb1⟩
theorem allR_any (m : Bool) (a : Option Addr) (n c : Nat) (L : List (Int × Int × Int)) (w : World) (hr : RowI w a n L) (hn : n ≤ 1000000) :
    Calls Tryz.prog 42 #[.slice a n c, .bool m] w fun e w' => e = .returned (.tuple #[.int .i64 (cW m L), .int .i64 (cE m L)]) ∧ Below w.heap.size w w' := by
  have cb := bad9R_any a n c L w hr hn
  by_cases h0 : rE L = 0
  · have hw : wE L = 0 := (lE_zero (rE_zero h0).1).1
    have hm : mE L = 0 := (wE_zero hw).1
    have hln := wE_len hw
    have hE : Ends L [] 0 (L.length - 1) := ⟨hw, Nat.zero_le _, by omega, rfl, held_end (mE_zero hm).2 (wE_zero hw).2.1 hln.1, Or.inr (Or.inr (wE_end hw))⟩
    have CM := Lib.hid (fun W (h : Below w.heap.size w W) => (show mA L = mL L by unfold mA; rw [if_pos hm]) ▸ hm ▸ matchR_any a n c L W (hr.below h) hn)
    obtain ⟨k, hk⟩ : ∃ k, k = L.length - 1 := ⟨_, rfl⟩
    rw [← hk] at hE
    have CW := Lib.hid (fun W a1 n1 c1 (h : Below w.heap.size w W) (hm1 : Row W a1 n1 (mL L)) => wayR_any m a n c n1 c1 L (k - 0) a1 0 k [] W rfl hE (hr.below h) hm1)
    have w1 : IntKind.i64.wrap ((n : Int) - 1) = (k : Int) := by rw [IntWalk.i64_in _ (by have := hr.1; omega)]; have := hr.1; omega
    have hcE := cE_eq m L
    rw [if_pos h0] at hcE
    rw [h0] at cb
    have CB := Lib.hid cb
    have hcu := cut_le (ub m L 0)
    have hbig : 1048576 < cut (ub m L 0) + 1 ↔ 1048576 < ub m L 0 + 1 := by unfold cut cap; omega
    obtain ⟨v, hv⟩ : ∃ v, v = cut (ub m L 0) := ⟨_, rfl⟩
    rw [← hv] at CW hcu hbig
    unfold cap at hcu
    have w2 : IntKind.i64.wrap ((v : Int) + 1) = (v : Int) + 1 := IntWalk.i64_in _ (by omega)
    by_cases hlt : 1048576 < v + 1
    · have hE2 : cE m L = 4 := by rw [hcE, if_pos (hbig.1 hlt)]
      have HE := Lib.hid hE2
      have HQ : Hid (cW m L = 0) := by show _ = _; unfold cW; rw [hE2]; rfl
      have e5 : decide ((1048576 : Int) < (v : Int) + 1) = true := by simp; omega
      have e6 : decide ((1048576 : Nat) < v + 1) = true := by simp; omega
      clear hv hbig hE2 hcE hlt hr cb h0 hw hm hln hE hk
      go_enter Tryz.func42, Tryz.ntmps42
      go_wp2_with (first | (go_at_call 95; refine CB.out.mono ?_; rintro e w1 ⟨rfl, hb1⟩) | (go_at_call 43; refine (CM.out _ hb1).mono ?_; rintro e w2 ⟨a2, n2, c2, rfl, hr2, hb2⟩; have hb3 := keep_below hb1 hb2) | (go_at_call 44; refine (CW.out _ a2 n2 c2 hb3 hr2).mono ?_; rintro e w4 ⟨rfl, hb4⟩))
      go_ret2
      exact ⟨by rw [HE.out, HQ.out]; rfl, keep_below hb3 hb4⟩
    · have hE2 : cE m L = 0 := by rw [hcE, if_neg (fun h => hlt (hbig.2 h))]
      have hub : v = ub m L 0 := by rw [hv]; unfold cut cap at *; omega
      have HE := Lib.hid hE2
      have HQ : Hid (cW m L = ((v + 1 : Nat) : Int)) := by show _ = _; unfold cW; rw [if_pos hE2, hub]
      have e5 : decide ((1048576 : Int) < (v : Int) + 1) = false := by simp; omega
      have e6 : decide ((1048576 : Nat) < v + 1) = false := by simp; omega
      clear hv hbig hE2 hub hcE hlt hr cb h0 hw hm hln hE hk
      go_enter Tryz.func42, Tryz.ntmps42
      go_wp2_with (first | (go_at_call 95; refine CB.out.mono ?_; rintro e w1 ⟨rfl, hb1⟩) | (go_at_call 43; refine (CM.out _ hb1).mono ?_; rintro e w2 ⟨a2, n2, c2, rfl, hr2, hb2⟩; have hb3 := keep_below hb1 hb2) | (go_at_call 44; refine (CW.out _ a2 n2 c2 hb3 hr2).mono ?_; rintro e w4 ⟨rfl, hb4⟩))
      go_ret2
      exact ⟨by rw [HE.out, HQ.out]; go_num, keep_below hb3 hb4⟩
  · have h1 : cE m L = rE L := by rw [cE_eq, if_neg h0]
    have HQ : Hid (cW m L = 0) := by show _ = _; unfold cW; rw [h1, if_neg h0]
    obtain ⟨x, hx⟩ : ∃ x, x = rE L := ⟨_, rfl⟩
    rw [h1, ← hx]
    rw [← hx] at h0 cb
    have CB := Lib.hid cb
    have e1 : (x != 0) = true := by simpa using h0
    have e2 : (x == 0) = false := by simpa using h0
    clear cb hr h0 h1 hx
    go_enter Tryz.func42, Tryz.ntmps42
    go_wp2_with (first | (go_at_call 95; refine CB.out.mono ?_; rintro e w1 ⟨rfl, hb1⟩))
    go_ret2
    exact ⟨by rw [HQ.out]; rfl, hb1⟩
theorem worstR_any (a : Option Addr) (n c : Nat) (L : List (Int × Int × Int)) (w : World) (hr : RowI w a n L) (hn : n ≤ 1000000) :
    Calls Tryz.prog 26 #[.slice a n c] w fun e w' => e = .returned (.tuple #[.int .i64 (cW true L), .int .i64 (cE true L)]) ∧ Below w.heap.size w w' := by
  have CA := Lib.hid (allR_any true a n c L w hr hn)
  clear hr
  go_enter Tryz.func26, Tryz.ntmps26
  go_wp2_with (go_at_call 42; refine CA.out.mono ?_; rintro e w1 ⟨rfl, hb1⟩)
  go_ret2
  exact ⟨rfl, hb1⟩
/-- Does none of the first k leave something out? -/
theorem strt_iff {L : List (Int × Int × Int)} : strt L = true ↔ ∀ p, p < L.length → lv (at_ L p) = false := by
  constructor
  · intro h p _; exact strt_at h p
  · intro h
    unfold strt
    rw [Bool.not_eq_true', List.any_eq_false]
    intro x hx
    obtain ⟨p, hp, e⟩ := List.getElem_of_mem hx
    have he : at_ L p = x := by unfold at_; rw [List.getD_eq_getElem?_getD, List.getElem?_eq_getElem hp]; exact e
    rw [← he, h p hp]; simp
end Go.Proofs.YthncbnalnfbpnaaGreatDoor
end

section
namespace Go.Proofs.YthncbnalnfbpnaaGreatDoor
open Go.ChangeShapes Go.WideShapes Go.RowKit

theorem ownP_below {w w' : World} {base : Nat} {v : Value} {m : Nat} {xs : List Value} (h : w.ownsRow base 82 2 v m xs) (hb : Below w.heap.size w w') : w'.ownsRow base 82 2 v m xs :=
  h.kept (row := none) ⟨hb.os, hb.tape, hb.output, hb.size, fun i hi _ => hb.block i hi⟩ (by
    cases h : v.ownBlock with
    | none => exact Or.inl rfl
    | some _ => exact Or.inr (by simp))
set_option maxHeartbeats 2000000 in
set_option maxRecDepth 100000 in
theorem sectionsR_any (a : Option Addr) (n c : Nat) (L : List (Int × Int × Int)) (w : World) (hr : RowI w a n L) (hn : n ≤ 1000000) :
    Calls Tryz.prog 28 #[.slice a n c] w (GotP (sA L) (cE true L) w) := by
  have cw := worstR_any a n c L w hr hn
  unfold GotP
  by_cases h0 : cE true L = 0
  · have HS : Hid (sA L = sec L L.length) := by show _ = _; unfold sA; rw [if_pos h0]
    rw [h0] at cw
    generalize cW true L = W0 at cw
    have H0 := Lib.hid h0
    have hw : wE L = 0 := (lE_zero (rE_zero (cE_zero h0).1).1).1
    have hm : mE L = 0 := (wE_zero hw).1
    have hln := wE_len hw
    rw [← hr.1] at hln
    have hn2 := hln.2
    have HW := Lib.hid hw
    have HL := Lib.hid hr.1
    have HR := Lib.hid hr
    obtain ⟨i0, hi, hz0, hz1, hz2⟩ := parts_info ref_info
    have CW := Lib.hid cw
    have CM := Lib.hid (fun W (h : Below w.heap.size w W) => (show mA L = mL L by unfold mA; rw [if_pos hm]) ▸ hm ▸ matchR_any a n c L W (hr.below h) hn)
    clear cw h0 hw hln hm hr
    go_enter Tryz.func28, Tryz.ntmps28
    go_wp2_with (first | (go_at_call 26; refine CW.out.mono ?_; rintro e w1 ⟨rfl, hb1⟩) | (go_at_call 43; refine (CM.out _ hb1).mono ?_; rintro e w2 ⟨a2, n2, c2, rfl, hr2, hb2⟩; have hb3 := keep_below hb1 hb2))
    have HN2 : Hid (n2 = n) := by show _ = _; have := hr2.1; rw [mL_len, ← HL.out] at this; exact this
    have HR2 := Lib.hid hr2
    clear hb1 hb2 CM CW hr2
    go_loopw [8, 9] (fun s i wr => ∃ k : Nat, k ≤ n ∧ i = .int .i64 k ∧ wr.ownsRow w2.heap.size 82 2 s (sec L k).length (pairC (sec L k)) ∧ Below w2.heap.size w2 wr) (fun _ i _ => n - (intOf i).toNat)
    case atStart => exact ⟨0, by omega, rfl, World.ownsRow_nil _ _ _ _, Below.refl _ _⟩
    case round =>
      obtain ⟨k, hk, rfl, hown, hbl⟩ := hrel
      have hbs := hbl.size
      by_cases hlt : k < n
      · obtain ⟨b1, o1, p1, p2, p3, rfl, hB1, hx, hc1, hc2, hc3⟩ := (HR.out.below (keep_below hb3 hbl)).at_ hlt
        have HX := Lib.hid (at_some hx)
        clear hx
        have q1 : (0 : Int) ≤ (k : Int) := by omega
        have q2 : (k : Int) < (n : Int) := by omega
        by_cases h23 : p1 = 23
        · subst h23
          have hS := (mE_zero (wE_zero HW.out).1).2
          obtain ⟨d, e1, e2, e3, e4, e5, e6⟩ := hS.opn (p := k) (by rw [HX.out]; rfl)
          have hEnd : Ends L (sk L d) (k + 1) d := ⟨HW.out, by omega, e3, by rw [e5, sk_opn' (by rw [HX.out]; rfl)], rfl, by unfold cls at e4; simp at e4; omega⟩
          obtain ⟨bm, om, ha2, hBm, hcs⟩ := (HR2.out.below hbl).2 (by rw [HN2.out]; omega)
          subst ha2
          have d1 := hcs k (by rw [HN2.out]; exact hlt)
          rw [mL_at (by rw [← HL.out]; exact hlt), e1] at d1
          have q3 : (k : Int) < (n2 : Int) := by rw [HN2.out]; exact q2
          have CY := Lib.hid (fun W (h1 : RowI W (some ⟨b1, o1, none⟩) n L) (h2 : Row W (some ⟨bm, om, none⟩) n2 (mL L)) => wayR_any true (some ⟨b1, o1, none⟩) n c n2 c2 L (d - (k + 1)) (some ⟨bm, om, none⟩) (k + 1) d (sk L d) W rfl hEnd h1 h2)
          obtain ⟨v, hv⟩ : ∃ v, v = cut (ub true L (k + 1)) := ⟨_, rfl⟩
          rw [← hv] at CY
          have hvb : v ≤ 1048577 := by rw [hv]; exact cut_le _
          have HE : Hid (sec L (k + 1) = sec L k ++ [(p2, (v : Int) + 1)]) := by show _ = _; rw [sec, if_pos (by rw [HX.out]), HX.out, ← hv]; rfl
          have w1' : IntKind.i64.wrap ((k : Int) + 1) = (k : Int) + 1 := IntWalk.i64_in _ (by omega)
          have w2' : IntKind.i64.wrap ((v : Int) + 1) = (v : Int) + 1 := IntWalk.i64_in _ (by omega)
          have hone : ∀ u ∈ ([.int .i64 p2, .int .i64 ((v : Int) + 1)] : List Value), u.oneCell' = true := by intro u hu; simp at hu; rcases hu with rfl | rfl <;> rfl
          have hsl := sec_len L k
          have h63 : (sec L k).length + 1 ≤ maxLen := by unfold maxLen; omega
          have hRI := HR.out.below (keep_below hb3 hbl)
          have hRM := HR2.out.below hbl
          obtain ⟨m, hm⟩ : ∃ m, m = (sec L k).length := ⟨_, rfl⟩
          obtain ⟨S, hS2⟩ : ∃ S, S = sec L k := ⟨_, rfl⟩
          rw [← hm, ← hS2] at hown
          rw [← hm] at h63 hsl
          have HM : Hid (m = S.length) := by show _ = _; rw [hm, hS2]
          have HE2 : Hid (sec L (k + 1) = S ++ [(p2, (v : Int) + 1)]) := by show _ = _; rw [HE.out, hS2]
          have hc2d : wr.drew.cell? ⟨b1, o1 + k * 3 + 1, none⟩ = some (.int .i64 p2) := hc2
          have hownd : wr.drew.ownsRow w2.heap.size 82 2 u8 m (pairC S) := ownP_below hown (Below.refl _ _).drew
          have hbld : Below w2.heap.size w2 wr.drew := hbl.drew
          clear hm hS2 HE hv hcs e1 e2 e3 e4 e5 e6 hEnd hS
          go_wp2_with fail
          go_region_law (first
            | (refine step_append_lies _ rfl (.tmp 35) (.tmp 52) 79 rfl w2.heap.size 82 i0 (.agg #[.int .i64 0, .int .i64 0]) 2 16 Tryz.underlying79 hi hz0 hz1 hz2 rfl (by decide) u8 m (pairC S) (by simp [Act.eval]) (ownP_below z2 (below_alloc w9 _)) ⟨w9.heap.size, 0, none⟩ 1 1 [.int .i64 p2, .int .i64 ((v : Int) + 1)] (by simp [Act.eval]) rfl (fun j u hj => World.news_of_block (new_block w9 (.cells #[.int .i64 p2, .int .i64 ((v : Int) + 1)] 82)) j u hj) hone (by omega) h63 (by omega) (keep_below z3 (below_alloc w9 _)).size _ rfl ?_; intro g cap w4 hown3 hgrow hat hltg)
            | (go_wp2_with (go_at_call 44; refine (CY.out _ (hRI.below (Below.refl _ _).drew) (hRM.below (Below.refl _ _).drew)).mono ?_; rintro e w9 ⟨rfl, hb9⟩; have z1 := keep_cell hb9 hc2d; have z2 := ownP_below hownd hb9; have z3 := keep_below hbld hb9)))
          all_goals
            have hb5 : Below w2.heap.size w2 w4 := (keep_below z3 (below_alloc w9 _)).grown hgrow (keep_below z3 (below_alloc w9 _)).size (fun g hg => (z2.lt g hg).1)
            have hO5 : w4.ownsRow w2.heap.size 82 2 (.slice (some ⟨g, 0, none⟩) (m + 1) cap) (sec L (k + 1)).length (pairC (sec L (k + 1))) := by rw [HE2.out, pairC_snoc, List.length_append, ← HM.out]; exact hown3
            clear hown3 hgrow hat z2 z3
            go_wp2
            go_roundw
            case rel => exact ⟨k + 1, by omega, by go_num, hO5, hb5⟩
            case measure => simp [intOf]; omega
        · have e23 : (p1 == 23) = false := by rw [beq_eq_false_iff_ne]; exact h23
          have hO5 : wr.ownsRow w2.heap.size 82 2 u8 (sec L (k + 1)).length (pairC (sec L (k + 1))) := by
            rw [sec, if_neg (by rw [HX.out]; exact h23)]; exact hown
          clear h23 hown
          go_wp2
          go_roundw
          case rel => exact ⟨k + 1, by omega, by go_num, hO5, hbl⟩
          case measure => simp [intOf]; omega
      · obtain rfl : k = n := by omega
        obtain ⟨a', c', rfl, hP, hN'⟩ := RowP.ownN hown
        have hNn := Lib.hid hN'
        have hb3s := hb3.size
        clear hN'
        have HP : Hid (RowP wr a' (sec L k).length (sA L)) := by show RowP _ _ _ _; rw [HS.out, ← HL.out]; exact hP
        clear hown hP
        go_wp2
        go_ret2
        exact ⟨_, _, _, by rw [H0.out]; rfl, HP.out, keep_below hb3 hbl, fun p hp => ⟨Nat.le_trans hb3s (hNn.out p hp).1, (hNn.out p hp).2⟩⟩
  · have HS : Hid (sA L = []) := by show _ = _; unfold sA; rw [if_neg h0]
    obtain ⟨x, hx⟩ : ∃ x, x = cE true L := ⟨_, rfl⟩
    rw [← hx] at cw h0 ⊢
    generalize cW true L = W0 at cw
    have e1 : (x != 0) = true := by simpa using h0
    have e2 : (x == 0) = false := by simpa using h0
    have CW := Lib.hid cw
    clear cw hr hx h0
    go_enter Tryz.func28, Tryz.ntmps28
    go_wp2_with (first | (go_at_call 26; refine CW.out.mono ?_; rintro e w1 ⟨rfl, hb1⟩))
    go_ret2
    exact ⟨_, _, _, rfl, by rw [HS.out]; exact RowP.nil _ _, hb1, fun p hp => by cases hp⟩
end Go.Proofs.YthncbnalnfbpnaaGreatDoor
end
