/- What is proved here: the walk of the law CostBound. Condition: the table of names holds what its initialiser lays (Nms). -/
import Derived.Test.YtacgnofmccennaaDoorW1
namespace Go.Proofs.YtacgnofmccennaaDoor
open Go.ChangeShapes Go.WideShapes Go.RowKit

theorem loop_room {L : List (Int × Int × Int)} (hw : wE L = 0) {p : Nat} (h : (at_ L p).1 = 21) : 1 ≤ (at_ L p).2.1 ∧ (at_ L p).2.1 ≤ 1000 := by
  have := (right_parts (can_right (mE_zero (wE_zero hw).1).1 (op_len (p := p) (by omega)))).2.1
  unfold rA at this
  rw [h] at this
  simpa using this
/-- What is open at a place behind is closed there or farther on. -/
theorem not_in {L : List (Int × Int × Int)} {p : Nat} : p ∉ sk L p := fun h => absurd (sk_lt h) (by omega)
/-- Of a straight row each instruction is counted. -/
theorem ub_count {L : List (Int × Int × Int)} (hw : wE L = 0) (hs : strt L = true) (m : Bool) :
    ∀ p, ∀ c, c < L.length → p ≤ c → sk L c = sk L p → ((at_ L c).1 = 22 ∨ (at_ L c).1 = 24 ∨ (at_ L c).1 = 25) → c ≤ ub m L p + p := by
  have hS := (mE_zero (wE_zero hw).1).2
  refine down (n := L.length) (fun p hp ih => ?_) (fun p hp c hc h => by omega)
  intro c hc hpc hsk hst
  by_cases e : p = c
  · omega
  have hlt : p < c := by omega
  by_cases ho : opn (at_ L p) = true
  · obtain ⟨d, e1, e2, e3, e4, e5, e6⟩ := hS.opn ho
    have hdc : d < c := by
      by_cases h : d < c
      · exact h
      · exfalso
        have : p ∈ sk L c := (hS.within (by omega)).2 ⟨hlt, by omega⟩
        rw [hsk] at this; exact not_in this
    have hnb : nb L p = d + 1 := by unfold nb; rw [e1]; simp; omega
    have i1 := ih (p + 1) (by omega) d (by omega) (by omega) (by rw [e5, sk_opn' ho]) (by
      unfold cls at e4; simp at e4; omega)
    have i2 := ih (d + 1) (by omega) c hc (by omega) (by rw [hsk, sk_cls e4, e5]; rfl) hst
    have hop : (at_ L p).1 = 21 ∨ (at_ L p).1 = 23 := by unfold opn at ho; simpa using ho
    rcases hop with h | h
    · rw [ub_loop m h, hnb]
      have h1 := loop_room hw h
      have h2 : 1 * (ub m L (p + 1) + 1) ≤ (at_ L p).2.1.toNat * (ub m L (p + 1) + 1) := Nat.mul_le_mul (by omega) (Nat.le_refl _)
      omega
    · rw [ub_lock m h, hnb]; omega
  · have ho' : opn (at_ L p) = false := by simpa using ho
    cases hc2 : cls (at_ L p)
    · have hsk1 : sk L (p + 1) = sk L p := sk_oth ho' hc2
      have hno : (at_ L p).1 ≠ 21 ∧ (at_ L p).1 ≠ 23 ∧ (at_ L p).1 ≠ 22 ∧ (at_ L p).1 ≠ 24 := by
        unfold opn at ho'; unfold cls at hc2; simp at ho' hc2; omega
      have h25 : (at_ L p).1 ≠ 25 := fun h => by
        have := (ends_iff.1 (wE_zero hw).2.1 p hp).1 h
        omega
      have i1 := ih (p + 1) (by omega) c hc (by omega) (by rw [hsk, hsk1]) hst
      by_cases h19 : (at_ L p).1 = 19
      · rw [ub_jump m h19, strt_led hs (Or.inl h19)]; omega
      · by_cases h20 : (at_ L p).1 = 20
        · rw [ub_branch m h20, strt_led hs (Or.inr h20), of_same]; omega
        · rw [ub_else m hp (by omega) hno.1 hno.2.1 h19 h20]; omega
    · exfalso
      obtain ⟨t, g1, g2, g3, g4, g5⟩ := hS.cls hc2
      have : t ∈ sk L c := by rw [hsk, g1]; simp
      have := ((hS.within (by omega)).1 this).2
      omega
theorem strt_all {L : List (Int × Int × Int)} (hw : wE L = 0) (hs : strt L = true) (m : Bool) : L.length ≤ ub m L 0 + 1 := by
  have hl := wE_len hw
  have := ub_count hw hs m 0 (L.length - 1) (by omega) (by omega) (held_end (mE_zero (wE_zero hw).1).2 (wE_zero hw).2.1 hl.1) (Or.inr (Or.inr (wE_end hw)))
  omega
theorem cE_cases {L : List (Int × Int × Int)} (h : cE true L ≠ 0) : cE false L = cE true L ∨ cE true L = 4 := by
  by_cases e : rE L = 0
  · right
    rw [cE_eq, if_pos e] at h ⊢
    by_cases e2 : 1048576 < ub true L 0 + 1
    · rw [if_pos e2]
    · rw [if_neg e2] at h; exact absurd rfl h
  · left; rw [cE_eq, cE_eq, if_neg e, if_neg e]
set_option maxHeartbeats 2000000 in
set_option maxRecDepth 100000 in
theorem bound_walk (a : Option Addr) (n c : Nat) (L : List (Int × Int × Int)) (hmx : n ≤ maxLen) (w : World) (hr : RowI w a n L) (hN : Nms w) :
    Calls Tryd.prog 6 #[.slice a n c] w fun e w' => e = .returned (.bool true) ∧ Below w.heap.size w w' := by
  have hm63 : n ≤ 9223372036854775807 := hmx
  have HNm := Lib.hid hN
  have KN := Lib.hid (fun W (h : Below w.heap.size w W) => known9_any W (HNm.out.below h))
  by_cases h200 : 200 < n
  · have e1 : decide ((200 : Int) < (n : Int)) = true := by rw [decide_eq_true_iff]; omega
    clear hr hN
    go_enter Tryd.func6, Tryd.ntmps6
    go_wp2_with (go_at_call 8; refine (KN.out _ (Below.refl _ _)).mono ?_; rintro e w1 ⟨rfl, hb1⟩)
    go_ret
    exact ⟨rfl, hb1⟩
  · have e1 : decide ((200 : Int) < (n : Int)) = false := by rw [decide_eq_false_iff_not]; omega
    have cw := worst_any a n c L w hr hN
    have cb := fun W (h : Below w.heap.size w W) => best_any a n c L W (hr.below h) (HNm.out.below h)
    have cs := fun W (h : Below w.heap.size w W) => sections_any a n c L W (hr.below h) (HNm.out.below h)
    have hn2 : n ≤ 200 := by omega
    have ct := fun W (h : Below w.heap.size w W) => straight_any a n c L W (hr.below h) hmx
    by_cases h0 : cE true L = 0
    · obtain ⟨b1, b2, b3, b4, b5⟩ := best_zero h0
      have hw : wE L = 0 := (lE_zero (rE_zero (cE_zero h0).1).1).1
      have hst : strt L = true → (n : Int) ≤ cW true L := fun h => by
        have := strt_all hw h true
        unfold cW; rw [if_pos h0, hr.1]; omega
      have hsl : (sA L).length = (lks L L.length).length := by unfold sA; rw [if_pos h0]; exact sec_lks (Nat.le_refl _)
      have hl0 := lks_len L L.length
      rw [h0] at cs cw
      rw [b1] at cb
      generalize cW true L = W at cw b3 b4 b5 hst
      generalize cW false L = B at cb b2 b3
      generalize sA L = S at cs hsl
      generalize strt L = z at ct hst
      have HSL := Lib.hid hsl
      have HL := Lib.hid hr.1
      have HR := Lib.hid hr
      have CS := Lib.hid cs
      have CW := Lib.hid cw
      have CB := Lib.hid cb
      have CT := Lib.hid ct
      have g1 : decide (W < B) = false := by rw [decide_eq_false_iff_not]; omega
      have g2 : decide (B < 1) = false := by rw [decide_eq_false_iff_not]; omega
      have g3 : decide (1048576 < W) = false := by rw [decide_eq_false_iff_not]; omega
      have g4 : z = true → decide (W < (n : Int)) = false := fun h => by rw [decide_eq_false_iff_not]; have := hst h; omega
      have LOOP : ∀ (Z : Bool) (hz : z = Z), Calls Tryd.prog 6 #[.slice a n c] w fun e w' => e = .returned (.bool true) ∧ Below w.heap.size w w' := by
        intro Z hz
        subst hz
        cases z
        all_goals
          try (have g5 := g4 rfl)
          clear hr hN cs cw cb ct h0 b1 h200 hw hst hsl g4
          go_enter Tryd.func6, Tryd.ntmps6
          go_wp2_with (first | (go_at_call 9; refine CW.out.mono ?_; rintro e w1 ⟨rfl, hb1⟩) | (go_at_call 11; refine (CB.out _ hb1).mono ?_; rintro e w2 ⟨rfl, hb2⟩; have hb3 := keep_below hb1 hb2) | (go_at_call 13; refine (CS.out _ hb3).mono ?_; rintro e w4 ⟨a4, n4, c4, rfl, hr4, hb4⟩; have hb5 := keep_below hb3 hb4) | (go_at_call 17; refine (CT.out _ hb5).mono ?_; rintro e w6 ⟨rfl, hb6⟩; have hb7 := keep_below hb5 hb6))
          have HN4 : Hid (n4 = (lks L L.length).length) := by show _ = _; rw [hr4.1, HSL.out]
          have hn4 : n4 ≤ 200 := by rw [HN4.out]; have := HL.out; omega
          clear hr4 CS CW CB CT hb1 hb2 hb3 hb4 hb5 hb6
          go_loopw [9, 10] (fun s i wr => ∃ k : Nat, k ≤ n ∧ i = .int .i64 k ∧ s = .int .i64 ((lks L k).length : Nat) ∧ Below w.heap.size w wr) (fun _ i _ => n - (intOf i).toNat)
          case atStart => exact ⟨0, by omega, rfl, rfl, hb7⟩
          case round =>
            obtain ⟨k, hk, rfl, rfl, hbl⟩ := hrel
            by_cases hlt : k < n
            · obtain ⟨b1, o1, p1, p2, p3, rfl, hB1, hx, hc1, hc2, hc3⟩ := (HR.out.below hbl).at_ hlt
              have hll := lks_len L k
              have hs := lks_succ (l := L) (k := k) (by rw [← HL.out]; exact hlt)
              rw [at_some hx] at hs
              simp only at hs
              clear hx
              by_cases h23 : p1 = 23
              · rw [if_pos h23] at hs
                have HS : Hid ((lks L (k + 1)).length = (lks L k).length + 1) := by show _ = _; rw [hs, List.length_append]; rfl
                have f1 : (p1 == 23) = true := by simpa using h23
                generalize (lks L k).length = q at hll HS ⊢
                clear hs h23
                go_wp2
                go_roundw
                case rel => exact ⟨k + 1, by omega, by go_num, by rw [HS.out]; go_num, hbl⟩
                case measure => simp [intOf]; omega
              · rw [if_neg h23] at hs
                have HS : Hid ((lks L (k + 1)).length = (lks L k).length) := by show _ = _; rw [hs]
                have f1 : (p1 == 23) = false := by simpa using h23
                generalize (lks L k).length = q at hll HS ⊢
                clear hs h23
                go_wp2
                go_roundw
                case rel => exact ⟨k + 1, by omega, by go_num, by rw [HS.out], hbl⟩
                case measure => simp [intOf]; omega
            · obtain rfl : k = n := by omega
              have hq : (lks L k).length = n4 := by rw [HN4.out, HL.out]
              rw [hq]
              have f1 : ((n4 : Int) == (n4 : Int)) = true := by simp
              clear hq
              go_wp2_with (first | (go_at_call 8; refine (KN.out _ hbl).mono ?_; rintro e w9 ⟨rfl, hb9⟩))
              go_ret
              exact ⟨rfl, keep_below hbl hb9⟩
      exact LOOP z rfl
    · have hS : sA L = [] := by unfold sA; rw [if_neg h0]
      have hW : cW true L = 0 := by unfold cW; rw [if_neg h0]
      have hcc := cE_cases h0
      rw [hS] at cs
      rw [hW] at cw
      generalize cE true L = x at cs cw h0 hcc
      generalize cE false L = y at cb hcc
      generalize cW false L = v at cb
      have g1 : (x != 0) = true := by simpa using h0
      have g2 : (x == 0) = false := by simpa using h0
      have CS := Lib.hid cs
      have CW := Lib.hid cw
      have CB := Lib.hid cb
      cases hyx : (y == x)
      · have hx4 : (x == 4) = true := by
          rcases hcc with h | h
          · rw [h] at hyx; simp at hyx
          · rw [h]; rfl
        clear hr hN cs cw cb ct h0 h200 hS hW hcc
        go_enter Tryd.func6, Tryd.ntmps6
        go_wp2_with (first | (go_at_call 9; refine CW.out.mono ?_; rintro e w1 ⟨rfl, hb1⟩) | (go_at_call 11; refine (CB.out _ hb1).mono ?_; rintro e w2 ⟨rfl, hb2⟩; have hb3 := keep_below hb1 hb2) | (go_at_call 13; refine (CS.out _ hb3).mono ?_; rintro e w4 ⟨a4, n4, c4, rfl, hr4, hb4⟩; have hb5 := keep_below hb3 hb4; obtain rfl : n4 = 0 := hr4.1) | (go_at_call 8; refine (KN.out _ hb5).mono ?_; rintro e w6 ⟨rfl, hb6⟩))
        go_ret
        exact ⟨rfl, keep_below hb5 hb6⟩
      · clear hr hN cs cw cb ct h0 h200 hS hW hcc
        go_enter Tryd.func6, Tryd.ntmps6
        go_wp2_with (first | (go_at_call 9; refine CW.out.mono ?_; rintro e w1 ⟨rfl, hb1⟩) | (go_at_call 11; refine (CB.out _ hb1).mono ?_; rintro e w2 ⟨rfl, hb2⟩; have hb3 := keep_below hb1 hb2) | (go_at_call 13; refine (CS.out _ hb3).mono ?_; rintro e w4 ⟨a4, n4, c4, rfl, hr4, hb4⟩; have hb5 := keep_below hb3 hb4; obtain rfl : n4 = 0 := hr4.1) | (go_at_call 8; refine (KN.out _ hb5).mono ?_; rintro e w6 ⟨rfl, hb6⟩))
        go_ret
        exact ⟨rfl, keep_below hb5 hb6⟩
end Go.Proofs.YtacgnofmccennaaDoor
