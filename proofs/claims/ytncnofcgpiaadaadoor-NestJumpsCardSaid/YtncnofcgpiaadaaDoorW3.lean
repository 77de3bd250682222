/- What is proved here: the walk of NestJumps. Condition: the table of names holds what its initialiser lays ('Nms'). -/
import Derived.Test.YtncnofcgpiaadaaDoorMr
namespace Go.Proofs.YtncnofcgpiaadaaDoor
open Go.ChangeShapes Go.WideShapes Go.RowKit

set_option maxHeartbeats 4000000 in
set_option maxRecDepth 100000 in
theorem jumps_walk (a : Option Addr) (n c : Nat) (L : List (Int × Int × Int)) (hnm : n ≤ maxLen) (w : World) (hN : Nms w) (hr : RowI w a n L) :
    Calls Tryd.prog 5 #[.slice a n c] w fun e w' => e = .returned (.bool true) ∧ Below w.heap.size w w' := by
  have HN := Lib.hid hN
  unfold maxLen at hnm
  by_cases h200 : 200 < n
  · have K := Lib.hid (known_any w hN)
    clear hN hr
    go_enter Tryd.func5, Tryd.ntmps5
    go_wp2_with (go_at_call 10; refine K.out.mono ?_; rintro e w1 ⟨rfl, hb⟩)
    go_ret
    exact ⟨rfl, hb⟩
  have hn2 : n ≤ 200 := by omega
  have e200 : decide ((200 : Int) < (n : Int)) = false := by rw [decide_eq_false_iff_not]; omega
  clear h200
  have cw := whole_any a n c L w hr hN
  clear hN
  by_cases h0 : wE L = 0
  · obtain ⟨hm0, he, hj⟩ := wE_zero h0
    have HC := Lib.hid (mE_zero hm0).1
    have HS := Lib.hid (mE_zero hm0).2
    have hmA : mA L = mL L := by unfold mA; rw [if_pos hm0]
    have HJ := Lib.hid (jmps_iff.1 hj)
    have HL := Lib.hid hr.1
    have hn1 := (can_len HC.out).1
    rw [← HL.out] at hn1
    have HE : Hid ((at_ L (n - 1)).1 = 25) := by
      show _ = _
      have h2 : n - 1 < L.length := by rw [← HL.out]; omega
      exact (ends_iff.1 he (n - 1) h2).2 (by rw [← HL.out]; omega)
    have HM := Lib.hid hm0
    have HMA := Lib.hid hmA
    rw [h0] at cw
    have C := Lib.hid cw
    clear cw h0 hm0 he hj hmA
    go_enter Tryd.func5, Tryd.ntmps5
    go_wp2_with fail
    refine C.out.mono ?_
    rintro e w0 ⟨rfl, hb0⟩
    have cm := match_any a n c L w0 (hr.below hb0) (HN.out.below hb0)
    unfold GotL at cm
    rw [HM.out, HMA.out] at cm
    go_wp2_with fail
    refine cm.mono ?_
    rintro e w1 ⟨a2, n2, c2, rfl, h3, hb1⟩
    obtain rfl : n2 = n := by have := h3.1; rw [mL_len, ← HL.out] at this; exact this
    have G := keep_below hb0 hb1
    have hr1 := hr.below G
    have HG := Lib.hid G
    clear cm C hb0 hb1 hr G
    go_wp2
    go_loop [5] (fun ii => ∃ i : Nat, i ≤ n2 ∧ ii = .int .i64 i) (fun ii => n2 - (intOf ii).toNat)
    case atStart => exact ⟨0, by omega, rfl⟩
    case round =>
      obtain ⟨i, hi, rfl⟩ := hrel
      by_cases hlt : i < n2
      · have hiL : i < L.length := by rw [← HL.out]; exact hlt
        obtain ⟨b1, o1, p1, p2, p3, rfl, hB1, hx, hc1, hc2, hc3⟩ := hr1.at_ hlt
        have HX := Lib.hid (at_some hx)
        clear hx hc3
        by_cases hj : p1 = 19 ∨ p1 = 20
        · have hjj : jmp (at_ L i) = true := by rw [HX.out]; unfold jmp; simp; omega
          have h00 := right_jump (can_right HC.out (p := i) hiL) hjj
          rw [HX.out] at h00
          obtain ⟨m, rfl⟩ : ∃ m : Nat, p2 = m := ⟨p2.toNat, by simp at h00; omega⟩
          have hm200 : m < 200 := by simp at h00; omega
          have hled : led L i = i + 1 + m := by unfold led; rw [HX.out]; simp
          obtain ⟨q1, q2⟩ := HJ.out i hiL hjj
          rw [hled] at q1 q2
          have ht : i + 1 + m < n2 := by rw [HL.out]; exact q1
          have HQ2 := Lib.hid q2
          have e9 : decide ((n2 : Int) ≤ (i : Int) + 1 + (m : Int)) = false := by rw [decide_eq_false_iff_not]; omega
          obtain ⟨b2, o2, rfl, hcs⟩ := mrow_at h3 HL.out hlt
          have HCS := Lib.hid hcs
          clear h00 hled q1 q2 hjj HX hcs
          rcases hj with rfl | rfl
          all_goals
            go_wp2
            go_loop [7] (fun kk => ∃ k : Nat, k ≤ n2 ∧ kk = .int .i64 k) (fun kk => n2 - (intOf kk).toNat)
            case atStart => exact ⟨0, by omega, rfl⟩
            case round =>
              obtain ⟨k, hk, rfl⟩ := hrel
              by_cases hkn : k < n2
              · have f1 := HCS.out k hkn
                have hJ := HS.out.jump (i := i) (to := i + 1 + m) (k := k) (by rw [← HL.out]; omega) (by rw [← HL.out]; omega) HQ2.out
                obtain ⟨y, hy⟩ : ∃ y, y = mt L L.length k := ⟨_, rfl⟩
                rw [← hy] at hJ f1
                have ec : ((i + 1 + m : Nat) : Int) = (i : Int) + 1 + (m : Int) := by omega
                rw [ec] at hJ
                by_cases hki : k < i
                · have g1 : decide (k < i) = true := decide_eq_true hki
                  have g2 : decide (k < i + 1 + m) = true := decide_eq_true (by omega)
                  rw [g1, g2, Bool.true_and, Bool.true_and] at hJ
                  have g3 : (k : Int) < (i : Int) + 1 + (m : Int) := by omega
                  obtain ⟨z, hz⟩ : ∃ z, decide ((i : Int) ≤ y) = z := ⟨_, rfl⟩
                  rw [hz] at hJ
                  have hz2 := hJ.symm
                  clear hJ g1 g2 ec hy
                  cases z
                  all_goals
                    go_wp2
                    go_round
                    case rel => exact ⟨k + 1, by omega, by go_num⟩
                    case measure => simp [intOf]; omega
                · have g1 : decide (k < i) = false := decide_eq_false hki
                  have g1' : decide ((k : Int) < (i : Int)) = false := by rw [decide_eq_false_iff_not]; omega
                  rw [g1, Bool.false_and] at hJ
                  by_cases hkt : k < i + 1 + m
                  · have g2 : decide (k < i + 1 + m) = true := decide_eq_true hkt
                    rw [g2, Bool.true_and] at hJ
                    have hz2 := hJ.symm
                    have g3 : (k : Int) < (i : Int) + 1 + (m : Int) := by omega
                    clear hJ g2 ec hy
                    go_wp2
                    go_round
                    case rel => exact ⟨k + 1, by omega, by go_num⟩
                    case measure => simp [intOf]; omega
                  · have g3 : decide ((k : Int) < (i : Int) + 1 + (m : Int)) = false := by rw [decide_eq_false_iff_not]; omega
                    clear hJ ec hy
                    go_wp2
                    go_round
                    case rel => exact ⟨k + 1, by omega, by go_num⟩
                    case measure => simp [intOf]; omega
              · go_wp2
                go_round
                case rel => exact ⟨i + 1, by omega, by go_num⟩
                case measure => simp [intOf]; omega
        · have e1 : (p1 != 19) = true := by simp; omega
          have e2 : (p1 != 20) = true := by simp; omega
          clear HX hj h3 hr1
          go_wp2
          go_round
          case rel => exact ⟨i + 1, by omega, by go_num⟩
          case measure => simp [intOf]; omega
      · have K := Lib.hid (known_any w1 (HN.out.below HG.out))
        obtain ⟨b1, o1, p1, p2, p3, rfl, hB1, hx, hc1, hc2, hc3⟩ := hr1.at_ (show n2 - 1 < n2 by omega)
        have hx2 := at_some hx
        have h25 : p1 = 25 := by have := HE.out; rw [hx2] at this; exact this
        subst h25
        have ec : ((n2 - 1 : Nat) : Int) = (n2 : Int) - 1 := by omega
        have g1 : (0 : Int) ≤ (n2 : Int) - 1 := by omega
        have g2 : (n2 : Int) - 1 < (n2 : Int) := by omega
        have g3 : ((n2 : Int) - 1).toNat = n2 - 1 := by omega
        clear hr1 h3 hx hx2 hc2 hc3 ec
        go_wp2_with (go_at_call 10; refine K.out.mono ?_; rintro e w3 ⟨rfl, hb3⟩)
        go_ret
        exact ⟨rfl, keep_below HG.out hb3⟩
  · obtain ⟨x, hx⟩ : ∃ x, x = wE L := ⟨_, rfl⟩
    rw [← hx] at cw
    have e1 : (x != 0) = true := by rw [hx]; simpa using h0
    have e2 : (x == 0) = false := by rw [hx]; simpa using h0
    have C := Lib.hid cw
    clear cw h0 hx hr
    go_enter Tryd.func5, Tryd.ntmps5
    go_wp2_with fail
    refine C.out.mono ?_
    rintro e w1 ⟨rfl, hb⟩
    go_wp2_with fail
    refine (known_any w1 (HN.out.below hb)).mono ?_
    rintro e w3 ⟨rfl, hb3⟩
    go_wp2
    go_ret
    exact ⟨rfl, keep_below hb hb3⟩
end Go.Proofs.YtncnofcgpiaadaaDoor
