/- What is proved here: the walk of NestMatches. Condition: the table of names holds what its initialiser lays ('Nms'). -/
import Derived.Test.YtncnofcgpiaadaaDoorMr
namespace Go.Proofs.YtncnofcgpiaadaaDoor
open Go.ChangeShapes Go.WideShapes Go.RowKit

set_option maxHeartbeats 4000000 in
set_option maxRecDepth 100000 in
theorem matches_walk (a : Option Addr) (n c : Nat) (L : List (Int × Int × Int)) (hnm : n ≤ maxLen) (w : World) (hN : Nms w) (hr : RowI w a n L) :
    Calls Tryd.prog 4 #[.slice a n c] w fun e w' => e = .returned (.bool true) ∧ Below w.heap.size w w' := by
  have HN := Lib.hid hN
  unfold maxLen at hnm
  by_cases h200 : 200 < n
  · have K := Lib.hid (known_any w hN)
    clear hN hr
    go_enter Tryd.func4, Tryd.ntmps4
    go_wp2_with (go_at_call 10; refine K.out.mono ?_; rintro e w1 ⟨rfl, hb⟩)
    go_ret
    exact ⟨rfl, hb⟩
  have hn2 : n ≤ 200 := by omega
  have e200 : decide ((200 : Int) < (n : Int)) = false := by rw [decide_eq_false_iff_not]; omega
  clear h200
  have cm := match_any a n c L w hr hN
  unfold GotL at cm
  clear hN
  by_cases h0 : mE L = 0
  · have HS := Lib.hid (mE_zero h0).2
    have hmA : mA L = mL L := by unfold mA; rw [if_pos h0]
    rw [h0, hmA] at cm
    have C := Lib.hid cm
    have HL := Lib.hid hr.1
    clear cm h0 hmA
    go_enter Tryd.func4, Tryd.ntmps4
    go_wp2_with fail
    refine C.out.mono ?_
    rintro e w1 ⟨a2, n2, c2, rfl, h3, hb⟩
    obtain rfl : n2 = n := by have := h3.1; rw [mL_len, ← HL.out] at this; exact this
    have HG := Lib.hid hb
    have hr1 := hr.below hb
    clear C hb hr
    go_wp2
    go_loopw [5] (fun ii wr => ∃ i : Nat, i ≤ n2 ∧ ii = .int .i64 i ∧ Below w1.heap.size w1 wr) (fun ii _ => n2 - (intOf ii).toNat)
    case atStart => exact ⟨0, by omega, rfl, Below.refl _ _⟩
    case round =>
      obtain ⟨i, hi, rfl, hbl⟩ := hrel
      by_cases hlt : i < n2
      · have hiL : i < L.length := by rw [← HL.out]; exact hlt
        obtain ⟨b1, o1, p1, p2, p3, rfl, hB1, hx, hc1, hc2, hc3⟩ := (hr1.below hbl).at_ hlt
        have HX := Lib.hid (at_some hx)
        obtain ⟨b2, o2, rfl, hcs⟩ := mrow_at (h3.below hbl) HL.out hlt
        have HCS : Hid (∀ W, Below w1.heap.size w1 W → ∀ j, j < n2 → W.cell? ⟨b2, o2 + j, none⟩ = some (.int .i64 (mt L L.length j))) := by
          intro W hW j hj
          obtain ⟨b, o, e, h⟩ := mrow_at (h3.below hW) HL.out hlt
          simp only [Option.some.injEq, Addr.mk.injEq] at e
          obtain ⟨rfl, rfl, _⟩ := e
          exact h j hj
        have HR1 := Lib.hid hr1
        have H3 := Lib.hid h3
        clear hx hc2 hc3 hr1 h3
        by_cases hop : p1 = 21 ∨ p1 = 23
        · have HO : Hid (opn (at_ L i) = true) := by show _ = _; rw [HX.out]; unfold opn; simp; omega
          obtain ⟨d, g1, g2, g3, _, _, g4⟩ := HS.out.opn HO.out
          have HC := Lib.hid g1
          have m1 := hcs i hlt
          rw [g1] at m1
          have hdn : d < n2 := by rw [HL.out]; exact g3
          have m2 := hcs d hdn
          rw [g4] at m2
          have e5 : decide ((n2 : Int) ≤ (d : Int)) = false := by rw [decide_eq_false_iff_not]; omega
          have e5' : decide (n2 ≤ d) = false := by rw [decide_eq_false_iff_not]; omega
          have e7 : (i : Int) < (d : Int) := by omega
          clear g1 g3 g4 HX hiL hcs
          rcases hop with rfl | rfl
          all_goals
            go_wp2
            go_loopw [8] (fun kk wr2 => ∃ k : Nat, k ≤ i ∧ kk = .int .i64 k ∧ Below w1.heap.size w1 wr2) (fun kk _ => i - (intOf kk).toNat)
            case atStart => exact ⟨0, by omega, rfl, hbl⟩
            case round =>
              obtain ⟨k, hk, rfl, hbl2⟩ := hrel
              by_cases hki : k < i
              · have hnest := HS.out.nest HO.out hki
                rw [HC.out] at hnest
                have f1 := HCS.out _ hbl2 k (by omega)
                have f2 := HCS.out _ hbl2 i hlt
                rw [HC.out] at f2
                obtain ⟨y, hy⟩ : ∃ y, y = mt L L.length k := ⟨_, rfl⟩
                rw [← hy] at hnest f1
                have hkn : k < n2 := by omega
                clear hy
                by_cases hyi : (i : Int) < y
                · have e6 : decide (y < (d : Int)) = false := by rw [decide_eq_false_iff_not]; intro h; exact hnest ⟨hyi, h⟩
                  clear hnest HCS HS HO HC m1 m2
                  go_wp2
                  go_quiet (fail)
                  go_wp2
                  go_roundw
                  case rel => exact ⟨k + 1, by omega, by go_num, hbl2.trans ⟨rfl, rfl, rfl, Nat.le_refl _, fun _ _ => rfl⟩⟩
                  case measure => simp [intOf]; omega
                · have e6 : decide ((i : Int) < y) = false := by rw [decide_eq_false_iff_not]; exact hyi
                  clear hnest HCS HS HO HC m1 m2
                  go_wp2
                  go_quiet (fail)
                  go_wp2
                  go_roundw
                  case rel => exact ⟨k + 1, by omega, by go_num, hbl2.trans ⟨rfl, rfl, rfl, Nat.le_refl _, fun _ _ => rfl⟩⟩
                  case measure => simp [intOf]; omega
              · go_wp2
                go_roundw
                case rel => exact ⟨i + 1, by omega, by go_num, hbl2⟩
                case measure => simp [intOf]; omega
        · have e21 : (p1 == 21) = false := by rw [beq_eq_false_iff_ne]; omega
          have e23 : (p1 == 23) = false := by rw [beq_eq_false_iff_ne]; omega
          by_cases hcl : p1 = 22 ∨ p1 = 24
          · obtain ⟨d, _, g2, g1, g4, _⟩ := HS.out.cls (p := i) (by rw [HX.out]; unfold cls; simp; omega)
            have m1 := hcs i hlt
            rw [g1] at m1
            have m2 := hcs d (by omega)
            rw [g4] at m2
            have hdn : d < n2 := by omega
            have e5 : decide ((n2 : Int) ≤ (d : Int)) = false := by rw [decide_eq_false_iff_not]; omega
            have e5' : decide (n2 ≤ d) = false := by rw [decide_eq_false_iff_not]; omega
            have e7 : decide ((i : Int) < (d : Int)) = false := by rw [decide_eq_false_iff_not]; omega
            have e7' : decide (i < d) = false := by rw [decide_eq_false_iff_not]; omega
            clear g1 g4 HX hiL hop hcs HCS HS
            rcases hcl with rfl | rfl
            all_goals
              go_wp2
              go_loopw [8] (fun kk wr2 => ∃ k : Nat, k ≤ i ∧ kk = .int .i64 k ∧ Below w1.heap.size w1 wr2) (fun kk _ => i - (intOf kk).toNat)
              case atStart => exact ⟨0, by omega, rfl, hbl⟩
              case round =>
                obtain ⟨k, hk, rfl, hbl2⟩ := hrel
                go_wp2
                go_roundw
                case rel => exact ⟨i + 1, by omega, by go_num, hbl2⟩
                case measure => simp [intOf]; omega
          · have g1 := mt_else (l := L) (k := L.length) (p := i) (by rw [HX.out]; unfold opn; simp; omega) (by rw [HX.out]; unfold cls; simp; omega)
            have m1 := hcs i hlt
            rw [g1] at m1
            have e22 : (p1 == 22) = false := by rw [beq_eq_false_iff_ne]; omega
            have e24 : (p1 == 24) = false := by rw [beq_eq_false_iff_ne]; omega
            have e5 : decide ((n2 : Int) ≤ -1) = false := by rw [decide_eq_false_iff_not]; omega
            clear g1 HX hiL hop hcl hcs HCS HS
            go_wp2
            go_loopw [8] (fun kk wr2 => ∃ k : Nat, k ≤ i ∧ kk = .int .i64 k ∧ Below w1.heap.size w1 wr2) (fun kk _ => i - (intOf kk).toNat)
            case atStart => exact ⟨0, by omega, rfl, hbl⟩
            case round =>
              obtain ⟨k, hk, rfl, hbl2⟩ := hrel
              go_wp2
              go_roundw
              case rel => exact ⟨i + 1, by omega, by go_num, hbl2⟩
              case measure => simp [intOf]; omega
      · have K := Lib.hid (known_any wr (HN.out.below (keep_below HG.out hbl)))
        clear hr1 h3
        go_wp2_with (go_at_call 10; refine K.out.mono ?_; rintro e w3 ⟨rfl, hb3⟩)
        go_ret
        exact ⟨rfl, keep_below (keep_below HG.out hbl) hb3⟩
  · have hmA : mA L = [] := by unfold mA; rw [if_neg h0]
    obtain ⟨x, hx⟩ : ∃ x, x = mE L := ⟨_, rfl⟩
    rw [hmA, ← hx] at cm
    have e1 : (x != 0) = true := by rw [hx]; simpa using h0
    have e2 : (x == 0) = false := by rw [hx]; simpa using h0
    have C := Lib.hid cm
    clear cm h0 hx hmA hr
    go_enter Tryd.func4, Tryd.ntmps4
    go_wp2_with fail
    refine C.out.mono ?_
    rintro e w1 ⟨a2, n2, c2, rfl, h3, hb⟩
    obtain rfl : n2 = 0 := h3.1
    go_wp2_with fail
    refine (known_any w1 (HN.out.below hb)).mono ?_
    rintro e w3 ⟨rfl, hb3⟩
    go_wp2
    go_ret
    exact ⟨rfl, keep_below hb hb3⟩
end Go.Proofs.YtncnofcgpiaadaaDoor
