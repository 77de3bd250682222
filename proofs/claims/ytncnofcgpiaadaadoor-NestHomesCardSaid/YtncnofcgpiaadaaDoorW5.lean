/- What is proved here: the walk of NestHomes. Condition: the table of names holds what its initialiser lays ('Nms'). -/
import Derived.Test.YtncnofcgpiaadaaDoorMr
namespace Go.Proofs.YtncnofcgpiaadaaDoor
open Go.ChangeShapes Go.WideShapes Go.RowKit

theorem hrow_at {w : World} {a : Option Addr} {n : Nat} {L : List (Int × Int × Int)} (h : Row w a n (hL L)) (hn : n = L.length) {k : Nat} (hk : k < n) : ∃ b o, a = some ⟨b, o, none⟩ ∧ ∀ j, j < n → w.cell? ⟨b, o + j, none⟩ = some (.int .i64 (hm L j)) := by
  obtain ⟨b, o, e, _, hcs⟩ := h.2 (by omega)
  refine ⟨b, o, e, fun j hj => ?_⟩
  rw [hcs j hj, hL_at (by omega)]
set_option maxHeartbeats 4000000 in
set_option maxRecDepth 100000 in
theorem homes_walk (a : Option Addr) (n c : Nat) (L : List (Int × Int × Int)) (hnm : n ≤ maxLen) (w : World) (hN : Nms w) (hr : RowI w a n L) :
    Calls Tryd.prog 7 #[.slice a n c] w fun e w' => e = .returned (.bool true) ∧ Below w.heap.size w w' := by
  have HN := Lib.hid hN
  unfold maxLen at hnm
  by_cases h200 : 200 < n
  · have K := Lib.hid (known_any w hN)
    clear hN hr
    go_enter Tryd.func7, Tryd.ntmps7
    go_wp2_with (go_at_call 10; refine K.out.mono ?_; rintro e w1 ⟨rfl, hb⟩)
    go_ret
    exact ⟨rfl, hb⟩
  have hn2 : n ≤ 200 := by omega
  have e200 : decide ((200 : Int) < (n : Int)) = false := by rw [decide_eq_false_iff_not]; omega
  clear h200
  have ch := home_any a n c L w hr hN
  unfold GotL at ch
  clear hN
  by_cases h0 : mE L = 0
  · have HC := Lib.hid (mE_zero h0).1
    have HS := Lib.hid (mE_zero h0).2
    have hmA : mA L = mL L := by unfold mA; rw [if_pos h0]
    have hhA : hA L = hL L := by unfold hA; rw [if_pos h0]
    have HL := Lib.hid hr.1
    have HM := Lib.hid h0
    have HMA := Lib.hid hmA
    rw [h0, hhA] at ch
    have C := Lib.hid ch
    clear ch h0 hmA hhA
    go_enter Tryd.func7, Tryd.ntmps7
    go_wp2_with fail
    refine C.out.mono ?_
    rintro e w0 ⟨a4, n4, c4, rfl, h4, hb0⟩
    obtain rfl : n4 = n := by have := h4.1; rw [hL_len, ← HL.out] at this; exact this
    have cm := match_any a n4 c L w0 (hr.below hb0) (HN.out.below hb0)
    unfold GotL at cm
    rw [HM.out, HMA.out] at cm
    go_wp2_with fail
    refine cm.mono ?_
    rintro e w1 ⟨a2, n2, c2, rfl, h3, hb1⟩
    obtain rfl : n2 = n4 := by have := h3.1; rw [mL_len, ← HL.out] at this; exact this
    have G := keep_below hb0 hb1
    have h5 := h4.below hb1
    have HG := Lib.hid G
    clear cm C hb0 hb1 hr G h4
    go_wp2
    go_loop [7] (fun ii => ∃ i : Nat, i ≤ n2 ∧ ii = .int .i64 i) (fun ii => n2 - (intOf ii).toNat)
    case atStart => exact ⟨0, by omega, rfl⟩
    case round =>
      obtain ⟨i, hi, rfl⟩ := hrel
      by_cases hlt : i < n2
      · have hiL : i ≤ L.length := by rw [← HL.out]; omega
        obtain ⟨b2, o2, rfl, hcs⟩ := mrow_at h3 HL.out hlt
        obtain ⟨b4, o4, rfl, hds⟩ := hrow_at h5 HL.out hlt
        have HCS := Lib.hid hcs
        have d1 := hds i hlt
        obtain ⟨q1, q2⟩ := hm_lt L i
        have HQ : Hid (∀ k, k < i → (i : Int) ≤ mt L L.length k → (k : Int) ≤ hm L i) := fun k hk he => HS.out.last hiL hk he
        have HQ2 : Hid (∀ t : Nat, hm L i = t → (i : Int) ≤ mt L L.length t) := fun t he => HS.out.home hiL he
        obtain ⟨x, hx⟩ : ∃ x, x = hm L i := ⟨_, rfl⟩
        rw [← hx] at d1 q1 q2 HQ HQ2
        have e1 : decide (x < -1) = false := by rw [decide_eq_false_iff_not]; omega
        have e2 : decide ((i : Int) ≤ x) = false := by rw [decide_eq_false_iff_not]; omega
        clear hcs hds hx
        by_cases hx0 : 0 ≤ x
        · obtain ⟨t, rfl⟩ : ∃ t : Nat, x = t := ⟨x.toNat, by omega⟩
          have htn : t < n2 := by omega
          have e2' : decide (i ≤ t) = false := by rw [decide_eq_false_iff_not]; omega
          have d2 := HCS.out t htn
          have q3 := HQ2.out t rfl
          obtain ⟨y, hy⟩ : ∃ y, y = mt L L.length t := ⟨_, rfl⟩
          rw [← hy] at d2 q3
          have e3 : decide (y < (i : Int)) = false := by rw [decide_eq_false_iff_not]; omega
          clear hy HQ2 hx0
          go_wp2
          go_loop [8] (fun kk => ∃ k : Nat, k ≤ i ∧ kk = .int .i64 k) (fun kk => i - (intOf kk).toNat)
          case atStart => exact ⟨0, by omega, rfl⟩
          case round =>
            clear d2 e3 q3
            obtain ⟨k, hk, rfl⟩ := hrel
            by_cases hki : k < i
            · have f1 := HCS.out k (by omega)
              have hq := HQ.out k hki
              have hkn : k < n2 := by omega
              obtain ⟨u, hu⟩ : ∃ u, u = mt L L.length k := ⟨_, rfl⟩
              rw [← hu] at f1 hq
              clear hu
              by_cases hui : (i : Int) ≤ u
              · have e4 : decide ((t : Int) < (k : Int)) = false := by rw [decide_eq_false_iff_not]; have := hq hui; omega
                have e4' : decide (t < k) = false := by rw [decide_eq_false_iff_not]; have := hq hui; omega
                clear hq
                go_wp2
                go_round
                case rel => exact ⟨k + 1, by omega, by go_num⟩
                case measure => simp [intOf]; omega
              · have e4 : decide ((i : Int) ≤ u) = false := by rw [decide_eq_false_iff_not]; exact hui
                clear hq hui
                go_wp2
                go_round
                case rel => exact ⟨k + 1, by omega, by go_num⟩
                case measure => simp [intOf]; omega
            · go_wp2
              go_round
              case rel => exact ⟨i + 1, by omega, by go_num⟩
              case measure => simp [intOf]; omega
        · obtain rfl : x = -1 := by omega
          clear hx0 HQ2
          go_wp2
          go_loop [8] (fun kk => ∃ k : Nat, k ≤ i ∧ kk = .int .i64 k) (fun kk => i - (intOf kk).toNat)
          case atStart => exact ⟨0, by omega, rfl⟩
          case round =>
            obtain ⟨k, hk, rfl⟩ := hrel
            by_cases hki : k < i
            · have f1 := HCS.out k (by omega)
              have hq := HQ.out k hki
              have hkn : k < n2 := by omega
              obtain ⟨u, hu⟩ : ∃ u, u = mt L L.length k := ⟨_, rfl⟩
              rw [← hu] at f1 hq
              have e4 : decide ((i : Int) ≤ u) = false := by rw [decide_eq_false_iff_not]; intro h; have := hq h; omega
              clear hu hq
              go_wp2
              go_round
              case rel => exact ⟨k + 1, by omega, by go_num⟩
              case measure => simp [intOf]; omega
            · go_wp2
              go_round
              case rel => exact ⟨i + 1, by omega, by go_num⟩
              case measure => simp [intOf]; omega
      · have K := Lib.hid (known_any w1 (HN.out.below HG.out))
        clear h3 h5
        go_wp2_with (go_at_call 10; refine K.out.mono ?_; rintro e w3 ⟨rfl, hb3⟩)
        go_ret
        exact ⟨rfl, keep_below HG.out hb3⟩
  · have hhA : hA L = [] := by unfold hA; rw [if_neg h0]
    obtain ⟨x, hx⟩ : ∃ x, x = mE L := ⟨_, rfl⟩
    have HX := Lib.hid hx
    rw [hhA, ← hx] at ch
    have e1 : (x != 0) = true := by rw [hx]; simpa using h0
    have e2 : (x == 0) = false := by rw [hx]; simpa using h0
    have C := Lib.hid ch
    clear ch h0 hx hhA
    go_enter Tryd.func7, Tryd.ntmps7
    go_wp2_with fail
    refine C.out.mono ?_
    rintro e w0 ⟨a4, n4, c4, rfl, h4, hb0⟩
    obtain rfl : n4 = 0 := h4.1
    have cm := match_any a n c L w0 (hr.below hb0) (HN.out.below hb0)
    unfold GotL at cm
    rw [← HX.out] at cm
    go_wp2_with fail
    refine cm.mono ?_
    rintro e w1 ⟨a2, n2, c2, rfl, h3, hb1⟩
    have G := keep_below hb0 hb1
    clear cm hr h3 h4
    go_wp2_with fail
    refine (known_any w1 (HN.out.below G)).mono ?_
    rintro e w3 ⟨rfl, hb3⟩
    go_wp2
    go_ret
    exact ⟨rfl, keep_below G hb3⟩
end Go.Proofs.YtncnofcgpiaadaaDoor
