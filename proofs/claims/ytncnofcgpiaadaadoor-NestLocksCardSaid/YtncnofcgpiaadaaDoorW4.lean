/- What is proved here: the walk of NestLocks. Condition: the table of names holds what its initialiser lays ('Nms'). -/
import Derived.Test.YtncnofcgpiaadaaDoorMr
namespace Go.Proofs.YtncnofcgpiaadaaDoor
open Go.ChangeShapes Go.WideShapes Go.RowKit

theorem getD_mem {B : List Int} {i : Nat} (h : i < B.length) : B.getD i 0 ∈ B := by
  rw [List.getD_eq_getElem?_getD, List.getElem?_eq_getElem h]; exact List.getElem_mem h
theorem getD_rise {B : List Int} (hp : B.Pairwise (· < ·)) {i j : Nat} (h : i < j) (hj : j < B.length) : B.getD i 0 < B.getD j 0 := by
  have := List.pairwise_iff_getElem.1 hp i j (by omega) hj h
  rw [List.getD_eq_getElem?_getD, List.getElem?_eq_getElem (by omega), List.getD_eq_getElem?_getD, List.getElem?_eq_getElem hj]
  exact this
theorem shl_nat (q : Nat) (h : q < 8) : IntKind.i64.wrap ((2 : Int) ^ q) = ((2 ^ q : Nat) : Int) := by
  rcases (show q = 0 ∨ q = 1 ∨ q = 2 ∨ q = 3 ∨ q = 4 ∨ q = 5 ∨ q = 6 ∨ q = 7 by omega) with rfl | rfl | rfl | rfl | rfl | rfl | rfl | rfl <;> decide +kernel
theorem row_cells {w : World} {a : Option Addr} {n : Nat} {l : List Int} (h : Row w a n l) (hn : 0 < n) : ∃ b o, a = some ⟨b, o, none⟩ ∧ ∀ j, j < n → w.cell? ⟨b, o + j, none⟩ = some (.int .i64 (l.getD j 0)) := by
  obtain ⟨b, o, e, _, hcs⟩ := h.2 hn
  exact ⟨b, o, e, hcs⟩
set_option maxHeartbeats 4000000 in
set_option maxRecDepth 100000 in
theorem locks_walk (a : Option Addr) (n c : Nat) (L : List (Int × Int × Int)) (hnm : n ≤ maxLen) (w : World) (hN : Nms w) (hr : RowI w a n L) :
    Calls Tryd.prog 6 #[.slice a n c] w fun e w' => e = .returned (.bool true) ∧ Below w.heap.size w w' := by
  have HN := Lib.hid hN
  unfold maxLen at hnm
  by_cases h200 : 200 < n
  · have K := Lib.hid (known_any w hN)
    clear hN hr
    go_enter Tryd.func6, Tryd.ntmps6
    go_wp2_with (go_at_call 10; refine K.out.mono ?_; rintro e w1 ⟨rfl, hb⟩)
    go_ret
    exact ⟨rfl, hb⟩
  have hn2 : n ≤ 200 := by omega
  have e200 : decide ((200 : Int) < (n : Int)) = false := by rw [decide_eq_false_iff_not]; omega
  clear h200
  have cl := locks_any a n c L w hr hN
  unfold GotL at cl
  clear hN
  by_cases h0 : lE L = 0
  · obtain ⟨hw0, hbds⟩ := lE_zero h0
    obtain ⟨hm0, he, _⟩ := wE_zero hw0
    have HC := Lib.hid (mE_zero hm0).1
    have HS := Lib.hid (mE_zero hm0).2
    have H8 := Lib.hid (can_blk HC.out)
    have HBD := Lib.hid hbds
    have hlA : lA L = lks L L.length := by unfold lA; rw [if_pos h0]
    have hdA : hdA L = hdL L := by unfold hdA; rw [if_pos hm0]
    have HL := Lib.hid hr.1
    have hn1 := (can_len HC.out).1
    rw [← HL.out] at hn1
    have HE : Hid (sk L (n - 1) = []) := by
      show _ = _
      have := held_end HS.out he (by rw [← HL.out]; exact hn1)
      rw [HL.out]; exact this
    have HM := Lib.hid hm0
    have HDA := Lib.hid hdA
    have HP := Lib.hid (lks_rise HS.out.1 hbds (Nat.le_refl L.length))
    have HRm : Hid (∀ b ∈ lks L L.length, 0 ≤ b ∧ b < 8) := fun b hb => lks_room H8.out (Nat.le_refl _) hb
    have HSm : Hid (∀ k, k ≤ (lks L L.length).length → smB (lks L L.length) k < 256) := fun k hk => smB_small H8.out HS.out.1 HBD.out hk
    have HAll : Hid (∀ i, i ≤ L.length → hb L (sk L i) &&& smB (lks L L.length) (lks L L.length).length = hb L (sk L i)) := fun i hi => held_all H8.out HS.out.1 HBD.out hi
    have hBl : (lks L L.length).length ≤ L.length := lks_len L L.length
    rw [h0, hlA] at cl
    obtain ⟨B, hB⟩ : ∃ B, B = lks L L.length := ⟨_, rfl⟩
    rw [← hB] at cl HP HRm HSm HAll hBl
    have C := Lib.hid cl
    rw [← HL.out] at hBl
    clear cl h0 hw0 hbds hm0 he hlA hdA hB
    go_enter Tryd.func6, Tryd.ntmps6
    go_wp2_with fail
    refine C.out.mono ?_
    rintro e w0 ⟨a4, n4, c4, rfl, h4, hb0⟩
    have cm := held_any a n c L w0 (hr.below hb0) (HN.out.below hb0)
    unfold GotL at cm
    rw [HM.out, HDA.out] at cm
    go_wp2_with fail
    refine cm.mono ?_
    rintro e w1 ⟨a2, n2, c2, rfl, h3, hb1⟩
    obtain rfl : n2 = n := by have := h3.1; rw [hdL_len, ← HL.out] at this; exact this
    have G := keep_below hb0 hb1
    have h5 := h4.below hb1
    have hr1 := hr.below G
    have HG := Lib.hid G
    have HB := Lib.hid h4.1
    have hn4 : n4 ≤ 200 := by rw [HB.out]; omega
    clear cm C hb0 hb1 hr G h4
    go_wp2
    go_loopw [7, 8] (fun al ii wr => ∃ k S : Nat, k ≤ n4 ∧ ii = .int .i64 k ∧ al = .int .i64 S ∧ Hid (S = smB B k) ∧ S < 256 ∧ Below w1.heap.size w1 wr) (fun _ ii _ => n4 - (intOf ii).toNat)
    case atStart => exact ⟨0, 0, by omega, rfl, rfl, rfl, by omega, Below.refl _ _⟩
    case round =>
      obtain ⟨k, S, hk, rfl, rfl, HSS, hS, hbl⟩ := hrel
      by_cases hlt : k < n4
      · have hkB : k < B.length := by rw [← HB.out]; exact hlt
        obtain ⟨b4, o4, rfl, hcs⟩ := row_cells (h5.below hbl) (by omega)
        have d1 := hcs k hlt
        obtain ⟨x0, x8⟩ := HRm.out _ (getD_mem hkB)
        have hs1 : smB B (k + 1) = smB B k + 2 ^ (B.getD k 0).toNat := rfl
        obtain ⟨q, hq⟩ : ∃ q : Nat, B.getD k 0 = q := ⟨(B.getD k 0).toNat, by omega⟩
        have hlow : ∀ j, j + 1 = k → B.getD j 0 < q := by intro j hj; rw [← hq]; exact getD_rise HP.out (by omega) hkB
        have hS2 := HSm.out (k + 1) (by omega)
        rw [hq] at d1 x0 x8 hs1
        rw [Int.toNat_natCast, ← HSS.out] at hs1
        rw [hs1] at hS2
        have HS1 := Lib.hid hs1
        have hq8 : q < 8 := by omega
        have hsh := shl_nat q hq8
        obtain ⟨z, hz⟩ : ∃ z : Nat, z = 2 ^ q := ⟨_, rfl⟩
        rw [← hz] at hsh hS2 HS1
        have HSH := Lib.hid hsh
        clear hsh
        have eq0 : decide ((q : Int) < 0) = false := by rw [decide_eq_false_iff_not]; omega
        have e7 : decide ((7 : Int) < (q : Int)) = false := by rw [decide_eq_false_iff_not]; omega
        by_cases hk0 : k = 0
        · obtain ⟨K, hK⟩ : ∃ K : Int, K = (k : Int) := ⟨_, rfl⟩
          have HK := Lib.hid hK
          have e9 : decide ((0 : Int) < K) = false := by rw [decide_eq_false_iff_not]; omega
          have g1 : (0 : Int) ≤ K := by omega
          have g2 : K < (n4 : Int) := by omega
          have g3 : K.toNat = k := by omega
          rw [← hK]
          clear hcs hlow hs1 hz HSS x0 x8 hr1 h3 h5 hq hk0 hK
          go_wp2
          go_quiet (fail)
          have hsh := HSH.out
          go_wp2
          go_roundw
          case rel => exact ⟨k + 1, S + z, by omega, by rw [HK.out]; go_num, by go_num, HS1.out.symm, by omega, hbl.trans ⟨rfl, rfl, rfl, Nat.le_refl _, fun _ _ => rfl⟩⟩
          case measure => simp [intOf]; omega
        · have d2 := hcs (k - 1) (by omega)
          have hlo := hlow (k - 1) (by omega)
          obtain ⟨y, hy⟩ : ∃ y, y = B.getD (k - 1) 0 := ⟨_, rfl⟩
          rw [← hy] at d2 hlo
          have e8 : decide ((q : Int) ≤ y) = false := by rw [decide_eq_false_iff_not]; omega
          have e9 : (0 : Int) < (k : Int) := by omega
          have e9' : 0 < k := by omega
          have g1 : (0 : Int) ≤ (k : Int) - 1 := by omega
          have g2 : (k : Int) - 1 < (n4 : Int) := by omega
          have g3 : ((k : Int) - 1).toNat = k - 1 := by omega
          clear hcs hlow hs1 hz HSS x0 x8 hr1 h3 h5 hq hy hk0
          go_wp2
          go_quiet (fail)
          have hsh := HSH.out
          go_wp2
          go_roundw
          case rel => exact ⟨k + 1, S + z, by omega, by go_num, by go_num, HS1.out.symm, by omega, hbl.trans ⟨rfl, rfl, rfl, Nat.le_refl _, fun _ _ => rfl⟩⟩
          case measure => simp [intOf]; omega
      · have hkn : k = n4 := by omega
        have HAL : Hid (∀ i, i ≤ L.length → hb L (sk L i) &&& S = hb L (sk L i)) := by
          intro i hi
          have := HAll.out i hi
          rw [← HB.out, ← hkn, ← HSS.out] at this; exact this
        clear HSS hkn
        go_wp2
        go_loopw [9] (fun ii wr => ∃ i : Nat, i ≤ n2 ∧ ii = .int .i64 i ∧ Below w1.heap.size w1 wr) (fun ii _ => n2 - (intOf ii).toNat)
        case atStart => exact ⟨0, by omega, rfl, hbl⟩
        case round =>
          clear hlt hbl
          obtain ⟨i, hi, rfl, hbl⟩ := hrel
          by_cases hlt : i < n2
          · have hiL : i < L.length := by rw [← HL.out]; exact hlt
            obtain ⟨b1, o1, p1, p2, p3, rfl, hB1, hx, hc1, hc2, hc3⟩ := (hr1.below hbl).at_ hlt
            have HX := Lib.hid (at_some hx)
            obtain ⟨b2, o2, rfl, hcs⟩ := row_cells (h3.below hbl) (by omega)
            have d1 := hcs i hlt
            rw [hdL_at hiL] at d1
            have hv8 := hb_lt H8.out (sk L i)
            have hal := HAL.out i (by omega)
            have HAN : Hid (∀ a : Int, 0 ≤ a → (hb L (sk L i) &&& 2 ^ a.toNat == 0) = !lkd L (sk L i) a) := fun a ha => hb_and H8.out (sk L i) ha
            obtain ⟨v, hv⟩ : ∃ v, v = hb L (sk L i) := ⟨_, rfl⟩
            rw [← hv] at d1 hv8 hal HAN
            have han := i64_and_small v S (by omega) (by omega)
            rw [hal] at han
            have e0 : decide ((v : Int) < 0) = false := by rw [decide_eq_false_iff_not]; omega
            clear hx hc3 hcs hv hal
            by_cases hg : p1 = 17 ∨ p1 = 18
            · have hq8 := right_lock (can_right HC.out hiL) (by rw [HX.out]; simp; omega)
              have hlk := held_get HBD.out hiL (by rw [HX.out]; exact hg)
              rw [HX.out] at hq8 hlk
              obtain ⟨q, rfl⟩ : ∃ q : Nat, p2 = q := ⟨p2.toNat, by simp at hq8; omega⟩
              have hq : q < 8 := by simp at hq8; omega
              have h2 := HAN.out (q : Int) (by omega)
              rw [hlk, Int.toNat_natCast] at h2
              have hsh := shl_nat q hq
              have hp8 := pow8 hq
              obtain ⟨z, hz⟩ : ∃ z : Nat, z = 2 ^ q := ⟨_, rfl⟩
              rw [← hz] at hsh h2 hp8
              have han2 := i64_and_small v z (by omega) (by omega)
              obtain ⟨u, hu⟩ : ∃ u : Nat, u = v &&& z := ⟨_, rfl⟩
              rw [← hu] at han2 h2
              have f1 : ((u : Int) == 0) = false := by simpa using h2
              clear hq8 hlk hz hu h2 HX HAN hr1 h3 h5
              rcases hg with rfl | rfl
              all_goals
                go_wp2
                go_quiet (fail)
                go_wp2
                go_roundw
                case rel => exact ⟨i + 1, by omega, by go_num, hbl.trans ⟨rfl, rfl, rfl, Nat.le_refl _, fun _ _ => rfl⟩⟩
                case measure => simp [intOf]; omega
            · have e17 : (p1 == 17) = false := by rw [beq_eq_false_iff_ne]; omega
              have e18 : (p1 == 18) = false := by rw [beq_eq_false_iff_ne]; omega
              clear HX hg HAN hr1 h3 h5
              go_wp2
              go_quiet (fail)
              go_wp2
              go_roundw
              case rel => exact ⟨i + 1, by omega, by go_num, hbl.trans ⟨rfl, rfl, rfl, Nat.le_refl _, fun _ _ => rfl⟩⟩
              case measure => simp [intOf]; omega
          · have K := Lib.hid (known_any wr (HN.out.below (keep_below HG.out hbl)))
            obtain ⟨b2, o2, rfl, hcs⟩ := row_cells (h3.below hbl) (by omega)
            have d1 := hcs (n2 - 1) (by omega)
            rw [hdL_at (by rw [← HL.out]; omega), HE.out] at d1
            have d2 : wr.cell? ⟨b2, o2 + (n2 - 1), none⟩ = some (.int .i64 0) := d1
            have g1 : (0 : Int) ≤ (n2 : Int) - 1 := by omega
            have g2 : (n2 : Int) - 1 < (n2 : Int) := by omega
            have g3 : ((n2 : Int) - 1).toNat = n2 - 1 := by omega
            clear hr1 h3 h5 hcs d1
            go_wp2_with (go_at_call 10; refine K.out.mono ?_; rintro e w3 ⟨rfl, hb3⟩)
            go_ret
            exact ⟨rfl, keep_below (keep_below HG.out hbl) hb3⟩
  · have hlA : lA L = [] := by unfold lA; rw [if_neg h0]
    obtain ⟨x, hx⟩ : ∃ x, x = lE L := ⟨_, rfl⟩
    rw [hlA, ← hx] at cl
    have e1 : (x != 0) = true := by rw [hx]; simpa using h0
    have e2 : (x == 0) = false := by rw [hx]; simpa using h0
    have C := Lib.hid cl
    clear cl h0 hx hlA hr
    go_enter Tryd.func6, Tryd.ntmps6
    go_wp2_with fail
    refine C.out.mono ?_
    rintro e w1 ⟨a2, n2, c2, rfl, h3, hb⟩
    obtain rfl : n2 = 0 := h3.1
    go_wp2_with fail
    refine (known_any w1 (HN.out.below hb)).mono ?_
    rintro e w3 ⟨rfl, hb3⟩
    go_wp2
    go_ret
    exact ⟨rfl, keep_below hb hb3⟩
end Go.Proofs.YtncnofcgpiaadaaDoor
