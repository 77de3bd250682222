/- What is proved here: the walk of the law TypesFlow. Condition: the table of names holds what its initialiser lays ('Nms'). -/
import Derived.Test.YtkkoekfdncoifaaDoorKnown
namespace Go.Proofs.YtkkoekfdncoifaaDoor
open Go.ChangeShapes Go.WideShapes Go.RowKit Go.Maps

set_option maxHeartbeats 8000000 in
set_option maxRecDepth 100000 in
theorem flow_walk (a : Option Addr) (n c : Nat) (L : List (Int × Int × Int)) (hmx : n ≤ maxLen) (w : World) (hN : Nms w) (hr : RowI w a n L) :
    Calls Tryd.prog 4 #[.slice a n c] w fun e w' => e = .returned (.bool true) ∧ Below w.heap.size w w' := by
  have hm63 : n ≤ 9223372036854775807 := hmx
  have HNm := Lib.hid hN
  have KN := Lib.hid (fun W (h : Below w.heap.size w W) => known_any W (HNm.out.below h))
  by_cases h200 : 200 < n
  · have e1 : decide ((200 : Int) < (n : Int)) = true := by rw [decide_eq_true_iff]; omega
    clear hr hN
    go_enter Tryd.func4, Tryd.ntmps4
    go_wp2_with (go_at_call 8; refine (KN.out _ (Below.refl _ _)).mono ?_; rintro e w1 ⟨rfl, hb1⟩)
    go_ret
    exact ⟨rfl, hb1⟩
  · have e1 : decide ((200 : Int) < (n : Int)) = false := by rw [decide_eq_false_iff_not]; omega
    have cs := stacks_any a n c L w hr hN
    unfold GotT at cs
    by_cases h0 : tE L = 0
    · have hP : tA L = tL L := by unfold tA; rw [if_pos h0]
      obtain ⟨hw0, her⟩ := tE_zero h0
      have hm0 := (wE_zero hw0).1
      have hln := can_len (mE_zero hm0).1
      rw [← hr.1] at hln
      have cm := fun W (h : Below w.heap.size w W) => match_any a n c L W (hr.below h) (HNm.out.below h)
      unfold GotL mA at cm
      rw [if_pos hm0, hm0] at cm
      rw [h0, hP] at cs
      have HT0 := Lib.hid h0
      have HW := Lib.hid hw0
      have HER := Lib.hid her
      have HL := Lib.hid hr.1
      have C := Lib.hid cs
      have CM := Lib.hid cm
      have ht0 : (tL L).getD 0 [] = [] := by rw [tL_at (by rw [← HL.out]; omega)]; rfl
      have HT := Lib.hid ht0
      clear cs cm h0 hP hw0 her hm0 hN h200 ht0
      go_enter Tryd.func4, Tryd.ntmps4
      go_wp2_with (first | (go_at_call 9; refine C.out.mono ?_; rintro e w1 ⟨a1, n1, c1, rfl, hr1, hb1⟩; obtain rfl : n = n1 := (by have := hr1.1; rw [tL_len, ← HL.out] at this; exact this.symm); obtain ⟨b1, o1, rfl, hB1, hc1⟩ := hr1.2 (by omega)) | (go_at_call 14; refine (CM.out _ hb1).mono ?_; rintro e w2 ⟨a2, n2, c2, rfl, hr2, hb2⟩; obtain rfl : n = n2 := (by have := hr2.1; rw [mL_len, ← HL.out] at this; exact this.symm); have x9 := keep_cell hb2 ((hc1 0 (by omega)).trans (by rw [HT.out])); clear hc1; rw [show o1 + 0 = o1 from rfl] at x9; have e9 : ((bs []).toList == []) = true := by rw [bs_toList]; rfl))
      have hr3 := hr1.below hb2
      have hbb := keep_below hb1 hb2
      obtain ⟨b2, o2, rfl, hB2, hcm⟩ := hr2.2 (by omega)
      have HR3 := Lib.hid hr3
      have HR2 := Lib.hid hr2
      clear x9 e9 hr1 hr2 hr3 hcm hb1 hb2 C CM HT
      go_loopw [7] (fun i wr => ∃ k : Nat, k ≤ n ∧ i = .int .i64 k ∧ Below w2.heap.size w2 wr) (fun i _ => n - (intOf i).toNat)
      case atStart => exact ⟨0, by omega, rfl, Below.refl _ _⟩
      case round =>
        obtain ⟨k, hk, rfl, hbl⟩ := hrel
        by_cases hlt : k < n
        · obtain ⟨b4, o4, p1, p2, p3, rfl, hB4, hx, hc1, hc2, hc3⟩ := (hr.below (keep_below hbb hbl)).at_ hlt
          have HX := Lib.hid (at_some hx)
          have HK : Hid (k < L.length) := by show _ < _; rw [← HL.out]; exact hlt
          have hri := can_right (mE_zero (wE_zero HW.out).1).1 HK.out
          rw [HX.out] at hri
          have HRi := Lib.hid hri
          have hz := (er_zero (HER.out k HK.out)).2.2
          rw [HX.out] at hz
          simp only at hz
          have hbz := bE_zero hz.2
          have hs16 := sf_len HT0.out HK.out
          obtain ⟨_, _, hra, hBs, hcs⟩ := (HR3.out.below hbl).2 (by omega)
          cases hra
          have cS : ∀ j, j < n → wr.cell? ⟨b1, o1 + j, none⟩ = some (.string (bs (sf L j))) := by
            intro j hj
            have := hcs j hj
            rw [tL_at (by rw [← HL.out]; exact hj)] at this; exact this
          have HCS := Lib.hid cS
          obtain ⟨_, _, hrm, hBm, hcm⟩ := (HR2.out.below hbl).2 (by omega)
          cases hrm
          have dm := hcm k hlt
          rw [mL_at HK.out] at dm
          have HDM := Lib.hid dm
          -- what it takes, and what is behind it
          have hti : tkI (p1, p2, p3) = tk p1 := by unfold tkI; rw [hri]; rfl
          obtain ⟨m, hm⟩ : ∃ m, m = (sf L k).length - (tk p1).length := ⟨_, rfl⟩
          have hgi : gvI (p1, p2, p3) ((sf L k).drop m) = gv p1 p2 ((sf L k).drop m) := by unfold gvI; rw [hm, hri, hbz.2.1]; simp
          have CT := fun W (h : Below w.heap.size w W) => takes_at hti W (HNm.out.below h)
          have CG := fun W (h : Below w.heap.size w W) => gives_at hgi (by rw [List.length_drop]; omega) W (HNm.out.below h)
          have eB : bh p1 p2 (sf L k) = (sf L k).take m ++ gv p1 p2 ((sf L k).drop m) := by unfold bh; rw [hm]
          have eK : (bs (sf L k)).extract m (bs (sf L k)).size = bs ((sf L k).drop m) := by rw [bs_extract, bs_size, List.take_length]
          have eL : (bs (sf L k)).extract 0 m = bs ((sf L k).take m) := by rw [bs_extract, List.drop_zero]
          have eC := bs_append ((sf L k).take m) (gv p1 p2 ((sf L k).drop m))
          rw [← eB] at eC
          have sS := bs_size (sf L k)
          have sT := bs_size (tk p1)
          have htl := tk_len p1
          have lG := gv_len p1 p2 ((sf L k).drop m)
          have sG := bs_size (gv p1 p2 ((sf L k).drop m))
          have sX := bs_size ((sf L k).take m)
          have lX : ((sf L k).take m).length ≤ 16 := by rw [List.length_take]; omega
          have lK : ((sf L k).drop m).length ≤ 16 := by rw [List.length_drop]; omega
          have HZB : Hid (∀ q, q ∈ nx L k → sf L q = bh p1 p2 (sf L k)) := by
            intro q hq
            have := flow hq (HER.out q (nx_lt HW.out HK.out hq))
            rw [HX.out] at this; exact this
          have HZL : Hid (∀ q, q ∈ nx L k → q < n) := fun q hq => by rw [HL.out]; exact nx_lt HW.out HK.out hq
          have hsk := hcs k hlt
          rw [tL_at HK.out] at hsk
          obtain ⟨S, hS⟩ : ∃ S, S = bs (sf L k) := ⟨_, rfl⟩
          obtain ⟨T, hT⟩ : ∃ T, T = bs (tk p1) := ⟨_, rfl⟩
          obtain ⟨X, hX⟩ : ∃ X, X = bs ((sf L k).take m) := ⟨_, rfl⟩
          obtain ⟨K, hK⟩ : ∃ K, K = bs ((sf L k).drop m) := ⟨_, rfl⟩
          obtain ⟨Y, hY⟩ : ∃ Y, Y = bs (gv p1 p2 ((sf L k).drop m)) := ⟨_, rfl⟩
          obtain ⟨Z, hZ⟩ : ∃ Z, Z = bs (bh p1 p2 (sf L k)) := ⟨_, rfl⟩
          rw [← hS] at hsk sS eK eL
          rw [← hT] at CT sT
          rw [← hX] at eL sX eC
          rw [← hK] at eK CG
          rw [← hY] at CG sG eC
          rw [← hZ] at eC
          have HS := Lib.hid hS
          have HZ := Lib.hid hZ
          have hw : IntKind.i64.wrap ((S.size : Int) - (T.size : Int)) = (m : Int) := by rw [IntWalk.i64_in _ (by omega)]; omega
          have hd0 : decide ((m : Int) < 0) = false := by rw [decide_eq_false_iff_not]; omega
          have hd1 : decide ((16 : Int) < (S.size : Int)) = false := by rw [decide_eq_false_iff_not]; omega
          have g1 : (0 : Int) ≤ (m : Int) := by omega
          have g2 : (m : Int) ≤ (S.size : Int) := by omega
          have hcat : ¬ (9223372036854775807 < X.size + Y.size) := by omega
          have f1 : (0 : Int) ≤ (k : Int) := by omega
          have f2 : (k : Int) < (n : Int) := by omega
          have HNX := Lib.hid hz.1
          have HCT := Lib.hid (CT wr (keep_below hbb hbl))
          have HCG := Lib.hid CG
          have hbw := keep_below hbb hbl
          clear CT CG eB sS sT htl lG sG sX lX lK hS hT hX hK hY hZ hz hbz hs16 hti hgi hm hri hcs hcm dm cS hx
          go_wp2_with (go_at_call 15; refine HCT.out.mono ?_; rintro e w4 ⟨rfl, hb4⟩; have y0 := keep_cell hb4 hc1; have y1 := keep_cell hb4 hc2; have y2 := keep_cell hb4 hc3; have ys := keep_cell hb4 hsk)
          have hb24 := keep_below hbw hb4
          go_region_held3 (fun W => W.cell? ⟨b1, o1 + k, none⟩ = some (.string S) ∧ W.cell? ⟨b4, o4 + k * 3, none⟩ = some (.int .i64 p1) ∧ W.cell? ⟨b4, o4 + k * 3 + 1, none⟩ = some (.int .i64 p2) ∧ W.cell? ⟨b4, o4 + k * 3 + 2, none⟩ = some (.int .i64 p3)) (first | exact ⟨ys, y0, y1, y2⟩ | exact ⟨keep_cell hb5 ys, keep_cell hb5 y0, keep_cell hb5 y1, keep_cell hb5 y2⟩ | assumption | go_keep) (first | (go_at_call 16; refine (HCG.out _ hb24.drew).mono ?_; rintro e w5 ⟨rfl, hb5⟩))
          have z0 := keep_cell hb5 y0
          have z1 := keep_cell hb5 y1
          have zs := keep_cell hb5 ys
          have hb25 := keep_below hb24.drew hb5
          have k5 : Keeps wr w5 := fun p v hp => keep_cell hb5 (keep_cell hb4.drew hp)
          have zm := k5 _ _ HDM.out
          have HZC : Hid (∀ q, q ∈ nx L k → w5.cell? ⟨b1, o1 + q, none⟩ = some (.string Z)) := by
            intro q hq
            have := k5 _ _ (HCS.out q (HZL.out q hq))
            rw [HZB.out q hq, ← HZ.out] at this; exact this
          have hb2w : Below w2.heap.size w2 w5 := keep_below (keep_below hbl hb4).drew hb5
          have ez : (Z.toList == Z.toList) = true := by simp
          have es : (S.toList == S.toList) = true := by simp
          by_cases h19 : p1 = 19
          · subst h19
            have hj := jump_small HW.out HK.out HX.out (Or.inl rfl)
            obtain ⟨x, rfl⟩ : ∃ x : Nat, p2 = x := ⟨p2.toNat, by omega⟩
            have hled : led L k = k + 1 + x := by unfold led; rw [HX.out]; simp
            have q2 : led L k ∈ nx L k := nx_leads (by rw [HX.out]; exact Or.inl rfl)
            have v1 := HZC.out _ q2
            have v2 := HZL.out _ q2
            rw [hled] at v1 v2
            have v3 : (0 : Int) ≤ (k : Int) + 1 + (x : Int) := by omega
            have v4 : (k : Int) + 1 + (x : Int) < (n : Int) := by omega
            have v5 : ((k : Int) + 1 + (x : Int)).toNat = k + 1 + x := by omega
            have v6 : IntKind.i64.wrap ((k : Int) + 1 + (x : Int)) = (k : Int) + 1 + (x : Int) := IntWalk.i64_in _ (by omega)
            have v7 : IntKind.i64.wrap ((k : Int) + 1) = (k : Int) + 1 := IntWalk.i64_in _ (by omega)
            clear hled q2
            clear hsk HCT HCG y0 y1 y2 ys hc1 hc2 hc3 k5 HDM HCS HZB HZL hw hd0 hd1 g1 g2 hcat eK eL eC
            go_wp2
            go_quiet (fail)
            go_wp2
            go_roundw
            case rel => exact ⟨k + 1, by omega, by go_num, hb2w.trans ⟨rfl, rfl, rfl, Nat.le_refl _, fun _ _ => rfl⟩⟩
            case measure => simp [intOf]; omega
          · by_cases h25 : p1 = 25
            · subst h25
              clear hsk HCT HCG y0 y1 y2 ys hc1 hc2 hc3 k5 HDM HCS HZB HZL hw hd0 hd1 g1 g2 hcat eK eL eC
              go_wp2
              go_quiet (fail)
              go_wp2
              go_roundw
              case rel => exact ⟨k + 1, by omega, by go_num, hb2w.trans ⟨rfl, rfl, rfl, Nat.le_refl _, fun _ _ => rfl⟩⟩
              case measure => simp [intOf]; omega
            · have q1 : k + 1 ∈ nx L k := nx_falls (by rw [HX.out]; exact h19) (by rw [HX.out]; exact h25)
              have u1 := HZC.out _ q1
              have u2 : k + 1 < n := HZL.out _ q1
              have u3 : (0 : Int) ≤ (k : Int) + 1 := by omega
              have u4 : (k : Int) + 1 < (n : Int) := by omega
              have u5 : ((k : Int) + 1).toNat = k + 1 := by omega
              have u6 : IntKind.i64.wrap ((k : Int) + 1) = (k : Int) + 1 := IntWalk.i64_in _ (by omega)
              rw [show o1 + (k + 1) = o1 + (k + 1) from rfl] at u1
              by_cases h20 : p1 = 20
              · subst h20
                have hj := jump_small HW.out HK.out HX.out (Or.inr rfl)
                obtain ⟨x, rfl⟩ : ∃ x : Nat, p2 = x := ⟨p2.toNat, by omega⟩
                have hled : led L k = k + 1 + x := by unfold led; rw [HX.out]; simp
                have q2 : led L k ∈ nx L k := nx_leads (by rw [HX.out]; exact Or.inr rfl)
                have v1 := HZC.out _ q2
                have v2 := HZL.out _ q2
                rw [hled] at v1 v2
                have v3 : (0 : Int) ≤ (k : Int) + 1 + (x : Int) := by omega
                have v4 : (k : Int) + 1 + (x : Int) < (n : Int) := by omega
                have v5 : ((k : Int) + 1 + (x : Int)).toNat = k + 1 + x := by omega
                have v6 : IntKind.i64.wrap ((k : Int) + 1 + (x : Int)) = (k : Int) + 1 + (x : Int) := IntWalk.i64_in _ (by omega)
                have v7 : IntKind.i64.wrap ((k : Int) + 1) = (k : Int) + 1 := IntWalk.i64_in _ (by omega)
                clear hled q2
                clear q1
                clear hsk HCT HCG y0 y1 y2 ys hc1 hc2 hc3 k5 HDM HCS HZB HZL hw hd0 hd1 g1 g2 hcat eK eL eC
                go_wp2
                go_quiet (fail)
                go_wp2
                go_roundw
                case rel => exact ⟨k + 1, by omega, by go_num, hb2w.trans ⟨rfl, rfl, rfl, Nat.le_refl _, fun _ _ => rfl⟩⟩
                case measure => simp [intOf]; omega
              · by_cases h22 : p1 = 22
                · subst h22
                  obtain ⟨t, ht1, ht2⟩ := mt_next HW.out HK.out (show (at_ L k).1 = 22 by rw [HX.out])
                  have htn : t < n := by omega
                  rw [ht1] at zm
                  have zt := k5 _ _ (HCS.out t htn)
                  have hst := HNX.out rfl
                  rw [ht1, Int.toNat_natCast] at hst
                  rw [← hst, ← HS.out] at zt
                  have t3 : (0 : Int) ≤ (t : Int) := by omega
                  have t4 : (t : Int) < (n : Int) := by omega
                  clear ht1 hst
                  clear q1
                  clear hsk HCT HCG y0 y1 y2 ys hc1 hc2 hc3 k5 HDM HCS HZB HZL hw hd0 hd1 g1 g2 hcat eK eL eC
                  go_wp2
                  go_quiet (fail)
                  go_wp2
                  go_roundw
                  case rel => exact ⟨k + 1, by omega, by go_num, hb2w.trans ⟨rfl, rfl, rfl, Nat.le_refl _, fun _ _ => rfl⟩⟩
                  case measure => simp [intOf]; omega
                · have e19 : (p1 != 19) = true := by simpa using h19
                  have e19' : (p1 == 19) = false := by simpa using h19
                  have e25 : (p1 != 25) = true := by simpa using h25
                  have e20 : (p1 == 20) = false := by simpa using h20
                  have e22 : (p1 == 22) = false := by simpa using h22
                  clear q1
                  clear hsk HCT HCG y0 y1 y2 ys hc1 hc2 hc3 k5 HDM HCS HZB HZL hw hd0 hd1 g1 g2 hcat eK eL eC
                  go_wp2
                  go_quiet (fail)
                  go_wp2
                  go_roundw
                  case rel => exact ⟨k + 1, by omega, by go_num, hb2w.trans ⟨rfl, rfl, rfl, Nat.le_refl _, fun _ _ => rfl⟩⟩
                  case measure => simp [intOf]; omega
        · have h9 := keep_below hbb hbl
          go_wp2_with (go_at_call 8; refine (KN.out _ h9).mono ?_; rintro e w3 ⟨rfl, hb3⟩)
          go_ret
          exact ⟨rfl, keep_below h9 hb3⟩
    · obtain ⟨x, hx⟩ : ∃ x, x = tE L := ⟨_, rfl⟩
      have hA : tA L = [] := by unfold tA; rw [if_neg h0]
      rw [hA] at cs
      rw [← hx] at cs h0
      have e2 : (x != 0) = true := by simpa using h0
      have e3 : (x == 0) = false := by simpa using h0
      have C := Lib.hid cs
      clear cs hr hN hx hA h200
      go_enter Tryd.func4, Tryd.ntmps4
      go_wp2_with (first | (go_at_call 9; refine C.out.mono ?_; rintro e w1 ⟨a1, n1, c1, rfl, hr1, hb1⟩; obtain rfl : n1 = 0 := hr1.1) | (go_at_call 8; refine (KN.out _ hb1).mono ?_; rintro e w3 ⟨rfl, hb3⟩))
      go_ret
      exact ⟨rfl, keep_below hb1 hb3⟩
end Go.Proofs.YtkkoekfdncoifaaDoor
