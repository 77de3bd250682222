/- What is proved here: the walk of the law OpBack. Conditions: none beyond those each theorem states. -/
import Derived.Test.YtmahpmoaicjcjaaDoorKnown
namespace Go.Proofs.YtmahpmoaicjcjaaDoor
open Go.ChangeShapes Go.WideShapes Go.RowKit

theorem code_as {a : Option Addr} {n c : Nat} {L : List (Int × Int × Int)} (hf : AllFitI L) : ∃ T : ByteArray, T.data.toList = cod L ∧ ∀ w, RowI w a n L → Nms w → Calls Tryd.prog 24 #[.slice a n c] w fun e w' => e = .returned (.string T) ∧ Below w.heap.size w w' :=
  ⟨bs (cod L), bs_data _, fun w hr hn => code_any a n c L w hr hf hn⟩
theorem rd_empty : rd [] = ([], 0) := by decide +kernel

set_option maxHeartbeats 8000000 in
set_option maxRecDepth 100000 in
theorem back_walk (a b : Option Addr) (n c m d : Nat) (L M : List (Int × Int × Int)) (s : ByteArray) (w : World) (hr : RowI w a n L) (hr2 : RowI w b m M) (hf : AllFitI L) (hf2 : AllFitI M) (hs : s.size ≤ maxLen) (hnm : n ≤ maxLen) (hmm : m ≤ maxLen) (hn : Nms w) :
    Calls Tryd.prog 5 #[.slice a n c, .slice b m d, .string s] w fun e w' => e = .returned (.bool true) ∧ Below w.heap.size w w' := by
  replace hs : s.size ≤ 9223372036854775807 := hs
  replace hnm : n ≤ 9223372036854775807 := hnm
  replace hmm : m ≤ 9223372036854775807 := hmm
  have HN := Lib.hid hn
  have G := Below.refl w.heap.size w
  clear hn
  by_cases hbig : 250 < n ∨ 250 < m ∨ 3000 < s.size
  · rcases (show 250 < n ∨ (n ≤ 250 ∧ 250 < m) ∨ (n ≤ 250 ∧ m ≤ 250 ∧ 3000 < s.size) by omega) with h | ⟨h, h'⟩ | ⟨h, h', h''⟩
    all_goals
      clear hbig
      go_enter Tryd.func5, Tryd.ntmps5
      go_wp2_with (go_at_call 18; refine (known_any _ HN.out).mono ?_; rintro e w' ⟨rfl, hb⟩)
      go_ret
      exact ⟨rfl, hb⟩
  have hn2 : n ≤ 250 := by omega
  have hm2 : m ≤ 250 := by omega
  have hs2 : s.size ≤ 3000 := by omega
  clear hbig hs hnm hmm
  obtain ⟨T, hT, cT⟩ := code_as (a := a) (n := n) (c := c) hf
  obtain ⟨U, hU, cU⟩ := code_as (a := b) (n := m) (c := d) hf2
  have hTl : T.size ≤ 4200 := by rw [Lib.size_eq, hT]; exact cod_len hf
  have cX := fun W h => read_any T (by omega) W h
  have cY := fun W h => read_any s (by omega) W h
  obtain ⟨⟨X, E⟩, hX⟩ : ∃ r, rd T.data.toList = r := ⟨_, rfl⟩
  obtain ⟨⟨Y, F⟩, hY⟩ : ∃ r, rd s.data.toList = r := ⟨_, rfl⟩
  have hXl := rd_len T.data.toList
  have hYl := rd_len s.data.toList
  rw [hX] at cX hXl
  rw [hY] at cY hYl
  simp only at hXl hYl
  have CT := Lib.hid cT
  have CU := Lib.hid cU
  have CX := Lib.hid cX
  have CY := Lib.hid cY
  have HX := Lib.hid hX
  have HY := Lib.hid hY
  have HT := Lib.hid hT
  have HU := Lib.hid hU
  have HR := Lib.hid hr
  have HR2 := Lib.hid hr2
  have HF := Lib.hid hf
  have HF2 := Lib.hid hf2
  have HL := Lib.hid hr.1
  have HM := Lib.hid hr2.1
  clear cT cU cX cY hX hY hT hU hf hf2 hr hr2
  go_enter Tryd.func5, Tryd.ntmps5
  go_wp2_with fail
  refine (CT.out _ HR.out HN.out).mono ?_; rintro e w1 ⟨rfl, hb⟩
  replace G := G.trans (hb.mono G.size); clear hb
  go_wp2_with fail
  refine (CU.out _ (HR2.out.below G) (HN.out.below G)).mono ?_; rintro e w2 ⟨rfl, hb⟩
  replace G := G.trans (hb.mono G.size); clear hb
  go_wp2_with fail
  refine (CX.out _ (HN.out.below G)).mono ?_; rintro e w3 ⟨aX, nX, cX, rfl, hRX, hb⟩
  replace G := G.trans (hb.mono G.size); clear hb
  go_wp2_with fail
  refine (CY.out _ (HN.out.below G)).mono ?_; rintro e w4 ⟨aY, nY, cY, rfl, hRY, hb⟩
  replace G := G.trans (hb.mono G.size)
  have HRX := Lib.hid (hRX.below hb)
  have HRY := Lib.hid hRY
  have hnX : nX ≤ 200 := by have e1 : nX = X.length := hRX.1; omega
  have hnY : nY ≤ 200 := by have e1 : nY = Y.length := hRY.1; omega
  clear hb hRX hRY CT CU CX CY hXl hYl
  go_wp2
  go_loopw [13, 14] (fun al i wr => ∃ (k : Nat) (z : Bool), k ≤ n ∧ i = .int .i64 k ∧ al = .bool z ∧ Hid (z = (decide (n ≤ 200) && allR (L.take k))) ∧ Below w4.heap.size w4 wr) (fun _ i _ => n - (intOf i).toNat)
  case atStart => exact ⟨0, _, by omega, rfl, rfl, (by simp [allR]; try omega : _ = _), Below.refl _ _⟩
  case round =>
    obtain ⟨k, z, hk, rfl, rfl, HZ, hbl⟩ := hrel
    have G5 := G.trans (hbl.mono G.size)
    by_cases hlt : k < n
    · obtain ⟨b1, o1, p1, p2, p3, rfl, hB1, hx, hc1, hc2, hc3⟩ := (HR.out.below G5).at_ hlt
      cases z
      · have HZ2 : Hid (false = (decide (n ≤ 200) && allR (L.take (k + 1)))) := by
          show _ = _
          rw [List.take_add_one, allR_append, ← Bool.and_assoc, ← HZ.out]; rfl
        clear hx HZ
        go_wp2
        go_roundw
        case rel => exact ⟨k + 1, false, by omega, by go_num, rfl, HZ2, hbl⟩
        case measure => simp [intOf]; omega
      · have HZ2 : Hid (right (p1, p2, p3) = (decide (n ≤ 200) && allR (L.take (k + 1)))) := by
          show _ = _
          rw [List.take_add_one, allR_append, ← Bool.and_assoc, ← HZ.out, hx]; simp [allR]
        have CR := Lib.hid (right_any p1 p2 p3 wr (HN.out.below G5))
        obtain ⟨r, hrr⟩ : ∃ r, r = right (p1, p2, p3) := ⟨_, rfl⟩
        rw [← hrr] at CR HZ2
        clear hx HZ hrr
        go_wp2_with (go_at_call 10; refine CR.out.mono ?_; rintro e w5 ⟨rfl, hb⟩)
        go_roundw
        case rel => exact ⟨k + 1, r, by omega, by go_num, rfl, HZ2, hbl.trans (hb.mono hbl.size)⟩
        case measure => simp [intOf]; omega
    · have HZ2 : Hid (z = (decide (n ≤ 200) && allR L)) := by
        show _ = _
        rw [HZ.out, List.take_of_length_le (by rw [← HL.out]; omega)]
      clear HZ
      replace G := G5
      have HRX2 := Lib.hid (HRX.out.below hbl)
      have HRY2 := Lib.hid (HRY.out.below hbl)
      clear hbl HRX HRY G5
      obtain ⟨R, hRd⟩ : ∃ R, decide (L = M) = R := ⟨_, rfl⟩
      have HD := Lib.hid hRd
      clear hRd
      cases z
      · have hT0 : T.toList = [] := by
          rw [Lib.toList_data, HT.out]
          have hz := HZ2.out
          cases h1 : allR L
          · exact cod_wrong h1
          · rw [h1, Bool.and_true] at hz
            exact cod_long (by have := of_decide_eq_false hz.symm; rw [← HL.out]; omega)
        have hT1 : (T.toList == []) = true := by rw [hT0]; rfl
        have hT2 : T.toList.isEmpty = true := by rw [hT0]; rfl
        clear HZ2
        by_cases hF : F = 0
        · subst hF
          have HYs : Hid (cod Y = s.data.toList) := by
            obtain ⟨y1, y2, _, y4⟩ := rd_back HY.out
            show _ = _
            rw [cod_right y1 y2, y4]
          go_wp2_with fail
          refine (code_at (rd_back HY.out).2.2.1 HYs.out _ HRY2.out (HN.out.below G)).mono ?_; rintro e w6 ⟨rfl, hb⟩
          replace G := G.trans (hb.mono G.size); replace HRX2 := Lib.hid (HRX2.out.below hb); clear hb
          go_wp2_with fail
          refine (same_at (r := R) _ HD.out (HR.out.below G) (HR2.out.below G) (by omega) (by omega)).mono ?_; rintro e w8 ⟨rfl, hb⟩
          replace G := G.trans (hb.mono G.size); clear hb
          go_wp2_with fail
          refine (sameR_at (r := R) _ HD.out (HR.out.below G) (HR2.out.below G) (by omega) (by omega)).mono ?_; rintro e w9 ⟨rfl, hb⟩
          replace G := G.trans (hb.mono G.size); clear hb
          go_wp2_with fail
          refine (known_any _ (HN.out.below G)).mono ?_; rintro e w11 ⟨rfl, hb⟩
          replace G := G.trans (hb.mono G.size); clear hb
          go_wp2
          go_ret
          exact ⟨rfl, G⟩
        · have f1 : (F == 0) = false := by rw [beq_eq_false_iff_ne]; exact hF
          clear hF
          go_wp2_with fail
          refine (same_at (r := R) _ HD.out (HR.out.below G) (HR2.out.below G) (by omega) (by omega)).mono ?_; rintro e w8 ⟨rfl, hb⟩
          replace G := G.trans (hb.mono G.size); clear hb
          go_wp2_with fail
          refine (sameR_at (r := R) _ HD.out (HR.out.below G) (HR2.out.below G) (by omega) (by omega)).mono ?_; rintro e w9 ⟨rfl, hb⟩
          replace G := G.trans (hb.mono G.size); clear hb
          go_wp2_with fail
          refine (known_any _ (HN.out.below G)).mono ?_; rintro e w11 ⟨rfl, hb⟩
          replace G := G.trans (hb.mono G.size); clear hb
          go_wp2
          go_ret
          exact ⟨rfl, G⟩
      · have hz := HZ2.out
        rw [eq_comm, Bool.and_eq_true, decide_eq_true_iff] at hz
        have hz1 : L.length ≤ 200 := by rw [← HL.out]; exact hz.1
        have hXL : (X, E) = (L, 0) := by
          rw [← HX.out, HT.out, cod_right hz1 hz.2]
          exact rd_flat hz.2 HF.out hz1
        have hX1 : L = X := (congrArg Prod.fst hXL).symm
        have hE1 : E = 0 := congrArg Prod.snd hXL
        subst hX1 hE1
        clear HZ2 hz hz1 hXL HX
        by_cases hTe : cod L = []
        · have hT0 : T.toList = [] := by rw [Lib.toList_data, HT.out, hTe]
          have hT1 : (T.toList == []) = true := by rw [hT0]; rfl
          have hT2 : T.toList.isEmpty = true := by rw [hT0]; rfl
          clear hTe
          by_cases hF : F = 0
          · subst hF
            have HYs : Hid (cod Y = s.data.toList) := by
              obtain ⟨y1, y2, _, y4⟩ := rd_back HY.out
              show _ = _
              rw [cod_right y1 y2, y4]
            go_wp2_with fail
            refine (code_at (rd_back HY.out).2.2.1 HYs.out _ HRY2.out (HN.out.below G)).mono ?_; rintro e w6 ⟨rfl, hb⟩
            replace G := G.trans (hb.mono G.size); replace HRX2 := Lib.hid (HRX2.out.below hb); clear hb
            go_wp2_with fail
            refine (same_at (r := true) _ (by simp) HRX2.out (HR.out.below G) (by omega) (by omega)).mono ?_; rintro e w7 ⟨rfl, hb⟩
            replace G := G.trans (hb.mono G.size); clear hb
            go_wp2_with fail
            refine (same_at (r := R) _ HD.out (HR.out.below G) (HR2.out.below G) (by omega) (by omega)).mono ?_; rintro e w8 ⟨rfl, hb⟩
            replace G := G.trans (hb.mono G.size); clear hb
            go_wp2_with fail
            refine (sameR_at (r := R) _ HD.out (HR.out.below G) (HR2.out.below G) (by omega) (by omega)).mono ?_; rintro e w9 ⟨rfl, hb⟩
            replace G := G.trans (hb.mono G.size); clear hb
            go_wp2_with fail
            refine (known_any _ (HN.out.below G)).mono ?_; rintro e w11 ⟨rfl, hb⟩
            replace G := G.trans (hb.mono G.size); clear hb
            go_wp2
            go_ret
            exact ⟨rfl, G⟩
          · have f1 : (F == 0) = false := by rw [beq_eq_false_iff_ne]; exact hF
            clear hF
            go_wp2_with fail
            refine (same_at (r := true) _ (by simp) HRX2.out (HR.out.below G) (by omega) (by omega)).mono ?_; rintro e w7 ⟨rfl, hb⟩
            replace G := G.trans (hb.mono G.size); clear hb
            go_wp2_with fail
            refine (same_at (r := R) _ HD.out (HR.out.below G) (HR2.out.below G) (by omega) (by omega)).mono ?_; rintro e w8 ⟨rfl, hb⟩
            replace G := G.trans (hb.mono G.size); clear hb
            go_wp2_with fail
            refine (sameR_at (r := R) _ HD.out (HR.out.below G) (HR2.out.below G) (by omega) (by omega)).mono ?_; rintro e w9 ⟨rfl, hb⟩
            replace G := G.trans (hb.mono G.size); clear hb
            go_wp2_with fail
            refine (known_any _ (HN.out.below G)).mono ?_; rintro e w11 ⟨rfl, hb⟩
            replace G := G.trans (hb.mono G.size); clear hb
            go_wp2
            go_ret
            exact ⟨rfl, G⟩
        · have hT0 : ¬ T.toList = [] := by rw [Lib.toList_data, HT.out]; exact hTe
          have hT1 : (T.toList == []) = false := by simpa using hT0
          have hT2 : T.toList.isEmpty = false := by simpa using hT0
          by_cases hUe : cod M = []
          · have hU0 : U.toList = [] := by rw [Lib.toList_data, HU.out, hUe]
            have hU1 : (U.toList == []) = true := by rw [hU0]; rfl
            have hU2 : U.toList.isEmpty = true := by rw [hU0]; rfl
            clear hTe hUe
            by_cases hF : F = 0
            · subst hF
              have HYs : Hid (cod Y = s.data.toList) := by
                obtain ⟨y1, y2, _, y4⟩ := rd_back HY.out
                show _ = _
                rw [cod_right y1 y2, y4]
              go_wp2_with fail
              refine (code_at (rd_back HY.out).2.2.1 HYs.out _ HRY2.out (HN.out.below G)).mono ?_; rintro e w6 ⟨rfl, hb⟩
              replace G := G.trans (hb.mono G.size); replace HRX2 := Lib.hid (HRX2.out.below hb); clear hb
              go_wp2_with fail
              refine (same_at (r := true) _ (by simp) HRX2.out (HR.out.below G) (by omega) (by omega)).mono ?_; rintro e w7 ⟨rfl, hb⟩
              replace G := G.trans (hb.mono G.size); clear hb
              go_wp2_with fail
              refine (same_at (r := R) _ HD.out (HR.out.below G) (HR2.out.below G) (by omega) (by omega)).mono ?_; rintro e w8 ⟨rfl, hb⟩
              replace G := G.trans (hb.mono G.size); clear hb
              go_wp2_with fail
              refine (sameR_at (r := R) _ HD.out (HR.out.below G) (HR2.out.below G) (by omega) (by omega)).mono ?_; rintro e w9 ⟨rfl, hb⟩
              replace G := G.trans (hb.mono G.size); clear hb
              go_wp2_with fail
              refine (known_any _ (HN.out.below G)).mono ?_; rintro e w11 ⟨rfl, hb⟩
              replace G := G.trans (hb.mono G.size); clear hb
              go_wp2
              go_ret
              exact ⟨rfl, G⟩
            · have f1 : (F == 0) = false := by rw [beq_eq_false_iff_ne]; exact hF
              clear hF
              go_wp2_with fail
              refine (same_at (r := true) _ (by simp) HRX2.out (HR.out.below G) (by omega) (by omega)).mono ?_; rintro e w7 ⟨rfl, hb⟩
              replace G := G.trans (hb.mono G.size); clear hb
              go_wp2_with fail
              refine (same_at (r := R) _ HD.out (HR.out.below G) (HR2.out.below G) (by omega) (by omega)).mono ?_; rintro e w8 ⟨rfl, hb⟩
              replace G := G.trans (hb.mono G.size); clear hb
              go_wp2_with fail
              refine (sameR_at (r := R) _ HD.out (HR.out.below G) (HR2.out.below G) (by omega) (by omega)).mono ?_; rintro e w9 ⟨rfl, hb⟩
              replace G := G.trans (hb.mono G.size); clear hb
              go_wp2_with fail
              refine (known_any _ (HN.out.below G)).mono ?_; rintro e w11 ⟨rfl, hb⟩
              replace G := G.trans (hb.mono G.size); clear hb
              go_wp2
              go_ret
              exact ⟨rfl, G⟩
          · have hU0 : ¬ U.toList = [] := by rw [Lib.toList_data, HU.out]; exact hUe
            have hU1 : (U.toList == []) = false := by simpa using hU0
            have hU2 : U.toList.isEmpty = false := by simpa using hU0
            have hTU : (T.toList == U.toList) = R := by
              rw [Lib.toList_data, Lib.toList_data, HT.out, HU.out, ← HD.out, Bool.eq_iff_iff, beq_iff_eq, decide_eq_true_iff]
              exact ⟨fun h => cod_inj HF.out HF2.out hTe h, fun h => by rw [h]⟩
            clear hTe hUe
            by_cases hF : F = 0
            · subst hF
              have HYs : Hid (cod Y = s.data.toList) := by
                obtain ⟨y1, y2, _, y4⟩ := rd_back HY.out
                show _ = _
                rw [cod_right y1 y2, y4]
              go_wp2_with fail
              refine (code_at (rd_back HY.out).2.2.1 HYs.out _ HRY2.out (HN.out.below G)).mono ?_; rintro e w6 ⟨rfl, hb⟩
              replace G := G.trans (hb.mono G.size); replace HRX2 := Lib.hid (HRX2.out.below hb); clear hb
              go_wp2_with fail
              refine (same_at (r := true) _ (by simp) HRX2.out (HR.out.below G) (by omega) (by omega)).mono ?_; rintro e w7 ⟨rfl, hb⟩
              replace G := G.trans (hb.mono G.size); clear hb
              go_wp2_with fail
              refine (same_at (r := R) _ HD.out (HR.out.below G) (HR2.out.below G) (by omega) (by omega)).mono ?_; rintro e w8 ⟨rfl, hb⟩
              replace G := G.trans (hb.mono G.size); clear hb
              go_wp2_with fail
              refine (sameR_at (r := R) _ HD.out (HR.out.below G) (HR2.out.below G) (by omega) (by omega)).mono ?_; rintro e w9 ⟨rfl, hb⟩
              replace G := G.trans (hb.mono G.size); clear hb
              go_wp2_with fail
              refine (same_at (r := R) _ HD.out (HR.out.below G) (HR2.out.below G) (by omega) (by omega)).mono ?_; rintro e w10 ⟨rfl, hb⟩
              replace G := G.trans (hb.mono G.size); clear hb
              go_wp2_with fail
              refine (known_any _ (HN.out.below G)).mono ?_; rintro e w11 ⟨rfl, hb⟩
              replace G := G.trans (hb.mono G.size); clear hb
              go_wp2
              go_ret
              exact ⟨rfl, G⟩
            · have f1 : (F == 0) = false := by rw [beq_eq_false_iff_ne]; exact hF
              clear hF
              go_wp2_with fail
              refine (same_at (r := true) _ (by simp) HRX2.out (HR.out.below G) (by omega) (by omega)).mono ?_; rintro e w7 ⟨rfl, hb⟩
              replace G := G.trans (hb.mono G.size); clear hb
              go_wp2_with fail
              refine (same_at (r := R) _ HD.out (HR.out.below G) (HR2.out.below G) (by omega) (by omega)).mono ?_; rintro e w8 ⟨rfl, hb⟩
              replace G := G.trans (hb.mono G.size); clear hb
              go_wp2_with fail
              refine (sameR_at (r := R) _ HD.out (HR.out.below G) (HR2.out.below G) (by omega) (by omega)).mono ?_; rintro e w9 ⟨rfl, hb⟩
              replace G := G.trans (hb.mono G.size); clear hb
              go_wp2_with fail
              refine (same_at (r := R) _ HD.out (HR.out.below G) (HR2.out.below G) (by omega) (by omega)).mono ?_; rintro e w10 ⟨rfl, hb⟩
              replace G := G.trans (hb.mono G.size); clear hb
              go_wp2_with fail
              refine (known_any _ (HN.out.below G)).mono ?_; rintro e w11 ⟨rfl, hb⟩
              replace G := G.trans (hb.mono G.size); clear hb
              go_wp2
              go_ret
              exact ⟨rfl, G⟩
end Go.Proofs.YtmahpmoaicjcjaaDoor
