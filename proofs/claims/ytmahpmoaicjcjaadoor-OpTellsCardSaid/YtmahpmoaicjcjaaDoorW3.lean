/- What is proved here: the walk of the law OpCuts. Conditions: none beyond those each theorem states. -/
import Derived.Test.YtmahpmoaicjcjaaDoorW2
namespace Go.Proofs.YtmahpmoaicjcjaaDoor
open Go.ChangeShapes Go.WideShapes Go.RowKit

/-- How many bytes the first j instructions have. -/
def upto (L : List (Int × Int × Int)) (j : Nat) : Nat := (flatI (L.take j)).length
theorem upto_succ {L : List (Int × Int × Int)} {j : Nat} {x : Int × Int × Int} (h : L[j]? = some x) : upto L (j + 1) = upto L j + (encI x).length := by
  unfold upto; rw [flat_succI h, List.length_append]
theorem flat_splitI (L : List (Int × Int × Int)) (j : Nat) : flatI L = flatI (L.take j) ++ flatI (L.drop j) := by
  rw [← flatI_append, List.take_append_drop]
theorem allR_part {L : List (Int × Int × Int)} (h : allR L = true) (j : Nat) : allR (L.take j) = true := by
  have := h
  rw [← List.take_append_drop j L, allR_append, Bool.and_eq_true] at this
  exact this.1
theorem allR_mem {L : List (Int × Int × Int)} (h : allR L = true) {j : Nat} {x : Int × Int × Int} (hx : L[j]? = some x) : right x = true := by
  unfold allR at h
  exact List.all_eq_true.1 h x (List.mem_of_getElem? hx)
theorem fit_part {L : List (Int × Int × Int)} (h : AllFitI L) (j : Nat) : AllFitI (L.take j) := fun i hi => h i (List.mem_of_mem_take hi)
/-- At the end of one they are those ahead. -/
theorem cut_end {L : List (Int × Int × Int)} (hr : allR L = true) (hf : AllFitI L) (hl : L.length ≤ 200) {j K : Nat} (h : upto L j = K) : rd ((flatI L).take K) = (L.take j, 0) := by
  rw [flat_splitI L j, List.take_append_of_le_length (by unfold upto at h; omega), List.take_of_length_le (by unfold upto at h; omega)]
  exact rd_flat (allR_part hr j) (fit_part hf j) (by rw [List.length_take]; omega)
/-- In the middle of one it is short. -/
theorem cut_mid {L : List (Int × Int × Int)} (hr : allR L = true) (hf : AllFitI L) (hl : L.length ≤ 200) {j K : Nat} {x : Int × Int × Int} (hx : L[j]? = some x) (h1 : upto L j < K) (h2 : K < upto L j + (encI x).length) : rd ((flatI L).take K) = ([], 2) := by
  have hj : j < L.length := (List.getElem?_eq_some_iff.1 hx).1
  have e : flatI L = flatI (L.take j) ++ (encI x ++ flatI (L.drop (j + 1))) := by
    have hd : L.drop j = x :: L.drop (j + 1) := by
      rw [List.drop_eq_getElem_cons hj, (List.getElem?_eq_some_iff.1 hx).2]
    rw [flat_splitI L j, hd, flatI_cons]
  have e2 : (flatI L).take K = flatI (L.take j) ++ (encI x).take (K - upto L j) := by
    rw [e, List.take_append, List.take_of_length_le (by unfold upto at h1; omega), List.take_append_of_le_length (by unfold upto at h1 h2; omega)]
    rfl
  rw [e2]
  exact rd_cut (allR_part hr j) (fit_part hf j) (by rw [List.length_take]; omega) (allR_mem hr hx) (hf x (List.mem_of_getElem? hx)) (by omega) (by omega)
theorem upto_all {L : List (Int × Int × Int)} : upto L L.length = (flatI L).length := by unfold upto; rw [List.take_length]
theorem cod_ne {L : List (Int × Int × Int)} (h : cod L ≠ []) : L.length ≤ 200 ∧ allR L = true ∧ cod L = flatI L := by
  unfold cod at h ⊢
  split at h
  · rename_i hc; rw [if_pos hc]; exact ⟨hc.1, hc.2, rfl⟩
  · exact absurd rfl h
theorem RowI.take {w : World} {a : Option Addr} {n : Nat} {L : List (Int × Int × Int)} (h : RowI w a n L) {j : Nat} (hj : j ≤ n) : RowI w a j (L.take j) := by
  refine ⟨by have := h.1; rw [List.length_take]; omega, fun h0 => ?_⟩
  obtain ⟨b, off, e, hlt, hc⟩ := h.2 (by omega)
  refine ⟨b, off, e, hlt, fun i hi => ?_⟩
  have := hc i (by omega)
  have e1 : (L.take j).getD i (0, 0, 0) = L.getD i (0, 0, 0) := by
    rw [List.getD_eq_getElem?_getD, List.getD_eq_getElem?_getD, List.getElem?_take_of_lt hi]
  rw [e1]; exact this

set_option maxHeartbeats 8000000 in
set_option maxRecDepth 100000 in
theorem cuts_walk (a : Option Addr) (n c x : Nat) (L : List (Int × Int × Int)) (w : World) (hr : RowI w a n L) (hf : AllFitI L) (hnc : n ≤ c) (hcm : c ≤ maxLen) (hx : x < 65536) (hn : Nms w) :
    Calls Tryd.prog 8 #[.slice a n c, .int .u16 x] w fun e w' => e = .returned (.bool true) ∧ Below w.heap.size w w' := by
  replace hcm : c ≤ 9223372036854775807 := hcm
  have HN := Lib.hid hn
  have G := Below.refl w.heap.size w
  clear hn
  by_cases hbig : 100 < n
  · go_enter Tryd.func8, Tryd.ntmps8
    go_wp2_with (go_at_call 18; refine (known_any _ HN.out).mono ?_; rintro e w' ⟨rfl, hb⟩)
    go_ret
    exact ⟨rfl, hb⟩
  have hn2 : n ≤ 100 := by omega
  clear hbig
  obtain ⟨T, hT, cT⟩ := code_as (a := a) (n := n) (c := c) hf
  have CT := Lib.hid cT
  have HR := Lib.hid hr
  have HF := Lib.hid hf
  have HL := Lib.hid hr.1
  clear cT hf hr
  by_cases hTe : cod L = []
  · have hT0 : T.toList = [] := by rw [Lib.toList_data, hT, hTe]
    have hT1 : (T.toList == []) = true := by rw [hT0]; rfl
    have hT2 : T.toList.isEmpty = true := by rw [hT0]; rfl
    clear hTe hT
    go_enter Tryd.func8, Tryd.ntmps8
    go_wp2_with fail
    refine (CT.out _ HR.out HN.out).mono ?_; rintro e w1 ⟨rfl, hb⟩
    replace G := G.trans (hb.mono G.size); clear hb
    go_wp2_with fail
    refine (known_any _ (HN.out.below G)).mono ?_; rintro e w11 ⟨rfl, hb⟩
    replace G := G.trans (hb.mono G.size); clear hb
    go_wp2
    go_ret
    exact ⟨rfl, G⟩
  obtain ⟨hl2, hal, hcod⟩ := cod_ne hTe
  have hT0 : ¬ T.toList = [] := by rw [Lib.toList_data, hT]; exact hTe
  have hT1 : (T.toList == []) = false := by simpa using hT0
  have hT2 : T.toList.isEmpty = false := by simpa using hT0
  rw [hcod] at hT
  have hTl : T.size ≤ 4200 := by rw [Lib.size_eq, hT]; have := flatI_len HF.out; omega
  obtain ⟨K, hK, hK2⟩ : ∃ K : Nat, (x : Int) % ((T.size : Int) + 1) = (K : Int) ∧ K ≤ T.size := ⟨x % (T.size + 1), by rw [Int.natCast_emod]; rfl, Nat.le_of_lt_succ (Nat.mod_lt x (Nat.succ_pos _))⟩
  have HT := Lib.hid hT
  have HA := Lib.hid hal
  have hl3 := hl2
  clear hT hTe hcod hal hl2
  obtain ⟨⟨X, E⟩, hX⟩ : ∃ r, rd ((flatI L).take K) = r := ⟨_, rfl⟩
  have HX := Lib.hid hX
  obtain ⟨V, hV⟩ : ∃ V, V = T.extract 0 K := ⟨_, rfl⟩
  have hVl : V.data.toList = (flatI L).take K := by rw [hV, take_of_extract, HT.out]
  have hVs : V.size ≤ 4200 := by rw [Lib.size_eq, hVl, List.length_take]; have := HT.out; rw [← this, ← Lib.size_eq]; omega
  have cX := fun W h => read_at (s := V) (by omega) (show rd V.data.toList = (X, E) by rw [hVl]; exact hX) W h
  rw [hV] at cX
  have CX := Lib.hid cX
  clear cX hV hVl hVs hX
  go_enter Tryd.func8, Tryd.ntmps8
  go_wp2_with fail
  refine (CT.out _ HR.out HN.out).mono ?_; rintro e w1 ⟨rfl, hb⟩
  replace G := G.trans (hb.mono G.size); clear hb
  go_wp2_with fail
  refine (CX.out _ (HN.out.below G)).mono ?_; rintro e w2 ⟨aX, nX, cX, rfl, hRX, hb⟩
  replace G := G.trans (hb.mono G.size)
  have HRX := Lib.hid hRX
  have hnX : Hid (nX = X.length) := hRX.1
  have hXl : X.length ≤ 200 := by
    have h1 := rd_len ((flatI L).take K)
    rw [HX.out] at h1
    exact h1
  clear hb hRX CT CX hT1 hT2 hT0
  go_wp2
  go_loopw [9, 10] (fun t i wr => ∃ j : Nat, j ≤ n ∧ i = .int .i64 j ∧ t = .int .i64 (upto L j) ∧ upto L j ≤ K ∧ Below w2.heap.size w2 wr) (fun _ i _ => n - (intOf i).toNat)
  case atStart => exact ⟨0, by omega, rfl, by simp [upto, flatI], by simp [upto, flatI], Below.refl _ _⟩
  case round =>
    obtain ⟨j, hj, rfl, rfl, hu, hbl⟩ := hrel
    have G5 := G.trans (hbl.mono G.size)
    have HRX2 := Lib.hid (HRX.out.below hbl)
    have hnX2 : nX ≤ 200 := by rw [hnX.out]; exact hXl
    by_cases hlt : j < n
    · obtain ⟨b1, o1, p1, p2, p3, rfl, hB1, hxj, hc1, hc2, hc3⟩ := (HR.out.below G5).at_ hlt
      have hfx : FitsI (p1, p2, p3) := HF.out _ (List.mem_of_getElem? hxj)
      have hus := upto_succ hxj
      have hel : (encI (p1, p2, p3)).length ≤ 21 := encI_len hfx
      have hmid := cut_mid (K := K) HA.out HF.out hl3 hxj
      obtain ⟨S, hS⟩ : ∃ S, S = bs (encI (p1, p2, p3)) := ⟨_, rfl⟩
      have hSl : S.size = (encI (p1, p2, p3)).length := by rw [hS, bs_size]
      have ce := fun W h => encode_any p1 p2 p3 W h hfx
      rw [← hS] at ce
      have CE := Lib.hid ce
      rw [← hSl] at hus hel hmid
      rw [HX.out] at hmid
      obtain ⟨A, hA⟩ : ∃ A, A = upto L j := ⟨_, rfl⟩
      rw [← hA] at hus hmid hu ⊢
      have HAe := Lib.hid hA
      have HUS := Lib.hid hus
      have HM := Lib.hid hmid
      clear ce hS hSl hxj hfx hus hA hmid
      by_cases hgo : A + S.size ≤ K
      · go_wp2_with fail
        refine (CE.out _ (HN.out.below G5)).mono ?_; rintro e w5 ⟨rfl, hb⟩
        have hcc := fun o => hb.cell (p := ⟨b1, o, none⟩) hB1
        have hd1 := (hcc _).trans hc1
        have hd2 := (hcc _).trans hc2
        have hd3 := (hcc _).trans hc3
        replace G5 := G5.trans (hb.mono G5.size)
        replace hbl := hbl.trans (hb.mono hbl.size)
        clear hb hcc hc1 hc2 hc3
        go_wp2_with fail
        refine (CE.out _ (HN.out.below G5)).mono ?_; rintro e w6 ⟨rfl, hb⟩
        replace hbl := hbl.trans (hb.mono hbl.size)
        clear hb
        go_wp2
        go_roundw
        case rel => exact ⟨j + 1, by omega, by go_num, by rw [HUS.out]; go_num, by rw [HUS.out]; exact hgo, hbl⟩
        case measure => simp [intOf]; omega
      · by_cases hAK : A = K
        · have HAK := Lib.hid hAK
          have hXE : (X, E) = (L.take j, 0) := by
            rw [← HX.out]; exact cut_end HA.out HF.out hl3 (by rw [← HAe.out]; exact hAK)
          have hX1 : X = L.take j := congrArg Prod.fst hXE
          have hE1 : E = 0 := congrArg Prod.snd hXE
          subst hX1 hE1
          clear hXE HX hnX hXl
          subst hAK
          clear HAK HM HUS
          go_wp2_with fail
          refine (CE.out _ (HN.out.below G5)).mono ?_; rintro e w5 ⟨rfl, hb⟩
          replace G5 := G5.trans (hb.mono G5.size); replace HRX2 := Lib.hid (HRX2.out.below hb); clear hb
          go_wp2_with fail
          refine (sameR_at (r := true) _ (by simp) HRX2.out ((HR.out.below G5).take hj) (by omega) (by omega)).mono ?_; rintro e w6 ⟨rfl, hb⟩
          replace G5 := G5.trans (hb.mono G5.size); clear hb
          go_wp2_with fail
          refine (known_any _ (HN.out.below G5)).mono ?_; rintro e w7 ⟨rfl, hb⟩
          replace G5 := G5.trans (hb.mono G5.size); clear hb
          go_wp2
          go_ret
          exact ⟨rfl, G5⟩
        · have hXE := HM.out (by omega) (by omega)
          have hX1 : X = [] := congrArg Prod.fst hXE
          have hE1 : E = 2 := congrArg Prod.snd hXE
          have hn0 : nX = 0 := by rw [hnX.out, hX1]; rfl
          have e1 : (A == K) = false := by rw [beq_eq_false_iff_ne]; exact hAK
          have e2 : ((A : Int) == (K : Int)) = false := by rw [beq_eq_false_iff_ne]; omega
          subst hX1 hE1 hn0
          clear hXE HX hnX hXl hAK
          go_wp2_with fail
          refine (CE.out _ (HN.out.below G5)).mono ?_; rintro e w5 ⟨rfl, hb⟩
          replace G5 := G5.trans (hb.mono G5.size); clear hb
          go_wp2_with fail
          refine (known_any _ (HN.out.below G5)).mono ?_; rintro e w7 ⟨rfl, hb⟩
          replace G5 := G5.trans (hb.mono G5.size); clear hb
          go_wp2
          go_ret
          exact ⟨rfl, G5⟩
    · have hAK : upto L j = K := by
        have h1 : upto L j = T.size := by
          rw [show j = L.length by rw [← HL.out]; omega, upto_all, ← HT.out, ← Lib.size_eq]
        omega
      have hXE : (X, E) = (L.take j, 0) := by
        rw [← HX.out]; exact cut_end HA.out HF.out hl3 (hAK)
      have hX1 : X = L.take j := congrArg Prod.fst hXE
      have hE1 : E = 0 := congrArg Prod.snd hXE
      subst hX1 hE1
      clear hXE HX hnX hXl
      rw [hAK]
      clear hAK hu
      go_wp2_with fail
      refine (sameR_at (r := true) _ (by simp) HRX2.out ((HR.out.below G5).take hj) (by omega) (by omega)).mono ?_; rintro e w6 ⟨rfl, hb⟩
      replace G5 := G5.trans (hb.mono G5.size); clear hb
      go_wp2_with fail
      refine (known_any _ (HN.out.below G5)).mono ?_; rintro e w7 ⟨rfl, hb⟩
      replace G5 := G5.trans (hb.mono G5.size); clear hb
      go_wp2
      go_ret
      exact ⟨rfl, G5⟩
end Go.Proofs.YtmahpmoaicjcjaaDoor
