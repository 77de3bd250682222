/- What is proved here: the walk of the law OpParts. Conditions: none beyond those each theorem states. -/
import Derived.Test.YtmahpmoaicjcjaaDoorW3
import Derived.Deep.RegionHeld3
import Derived.IntWalk
namespace Go.Proofs.YtmahpmoaicjcjaaDoor
open Go.ChangeShapes Go.WideShapes Go.RowKit

theorem keep_cell {W w9 : World} {p : Addr} {v : Value} (hb : Below W.heap.size W w9) (h : W.cell? p = some v) : w9.cell? p = some v := (hb.cell (cell_lt h)).trans h
theorem keep_below {w W w9 : World} (h : Below w.heap.size w W) (hb : Below W.heap.size W w9) : Below w.heap.size w w9 := h.trans (hb.mono h.size)
theorem filter_succ {L : List (Int × Int × Int)} {k : Nat} {x : Int × Int × Int} (h : L[k]? = some x) : (L.take (k + 1)).filter right = (L.take k).filter right ++ (if right x = true then [x] else []) := by
  rw [List.take_add_one, h, List.filter_append]
  congr 1
  by_cases hr : right x = true <;> simp [hr]
/-- Each stands where the one ahead ends. -/
theorem dec_at {M : List (Int × Int × Int)} (hr : allR M = true) (hf : AllFitI M) {j : Nat} {x : Int × Int × Int} (hx : M[j]? = some x) : dec (flatI M) (upto M j) = (x, (upto M (j + 1) : Int), 0) := by
  have hj : j < M.length := (List.getElem?_eq_some_iff.1 hx).1
  have hd : M.drop j = x :: M.drop (j + 1) := by
    rw [List.drop_eq_getElem_cons hj, (List.getElem?_eq_some_iff.1 hx).2]
  have e : flatI M = flatI (M.take j) ++ (encI x ++ flatI (M.drop (j + 1))) := by
    rw [flat_splitI M j, hd, flatI_cons]
  have h1 := dec_enc (allR_mem hr hx) (hf x (List.mem_of_getElem? hx)) (flatI (M.take j)) (flatI (M.drop (j + 1)))
  rw [← e] at h1
  rw [upto_succ hx]
  unfold upto
  rw [h1]; congr 1
theorem piece_at {M : List (Int × Int × Int)} {j : Nat} {x : Int × Int × Int} (hx : M[j]? = some x) (T : ByteArray) (hT : T.data.toList = flatI M) : (T.extract (upto M j) (upto M (j + 1))).data.toList = encI x := by
  have hj : j < M.length := (List.getElem?_eq_some_iff.1 hx).1
  have hd : M.drop j = x :: M.drop (j + 1) := by
    rw [List.drop_eq_getElem_cons hj, (List.getElem?_eq_some_iff.1 hx).2]
  rw [Lib.extract_data, hT, flat_splitI M j, hd, flatI_cons, upto_succ hx]
  unfold upto
  rw [List.drop_left, Nat.add_sub_cancel_left, List.take_left]
theorem upto_le {M : List (Int × Int × Int)} (j : Nat) : upto M j ≤ (flatI M).length := by
  unfold upto; rw [flat_splitI M j, List.length_append]; omega

set_option maxHeartbeats 8000000 in
set_option maxRecDepth 100000 in
theorem parts_walk (a : Option Addr) (n c : Nat) (L : List (Int × Int × Int)) (w : World) (hr : RowI w a n L) (hf : AllFitI L) (_hnc : n ≤ c) (hcm : c ≤ maxLen) (hn : Nms w) :
    Calls Tryd.prog 6 #[.slice a n c] w fun e w' => e = .returned (.bool true) ∧ Below w.heap.size w w' := by
  replace hcm : c ≤ 9223372036854775807 := hcm
  obtain ⟨i0, hi, hz0, hz1, hz2⟩ := info_parts ins_info
  have HN := Lib.hid hn
  have HR := Lib.hid hr
  have HF := Lib.hid hf
  have HL := Lib.hid hr.1
  clear hn hr hf
  go_enter Tryd.func6, Tryd.ntmps6
  go_wp2
  go_loopw [3, 4] (fun v i wr => ∃ (k : Nat) (out : List (Int × Int × Int)), k ≤ n ∧ k ≤ 100 ∧ i = .int .i64 k ∧ out.length ≤ k ∧ Hid (out = (L.take k).filter right) ∧ wr.ownsRow w.heap.size 23 3 v out.length (cellsI out) ∧ Below w.heap.size w wr)
    (fun _ i _ => n - (intOf i).toNat)
  case atStart => exact ⟨0, [], by omega, by omega, rfl, by simp, rfl, World.ownsRow_nil _ _ _ _, Below.refl _ _⟩
  case round =>
    obtain ⟨k, out, hk, hk2, rfl, hol, HO, hown, hbl⟩ := hrel
    have hbs := hbl.size
    by_cases hlt : k < n ∧ k < 100
    · obtain ⟨hlt1, hlt2⟩ := hlt
      obtain ⟨b1, o1, p1, p2, p3, rfl, hB1, hx, hc1, hc2, hc3⟩ := (HR.out.below hbl).at_ hlt1
      have CR := Lib.hid (right_any p1 p2 p3 wr (HN.out.below hbl))
      have HFS := filter_succ hx
      cases hri : right (p1, p2, p3)
      · have HO2 : Hid (out = (L.take (k + 1)).filter right) := by
          show _ = _
          rw [HFS, hri, ← HO.out]; simp
        rw [hri] at CR
        clear hx HFS hri HO
        go_wp2_with fail
        refine CR.out.mono ?_; rintro e w2 ⟨rfl, hb⟩
        have hown1 := own_below hown hb
        replace hbl := hbl.trans (hb.mono hbs)
        clear hown hb
        go_wp2
        go_roundw
        case rel => exact ⟨k + 1, out, by omega, by omega, by go_num, by omega, HO2, hown1, hbl⟩
        case measure => simp [intOf]; omega
      · have HO2 : Hid (out ++ [(p1, p2, p3)] = (L.take (k + 1)).filter right) := by
          show _ = _
          rw [HFS, hri, ← HO.out]; simp
        rw [hri] at CR
        clear hx HFS hri HO
        go_wp2_with fail
        refine CR.out.mono ?_; rintro e w2 ⟨rfl, hb⟩
        have hown1 := own_below hown hb
        have hd1 := keep_cell hb hc1
        have hd2 := keep_cell hb hc2
        have hd3 := keep_cell hb hc3
        replace hbl := hbl.trans (hb.mono hbs)
        clear hown hb hbs hc1 hc2 hc3
        have hbs := hbl.size
        go_wp2_with (at_builtin; refine wpList_append_own _ rfl _ _ 32 rfl w.heap.size 23 i0 (.agg #[.int .i64 0, .int .i64 0, .int .i64 0]) 3 24 Tryd.underlying32 hi hz0 hz1 hz2 rfl (by decide) _ _ _ rfl (hown1.alloc _) ⟨w2.heap.size, 0, none⟩ 1 1 [.int .i64 p1, .int .i64 p2, .int .i64 p3] rfl rfl ?c1 ?c2 ?c3 ?c4 ?c5 ?_)
        case c1 =>
          intro j u hj
          match j, hj with
          | 0, hj => simp at hj; subst hj; simp [Addr.add]
          | 1, hj => simp at hj; subst hj; simp [Addr.add]
          | 2, hj => simp at hj; subst hj; simp [Addr.add]
        case c2 => intro u hu; simp at hu; rcases hu with rfl | rfl | rfl <;> rfl
        case c3 => unfold maxLen; omega
        case c4 => omega
        case c5 => simp; omega
        intro v' w3 hown' hgrow _
        have hb1 : Below w.heap.size w w3 := (hbl.alloc (by omega) _).grown hgrow (by simp; omega) (fun g hg => (hown1.lt g hg).1)
        have hown2 : w3.ownsRow w.heap.size 23 3 v' (out ++ [(p1, p2, p3)]).length (cellsI (out ++ [(p1, p2, p3)])) := by
          rw [cellsI_snoc, List.length_append]; exact hown'
        clear hown' hgrow hbl hown1
        go_wp2
        go_roundw
        case rel => exact ⟨k + 1, out ++ [(p1, p2, p3)], by omega, by omega, by go_num, by simp; omega, HO2, hown2, hb1⟩
        case measure => simp [intOf]; omega
    · obtain ⟨A, m, c2, rfl, rfl, hRow⟩ := own_form hown
      have hallr : allR out = true := by
        rw [HO.out]; unfold allR; rw [List.all_eq_true]; intro x hx; exact (List.mem_filter.1 hx).2
      have hallf : AllFitI out := by
        intro x hx; rw [HO.out] at hx; exact HF.out x (List.mem_of_mem_take (List.mem_filter.1 hx).1)
      have hol2 : out.length ≤ 100 := by omega
      obtain ⟨T, hT, cT⟩ := code_as (a := A) (n := out.length) (c := c2) hallf
      rw [cod_right (by omega) hallr] at hT
      have hTl : T.size ≤ 2100 := by rw [Lib.size_eq, hT]; have := flatI_len hallf; omega
      have CT := Lib.hid (cT wr hRow (HN.out.below hbl))
      have HT := Lib.hid hT
      have HAR := Lib.hid hallr
      have HAF := Lib.hid hallf
      have hTs : T.size = upto out out.length := by rw [Lib.size_eq, hT, upto_all]
      have HTS := Lib.hid hTs
      have HROW := Lib.hid hRow
      clear cT hT hallr hallf hTs hRow HO hown
      rcases (show (¬ k < n) ∨ (k < n ∧ ¬ k < 100) by omega) with hx1 | ⟨hx1, hx2⟩
      all_goals
        clear hlt
        go_wp2_with fail
        refine CT.out.mono ?_; rintro e w2 ⟨rfl, hb⟩
        have HRW := Lib.hid (HROW.out.below hb)
        have G := keep_below hbl hb
        clear hb CT
        go_wp2
        go_loopw [6, 7] (fun t i wr => ∃ j : Nat, j ≤ out.length ∧ i = .int .i64 j ∧ t = .int .i64 (upto out j) ∧ Below w2.heap.size w2 wr) (fun _ i _ => out.length - (intOf i).toNat)
        case atStart => exact ⟨0, by omega, rfl, by simp [upto, flatI], Below.refl _ _⟩
        case round =>
          obtain ⟨j, hj, rfl, rfl, hbl2⟩ := hrel
          have G5 := keep_below G hbl2
          by_cases hjl : j < out.length
          · obtain ⟨b1, o1, q1, q2, q3, rfl, hB1, hxj, hc1, hc2, hc3⟩ := (HRW.out.below hbl2).at_ hjl
            have hfx : FitsI (q1, q2, q3) := HAF.out _ (List.mem_of_getElem? hxj)
            have hdec := dec_at HAR.out HAF.out hxj
            have hus := upto_succ hxj
            have hup := upto_le (M := out) (j + 1)
            rw [← HT.out, ← Lib.size_eq] at hup
            have hpc := piece_at hxj T HT.out
            obtain ⟨S, hS⟩ : ∃ S, S = bs (encI (q1, q2, q3)) := ⟨_, rfl⟩
            have hSl : S.size = (encI (q1, q2, q3)).length := by rw [hS, bs_size]
            have ce := fun W h => encode_any q1 q2 q3 W h hfx
            rw [← hS] at ce
            have CE := Lib.hid ce
            rw [← hSl] at hus
            obtain ⟨A1, hA1⟩ : ∃ A, A = upto out j := ⟨_, rfl⟩
            obtain ⟨A2, hA2⟩ : ∃ A, A = upto out (j + 1) := ⟨_, rfl⟩
            have heq : ((T.extract A1 A2).toList == S.toList) = true := by
              rw [hA1, hA2, Lib.toList_data, Lib.toList_data, hpc, hS, bs_data, beq_self_eq_true]
            have CD := Lib.hid (decode_at (s := T) (p := upto out j) (r := ((q1, q2, q3), (upto out (j + 1) : Int), 0)) (by omega) (by rw [HT.out]; exact hdec) _ (HN.out.below G5))
            rw [← hA1, ← hA2] at CD
            rw [← hA1, ← hA2] at hus
            rw [← hA2] at hup
            rw [← hA1]
            have HA2 := Lib.hid hA2
            have hus1 : A2 ≤ A1 + S.size := by omega
            have hus2 : A1 + S.size ≤ A2 := by omega
            clear hus
            clear ce hS hSl hxj hfx hdec hpc hA1 hA2
            go_wp2_with fail
            refine CD.out.mono ?_; rintro e w4 ⟨rfl, hb⟩
            replace hc1 := keep_cell hb hc1
            replace hc2 := keep_cell hb hc2
            replace hc3 := keep_cell hb hc3
            have G6 := keep_below (keep_below G5 hb) (below_alloc w4 (.cells #[.int .i64 q1, .int .i64 q2, .int .i64 q3] 23))
            have HB6 := Lib.hid (keep_below (keep_below hbl2 hb) (below_alloc w4 (.cells #[.int .i64 q1, .int .i64 q2, .int .i64 q3] 23)))
            replace hc1 := keep_cell (below_alloc w4 (.cells #[.int .i64 q1, .int .i64 q2, .int .i64 q3] 23)) hc1
            replace hc2 := keep_cell (below_alloc w4 (.cells #[.int .i64 q1, .int .i64 q2, .int .i64 q3] 23)) hc2
            replace hc3 := keep_cell (below_alloc w4 (.cells #[.int .i64 q1, .int .i64 q2, .int .i64 q3] 23)) hc3
            obtain ⟨m0, m1, m2, m3⟩ := Ins3.new w4 q1 q2 q3
            simp only at m1 m2 m3
            have u1 : IntKind.i64.wrap ((A1 : Int) + (S.size : Int)) = (A2 : Int) := by rw [IntWalk.i64_in _ (by omega)]; omega
            have u2 : (0 : Int) ≤ (A1 : Int) := by omega
            have u3 : (A1 : Int) ≤ (A2 : Int) := by omega
            have u4 : (A2 : Int) ≤ (T.size : Int) := by omega
            have u5 : decide ((T.size : Int) < (A2 : Int)) = false := by rw [decide_eq_false_iff_not]; omega
            have u8 : decide (T.size < A2) = false := by rw [decide_eq_false_iff_not]; omega
            have u6 : (0 : Int) ≤ (j : Int) := by omega
            have u7 : (j : Int) < (out.length : Int) := by omega
            clear hb hbl2 G5 CD
            go_wp2_with fail
            generalize w4.alloc (.cells #[.int .i64 q1, .int .i64 q2, .int .i64 q3] 23) = w5 at hc1 hc2 hc3 G6 HB6 m1 m2 m3 ⊢
            clear m0
            go_region_held3 (fun W => W.cell? ⟨w4.heap.size, 0, none⟩ = some (.int .i64 q1) ∧ W.cell? ⟨w4.heap.size, 1, none⟩ = some (.int .i64 q2) ∧ W.cell? ⟨w4.heap.size, 2, none⟩ = some (.int .i64 q3) ∧ W.cell? ⟨b1, o1 + j * 3, none⟩ = some (.int .i64 q1) ∧ W.cell? ⟨b1, o1 + j * 3 + 1, none⟩ = some (.int .i64 q2) ∧ W.cell? ⟨b1, o1 + j * 3 + 2, none⟩ = some (.int .i64 q3) ∧ Below w.heap.size w W ∧ Below w2.heap.size w2 W)
              (first
                | exact ⟨m1, m2, m3, hc1, hc2, hc3, G6.drew, HB6.out.drew⟩
                | (go_split_ands; exact ⟨keep_cell hb9 (by assumption), keep_cell hb9 (by assumption), keep_cell hb9 (by assumption), keep_cell hb9 (by assumption), keep_cell hb9 (by assumption), keep_cell hb9 (by assumption), keep_below (by assumption) hb9, keep_below (by assumption) hb9⟩))
              (first
                | (go_split_ands; go_at_call 12; refine (CE.out _ (HN.out.below (by assumption))).mono ?_; rintro e w9 ⟨rfl, hb9⟩))
            go_split_ands
            clear u1 u2 u3 u4 u5 u6 u7 u8 heq
            go_wp2
            go_roundw
            case rel => exact ⟨j + 1, by omega, by go_num, by rw [HA2.out], by assumption⟩
            case measure => simp [intOf]; omega
          · have hA : upto out j = T.size := by
              rw [HTS.out, show j = out.length by omega]
            rw [hA]
            clear hA
            go_wp2_with fail
            refine (known_any _ (HN.out.below G5)).mono ?_; rintro e w7 ⟨rfl, hb⟩
            replace G5 := keep_below G5 hb
            go_wp2
            go_ret
            exact ⟨rfl, G5⟩
end Go.Proofs.YtmahpmoaicjcjaaDoor
