/- What is proved here: the walk of the law RtaGrows. Conditions: the row is not too long, and what RtaC says of the program. -/
import Derived.Test.YtiibbeigkopkeaaGp
import Derived.Deep.CutRange
import Derived.Deep.CutBlock
namespace Go.Proofs.Ytiibbeigkopkeaa
open Go.ChangeShapes Go.WideShapes Go.RowKit

set_option maxHeartbeats 2000000 in
set_option maxRecDepth 100000 in
theorem grows_walk (H : RtaC) (a : Option Addr) (n c : Nat) (L : List RtR) (i x2 y2 : Int) (w : World) (hr : RowS w a n L) (hn : n ≤ 140737488355328) (hc : n ≤ c) :
    Calls Try.prog 5 #[.slice a n c, .int .i64 i, .agg #[.int .i64 x2, .int .i64 y2]] w fun e w' => e = .returned (.bool true) ∧ Below w.heap.size w w' := by
  have I1 := Lib.hid (One.new w #[.int .i64 x2, .int .i64 y2] 43)
  obtain ⟨lt, hlt⟩ : ∃ r, litE L = r := ⟨_, rfl⟩
  have CL := Lib.hid (light_any a n c L _ (hr.below I1.out.1) hn lt hlt)
  have H1 := Lib.hid H
  have HR := Lib.hid hr
  clear H
  cases lt
  · clear hr hlt
    go_enter Try.func5, Try.ntmps5
    go_wp2_with (first
      | (go_at_call 9; refine CL.out.mono ?_; rintro e w1 ⟨rfl, hw1⟩; have hw1 := hw1.symm; subst hw1)
      | (go_at_call 10; refine (known_any H1.out _).mono ?_; rintro e w2 ⟨rfl, hb2⟩))
    go_ret
    exact ⟨rfl, keep_below I1.out.1 hb2⟩
  obtain ⟨g, hg⟩ : ∃ p, rgR L = p := ⟨_, rfl⟩
  have C4 := Lib.hid (H1.out.right a n c L _ (hr.below I1.out.1) hn g hg)
  have HL := Lib.hid hr.1
  cases g
  · clear hr hlt hg
    go_enter Try.func5, Try.ntmps5
    go_wp2_with (first
      | (go_at_call 9; refine CL.out.mono ?_; rintro e w1 ⟨rfl, hw1⟩; have hw1 := hw1.symm; subst hw1)
      | (go_at_call 18; refine C4.out.mono ?_; rintro e w3 ⟨rfl, hb3⟩)
      | (go_at_call 10; refine (known_any H1.out _).mono ?_; rintro e w2 ⟨rfl, hb2⟩))
    go_ret
    exact ⟨rfl, keep_below (keep_below I1.out.1 hb3) hb2⟩
  by_cases z1 : i < 0
  · have q1 : decide (i < 0) = true := decide_eq_true z1
    clear hr hlt hg
    go_enter Try.func5, Try.ntmps5
    go_wp2_with (first
      | (go_at_call 9; refine CL.out.mono ?_; rintro e w1 ⟨rfl, hw1⟩; have hw1 := hw1.symm; subst hw1)
      | (go_at_call 18; refine C4.out.mono ?_; rintro e w3 ⟨rfl, hb3⟩)
      | (go_at_call 10; refine (known_any H1.out _).mono ?_; rintro e w2 ⟨rfl, hb2⟩))
    go_ret
    exact ⟨rfl, keep_below (keep_below I1.out.1 hb3) hb2⟩
  by_cases z2 : (n : Int) ≤ i
  · have q1 : decide (i < 0) = false := decide_eq_false z1
    have q2 : decide ((n : Int) ≤ i) = true := decide_eq_true z2
    clear hr hlt hg
    go_enter Try.func5, Try.ntmps5
    go_wp2_with (first
      | (go_at_call 9; refine CL.out.mono ?_; rintro e w1 ⟨rfl, hw1⟩; have hw1 := hw1.symm; subst hw1)
      | (go_at_call 18; refine C4.out.mono ?_; rintro e w3 ⟨rfl, hb3⟩)
      | (go_at_call 10; refine (known_any H1.out _).mono ?_; rintro e w2 ⟨rfl, hb2⟩))
    go_ret
    exact ⟨rfl, keep_below (keep_below I1.out.1 hb3) hb2⟩
  obtain ⟨i0, rfl⟩ := Int.eq_ofNat_of_zero_le (by omega : 0 ≤ i)
  have hi0 : i0 < n := by omega
  have hn8 : n ≤ 8 := by have h1 := hr.1; unfold rgR at hg; simp only [Bool.and_eq_true, decide_eq_true_eq] at hg; omega
  have q1 : decide ((i0 : Int) < 0) = false := decide_eq_false (by omega)
  have q2 : decide ((n : Int) ≤ (i0 : Int)) = false := decide_eq_false (by omega)
  have q3 : decide (n ≤ i0) = false := decide_eq_false (by omega)
  have q4 : decide ((n : Int) < 1) = false := decide_eq_false (by omega)
  have q5 : decide (n < 1) = false := decide_eq_false (by omega)
  have i1 : (0 : Int) ≤ (i0 : Int) := by omega
  have i2 : (i0 : Int) < (n : Int) := by omega
  obtain ⟨b1, o1, x, rfl, hB1, hx, -, -, -, -, -, -⟩ := hr.item (Below.refl _ _) hi0
  obtain ⟨⟨av, ae⟩, hpa⟩ : ∃ p, nxR L i0 (min x2 y2) = p := ⟨_, rfl⟩
  obtain ⟨⟨bv, be⟩, hpb⟩ : ∃ p, nxR L i0 (max x2 y2) = p := ⟨_, rfl⟩
  obtain ⟨⟨rv, re⟩, hp⟩ : ∃ p, rspR L i0 = p := ⟨_, rfl⟩
  have CA := Lib.hid (fun W (hb : Below w.heap.size w W) => H1.out.next _ n c L i0 (min x2 y2) W (hr.below hb) hn av ae hpa)
  have CB := Lib.hid (fun W (hb : Below w.heap.size w W) => H1.out.next _ n c L i0 (max x2 y2) W (hr.below hb) hn bv be hpb)
  have CR := Lib.hid (fun W (hb : Below w.heap.size w W) => H1.out.resp _ n c L i0 W (hr.below hb) hn rv re hp)
  have HAB := Lib.hid (next_grows hg hx (by omega) hpa hpb)
  have HF := Lib.hid (fun m (hm : i0 < m) (h0 : re = 0) => resp_fewer hg hx hm (by rw [hp, h0]))
  have HM := Lib.hid (fun v (h : rspR (L.map upR) i0 = (v, 0)) => (resp_more hg hx h))
  rw [hp] at HM
  have HX := Lib.hid hx
  have HYC := Lib.hid (fun (k : Nat) (y : RtR) (h : L[k]? = some y) => (okR_parts (rgR_mem hg (List.mem_of_getElem? h))).1)
  have J1 := I1.out
  have c0 := J1.2 0 _ rfl
  have c1 := J1.2 1 _ rfl
  clear hr hlt hg z1 z2 hpa hpb hp hx J1
  go_enter Try.func5, Try.ntmps5
  go_upto_region 5 with (first
    | (go_at_call 9; refine CL.out.mono ?_; rintro e w1 ⟨rfl, hw1⟩; have hw1 := hw1.symm; subst hw1)
    | (go_at_call 18; refine C4.out.mono ?_; rintro e w3 ⟨rfl, hb3⟩; have J3 := Lib.hid (I1.out.keep hb3); have d0 := J3.out.2 0 _ rfl; have d1 := J3.out.2 1 _ rfl; clear hb3 c0 c1)
    | (go_at_call 12; refine (CB.out _ J4.out.1).mono ?_; rintro e w5 ⟨rfl, hb5⟩; have B5 := Lib.hid (keep_below J4.out.1 hb5); clear hb5 e0 e1)
    | (go_at_call 12; refine (CA.out _ J3.out.1).mono ?_; rintro e w4 ⟨rfl, hb4⟩; have J4 := Lib.hid (J3.out.keep hb4); have e0 := J4.out.2 0 _ rfl; have e1 := J4.out.2 1 _ rfl; clear hb4 d0 d1))
  go_cut [84] from 66 to 83 (fun v wx => v = .bool false ∧ wx = w5)
  case first =>
    rcases HAB.out with ⟨rfl, rfl, h3⟩ | ⟨rfl, h2⟩ | ⟨rfl, h2⟩ | ⟨h1, h2⟩
    · have d1 : decide (bv < av) = false := decide_eq_false (by omega)
      go_wp2
      go_meet
      exact ⟨rfl, rfl⟩
    · have d1 : (be == 0) = false := beq_eq_false_iff_ne.2 h2
      go_wp2
      go_meet
      exact ⟨rfl, rfl⟩
    · have d1 : (be == 0) = false := beq_eq_false_iff_ne.2 h2
      go_wp2
      go_meet
      exact ⟨rfl, rfl⟩
    · have d1 : (ae == 0) = false := beq_eq_false_iff_ne.2 h1
      have d2 : (ae == 4) = false := beq_eq_false_iff_ne.2 h2
      go_wp2
      go_meet
      exact ⟨rfl, rfl⟩
  case rest =>
    obtain ⟨rfl, rfl⟩ := hcut
    obtain ⟨ri, ri0, ri1, ri2, ri3⟩ := info_parts row_info
    go_upto_region 9 with (first
      | (go_at_call 14; refine (CR.out _ B5.out).mono ?_; rintro e w6 ⟨rfl, hb6⟩; have B6 := Lib.hid (keep_below B5.out hb6); have R6 := Lib.hid ((HR.out.below B6.out).take (n - 1) (by omega)); clear hb6)
      | (refine wpList_append_new w w6 B6.out (by rfl) (.tmp 91) (.tmp 96) 22 rfl 41 ri (.agg #[.int .i64 0, .int .i64 0, .int .i64 0, .int .i64 0, .int .i64 0, .int .i64 0]) 6 48 Try.underlying22 ri0 ri1 ri2 ri3 rfl (by omega) (by omega) (by simp [Act.eval]) ⟨b1, o1, none⟩ (n - 1) c (rsC (L.take (n - 1))) (by simp [Act.eval]) R6.out.clen R6.out.cells (rsC_cell _) (by omega) ?_; rintro gf cf w7 hown7 hb7; have O7 := Lib.hid hown7; have B7 := Lib.hid hb7; clear hown7 hb7))
    go_upto_if 101 with fail
    go_cut [14, 15] from 101 to 118 (fun v14 v15 wx => Below w.heap.size w wx)
    case first =>
      by_cases hf1 : i0 < n - 1
      · obtain ⟨⟨mv, me⟩, hpm⟩ : ∃ p, rspR (L.take (n - 1)) i0 = p := ⟨_, rfl⟩
        obtain ⟨af, cf', ef, -, RF⟩ := RowS.own O7.out
        cases ef
        have CF := Lib.hid (H1.out.resp _ (n - 1) cf (L.take (n - 1)) i0 w7 RF (by omega) mv me hpm)
        have HF1 : Hid (re = 0 → me = 0 ∧ mv ≤ rv) := fun h0 => by
          obtain ⟨u, h1, h2⟩ := HF.out (n - 1) hf1 h0
          rw [hpm] at h1; cases h1; exact ⟨rfl, h2⟩
        have f2 : (i0 : Int) < ((n - 1 : Nat) : Int) := by omega
        clear hpm RF
        by_cases hre : re = 0
        · obtain ⟨rfl, hle⟩ := HF1.out hre
          have d1 : decide (rv < mv) = false := decide_eq_false (by omega)
          subst hre
          go_wp2_with (go_at_call 14; refine CF.out.mono ?_; rintro e w8 ⟨rfl, hb8⟩)
          go_meet
          exact keep_below B7.out hb8
        · have d1 : (re == 0) = false := beq_eq_false_iff_ne.2 hre
          go_wp2_with (go_at_call 14; refine CF.out.mono ?_; rintro e w8 ⟨rfl, hb8⟩)
          go_meet
          exact keep_below B7.out hb8
      · have f2 : ¬ (i0 : Int) < ((n - 1 : Nat) : Int) := by omega
        go_wp2
        go_meet
        exact B7.out
    case rest =>
      have RC := Lib.hid (HR.out.below hcut)
      have BC := Lib.hid hcut
      clear hcut
      go_upto_region 14 with (refine wpList_append_new w wc BC.out (by rfl) (.tmp 119) (.tmp 120) 22 rfl 41 ri (.agg #[.int .i64 0, .int .i64 0, .int .i64 0, .int .i64 0, .int .i64 0, .int .i64 0]) 6 48 Try.underlying22 ri0 ri1 ri2 ri3 rfl (by omega) (by omega) (by simp [Act.eval]) ⟨b1, o1, none⟩ n c (rsC L) (by simp [Act.eval]) RC.out.clen RC.out.cells (rsC_cell _) (by omega) ?_; rintro gm cm w9 hown9 hb9; have O9 := Lib.hid hown9; have B9 := Lib.hid hb9; clear hown9 hb9)
      go_wp2
      have HRI := Lib.hid (And.intro i1 i2)
      go_loopw [17] (fun j wr => ∃ kk : Nat, kk ≤ n ∧ j = .int .i64 kk ∧ Hid (wr.ownsRow w.heap.size 41 6 (.slice (some ⟨gm, 0, none⟩) n cm) n (rsC (upTo L kk))) ∧ Hid (Below w.heap.size w wr)) (fun j _ => n - (intOf j).toNat)
      case atStart => exact ⟨0, by omega, rfl, O9, B9⟩
      case round =>
        obtain ⟨kk, hk, rfl, HO, HBL⟩ := hrel
        by_cases hlt : kk < n
        · obtain ⟨y, hy⟩ : ∃ y, L[kk]? = some y := ⟨_, List.getElem?_eq_getElem (by rw [← HL.out]; exact hlt)⟩
          have y0 : wr.cell? ⟨gm, kk * 6, none⟩ = some (.int .i64 y.C) := by
            rw [HO.out.cellAt (kk * 6) (by omega)]
            exact rsC_at _ kk 0 y (upTo_at hy) (by omega)
          have fz := HO.out.frozenAt (kk * 6)
          have j1 : (0 : Int) ≤ (kk : Int) := by omega
          have j2 : (kk : Int) < (n : Int) := by omega
          have HU := Lib.hid (upTo_succ hy)
          have HUa := Lib.hid (upTo_at hy)
          have y1 := HYC.out kk y hy
          clear hy
          by_cases hC : y.C < 4611686018427387903
          · have d1 : decide (y.C < 4611686018427387903) = true := decide_eq_true hC
            have wJ : IntKind.i64.wrap (y.C + 1) = y.C + 1 := by rw [IntKind.wrap_i64]; omega
            have HS : Hid ((wr.setCell ⟨gm, kk * 6, none⟩ (.int .i64 (y.C + 1))).ownsRow w.heap.size 41 6 (.slice (some ⟨gm, 0, none⟩) n cm) n (rsC (upTo L (kk + 1)))) := by
              have h := (HO.out.stored (kk * 6) (.int .i64 (y.C + 1))).1
              rw [show kk * 6 = kk * 6 + 0 from rfl, rsC_set (r' := upR y) 0 (.int .i64 (y.C + 1)) (by unfold upR; rw [if_pos hC]; rfl) (by omega) _ kk HUa.out, ← HU.out] at h
              exact h
            have HB2 := Lib.hid (HBL.out.grown (HO.out.stored (kk * 6) (.int .i64 (y.C + 1))).2 HBL.out.size (fun g hg => by cases hg; exact (HO.out.lt gm rfl).1))
            go_wp2
            go_roundw
            case rel => exact ⟨kk + 1, by omega, by go_num, HS, HB2⟩
            case measure => simp [intOf]; omega
          · have d1 : decide (y.C < 4611686018427387903) = false := decide_eq_false hC
            have HS : Hid (upTo L (kk + 1) = upTo L kk) := by
              show _ = _
              rw [HU.out]
              have e : upR y = y := by unfold upR; rw [if_neg hC]
              rw [e]
              exact set_self HUa.out
            go_wp2
            go_roundw
            case rel => exact ⟨kk + 1, by omega, by go_num, by rw [HS.out]; exact HO, HBL⟩
            case measure => simp [intOf]; omega
        · obtain rfl : n = kk := by omega
          have hO := HO.out
          rw [show upTo L n = L.map upR by rw [HL.out]; exact upTo_all L] at hO
          obtain ⟨af, cf', ef, -, RM⟩ := RowS.own hO
          cases ef
          obtain ⟨⟨xv, je⟩, hpm⟩ : ∃ p, rspR (L.map upR) i0 = p := ⟨_, rfl⟩
          have CM := Lib.hid (H1.out.resp _ n cm (L.map upR) i0 wr RM hn xv je hpm)
          have HJ : Hid (je = 0 → re = 0 ∧ rv < xv) := fun h0 => by
            obtain ⟨u, h1, h2⟩ := HM.out xv (by rw [hpm, h0])
            cases h1; exact ⟨rfl, h2⟩
          clear hpm RM hO
          by_cases hje : je = 0
          · obtain ⟨hre, hlt2⟩ := HJ.out hje
            have d1 : decide (rv < xv) = true := decide_eq_true hlt2
            subst hje
            subst hre
            go_wp2_with (first
              | (go_at_call 14; refine CM.out.mono ?_; rintro e w10 ⟨rfl, hb10⟩)
              | (go_at_call 10; refine (known_any H1.out _).mono ?_; rintro e w11 ⟨rfl, hb11⟩))
            go_ret
            exact ⟨rfl, keep_below (keep_below HBL.out hb10) hb11⟩
          · have d1 : (je == 0) = false := beq_eq_false_iff_ne.2 hje
            go_wp2_with (first
              | (go_at_call 14; refine CM.out.mono ?_; rintro e w10 ⟨rfl, hb10⟩)
              | (go_at_call 10; refine (known_any H1.out _).mono ?_; rintro e w11 ⟨rfl, hb11⟩))
            go_ret
            exact ⟨rfl, keep_below (keep_below HBL.out hb10) hb11⟩
end Go.Proofs.Ytiibbeigkopkeaa
