/- What is proved here: the walk of the law AdmitTimes. Condition: the tables hold what their initialisers lay. -/
import Derived.Test.YtngehojibcmieaaGreatDoorQK1
set_option maxRecDepth 100000
set_option maxHeartbeats 8000000
section
namespace Go.Proofs.YtngehojibcmieaaGreatDoor
open Go.ChangeShapes Go.WideShapes Go.RowKit
theorem times_walk (x : ImV) (m : ImP) (w : World) (h : x.Is w m) (hN : Nms w) (hH : Kr.Hal w) :
  Calls Tryz.prog 5 #[x.v] w fun e w' => e = .returned (.bool true) ∧ Below w.heap.size w w' := by
 have KN := Lib.hid (fun W (hb : Below w.heap.size w W) => known15_any W (hN.below hb) (hH.below hb))
 obtain ⟨lt, hlt0⟩ : ∃ lt, ltE m = lt := ⟨_, rfl⟩
 have LG := Lib.hid (fun W (hb : Below w.heap.size w W) => light15_any x m W (h.below hb) lt hlt0)
 obtain ⟨⟨E, L, R, A, C⟩, hK⟩ : ∃ K, jdA m = K := ⟨_, rfl⟩
 have JG := Lib.hid (fun W (hb : Below w.heap.size w W) => judgeW_any x m W (h.below hb) (hN.below hb) E L R A C hK)
 have hlen : x.tasks.n = m.tasks.length := h.2.2.2.2.2.2.1.1
 have F1 := Lib.hid (jd_time (m := m))
 have F2 := Lib.hid (jd_other (m := m))
 have F3 := Lib.hid (fun (h0 : (jdA m).er = 0) => And.intro (jd_resp h0).1 (jd_relen h0))
 have F4 := Lib.hid (fun (h0 : (jdA m).er = 0) (k : Nat) (hk : k < m.tasks.length) => And.intro (jd_in h0 hk) (And.intro (tk_ok (jd_zero h0) hk).sl (tk_ok (jd_zero h0) hk).ji))
 have F5 := Lib.hid (jd_len m)
 have F6 := Lib.hid (fun (h0 : (jdA m).er = 0) => (few_tasks (jd_zero h0)).2.1)
 rw [hK] at F1 F2 F3 F4 F5 F6
 simp only at F1 F2 F3 F4 F5 F6
 have HI := Lib.hid h
 have HN := Lib.hid hN
 have HLN := Lib.hid hlen
 clear hlt0 hK hlen h hN hH
 obtain ⟨sw, la, cm, inp, ⟨sa, sn, sc⟩, ⟨ba, bn, bc⟩, ⟨ta, tn, tc⟩⟩ := x
 simp only [ImV.v, Sl.v] at LG JG HLN ⊢
 have C0 := Lib.hid (cells_new w #[.int .i64 sw, .int .i64 la, .int .i64 cm, .int .i64 inp, .slice sa sn sc, .slice ba bn bc, .slice ta tn tc] 26)
 have B0 := Lib.hid (below_alloc w (.cells #[.int .i64 sw, .int .i64 la, .int .i64 cm, .int .i64 inp, .slice sa sn sc, .slice ba bn bc, .slice ta tn tc] 26))
 by_cases z : lt = 0
 ·have e1 : (lt == 0) = true := by simpa using z
  clear z JG HI HN F1 F2 F3 F4 F5 F6
  go_enter Tryz.func5, Tryz.ntmps5
  go_wp2_with (first
   | (go_at_call 10; refine (KN.out _ b1).mono ?_; rintro e w2 ⟨rfl, hb2⟩)
   | (go_at_call 9; refine (LG.out _ B0.out).mono ?_; rintro e w1 ⟨rfl, hb1⟩; have b1 := keep_below B0.out hb1))
  go_ret
  exact ⟨rfl, keep_below b1 hb2⟩
 have e1 : (lt == 0) = false := by simpa using z
 clear z
 obtain ⟨rn, hrn⟩ : ∃ rn, rn = R.length := ⟨_, rfl⟩
 obtain ⟨an, han⟩ : ∃ an, an = A.length := ⟨_, rfl⟩
 obtain ⟨cn, hcn⟩ : ∃ cn, cn = C.length := ⟨_, rfl⟩
 rw [← hrn, ← han, ← hcn] at JG
 have HRN := Lib.hid hrn
 have HAN := Lib.hid han
 have HCN := Lib.hid hcn
 have r8 : rn ≤ 8 := by have := F5.out.1; rw [hrn]; exact this
 clear hrn han hcn
 by_cases c1 : E = 13 ∨ (E = 4 ∧ 0 < R.length)
 ·obtain ⟨q0, k, hk, q1, q2, q3, q4⟩ := F1.out c1
  obtain ⟨⟨rv, re⟩, hq⟩ : ∃ r, Kd.rspR R (k : Int) = r := ⟨_, rfl⟩
  have hre : re = E := by rw [← q4, ← q3, hq]
  subst hre
  have hL : L = (k : Int) := q1
  subst hL
  have ha0 : an = 0 := by rw [HAN.out, q2]; rfl
  subst ha0
  have hrt : rn = tn := by rw [HRN.out, q3, roA_len]; exact HLN.out.symm
  subst hrt
  have RS := Lib.hid (fun a c W (hr : Kd.RowS W a rn R) => Kd.respP_any a rn c R (k : Int) W hr (by omega) rv re hq)
  by_cases c2 : re = 13
  ·subst c2
   clear c1 q0 q1 q2 q3 q4 hq hk F1 F2 F3 F4 F5 F6 HI HN HCN HAN HRN HLN
   go_enter Tryz.func5, Tryz.ntmps5
   go_wp2_with (first
    | (go_at_call 10; refine (KN.out _ b3).mono ?_; rintro e w4 ⟨rfl, hb4⟩)
    | (go_at_call 21; refine (RS.out ra rc _ (hr.below (below_alloc _ _))).mono ?_; rintro e w3 ⟨rfl, hb3⟩; have b3 := keep_below (keep_below b2 (below_alloc _ _)) hb3; have x0 := keep_cell hb3 (v0 0 _ rfl); have x2 := keep_cell hb3 (v0 2 _ rfl); have x3 := keep_cell hb3 (v0 3 _ rfl); have m6 := keep_cell hb3 n6)
    | (go_at_call 13; refine (JG.out _ b1).mono ?_; rintro e w2 ⟨ra, rc, aa, ac, ca, cc, rfl, hr, -, -, hb2⟩; have b2 := keep_below b1 hb2; have v0 := cells_new w2 #[.int .i64 13, .int .i64 (k : Int), .slice ra rn rc, .slice aa 0 ac, .slice ca cn cc] 37; have n6 := keep_cell (below_alloc w2 (.cells #[.int .i64 13, .int .i64 (k : Int), .slice ra rn rc, .slice aa 0 ac, .slice ca cn cc] 37)) (keep_cell hb2 c6))
    | (go_at_call 9; refine (LG.out _ B0.out).mono ?_; rintro e w1 ⟨rfl, hb1⟩; have b1 := keep_below B0.out hb1; have c0 := keep_cell hb1 (C0.out 0 _ rfl); have c1 := keep_cell hb1 (C0.out 1 _ rfl); have c2 := keep_cell hb1 (C0.out 2 _ rfl); have c3 := keep_cell hb1 (C0.out 3 _ rfl); have c4 := keep_cell hb1 (C0.out 4 _ rfl); have c5 := keep_cell hb1 (C0.out 5 _ rfl); have c6 := keep_cell hb1 (C0.out 6 _ rfl)))
   go_ret
   exact ⟨rfl, keep_below b3 hb4⟩
  ·have c4 : re = 4 := (c1.resolve_left c2).1
   have hpos : 0 < rn := by rw [HRN.out]; exact (c1.resolve_left c2).2
   have dpos : decide ((0 : Int) < (rn : Int)) = true := decide_eq_true (by omega)
   have ipos : (0 : Int) < (rn : Int) := by omega
   clear c2
   subst c4
   clear c1 q0 q1 q2 q3 q4 hq hk F1 F2 F3 F4 F5 F6 HI HN HCN HAN HRN HLN
   go_enter Tryz.func5, Tryz.ntmps5
   go_wp2_with (first
    | (go_at_call 10; refine (KN.out _ b3).mono ?_; rintro e w4 ⟨rfl, hb4⟩)
    | (go_at_call 21; refine (RS.out ra rc _ (hr.below (below_alloc _ _))).mono ?_; rintro e w3 ⟨rfl, hb3⟩; have b3 := keep_below (keep_below b2 (below_alloc _ _)) hb3; have x0 := keep_cell hb3 (v0 0 _ rfl); have x2 := keep_cell hb3 (v0 2 _ rfl); have x3 := keep_cell hb3 (v0 3 _ rfl); have m6 := keep_cell hb3 n6)
    | (go_at_call 13; refine (JG.out _ b1).mono ?_; rintro e w2 ⟨ra, rc, aa, ac, ca, cc, rfl, hr, -, -, hb2⟩; have b2 := keep_below b1 hb2; have v0 := cells_new w2 #[.int .i64 4, .int .i64 (k : Int), .slice ra rn rc, .slice aa 0 ac, .slice ca cn cc] 37; have n6 := keep_cell (below_alloc w2 (.cells #[.int .i64 4, .int .i64 (k : Int), .slice ra rn rc, .slice aa 0 ac, .slice ca cn cc] 37)) (keep_cell hb2 c6))
    | (go_at_call 9; refine (LG.out _ B0.out).mono ?_; rintro e w1 ⟨rfl, hb1⟩; have b1 := keep_below B0.out hb1; have c0 := keep_cell hb1 (C0.out 0 _ rfl); have c1 := keep_cell hb1 (C0.out 1 _ rfl); have c2 := keep_cell hb1 (C0.out 2 _ rfl); have c3 := keep_cell hb1 (C0.out 3 _ rfl); have c4 := keep_cell hb1 (C0.out 4 _ rfl); have c5 := keep_cell hb1 (C0.out 5 _ rfl); have c6 := keep_cell hb1 (C0.out 6 _ rfl)))
   go_ret
   exact ⟨rfl, keep_below b3 hb4⟩
 by_cases c0 : E = 0
 ·subst c0
  obtain ⟨p1, p2⟩ := F3.out rfl
  have F4b := Lib.hid (F4.out rfl)
  have t8 := F6.out rfl
  have hn8 : tn ≤ 8 := by rw [HLN.out]; exact t8
  subst p1
  have han : tn = an := by rw [HAN.out, p2]; exact HLN.out
  subst han
  clear c1 p2 F1 F2 F3 F4 F5 F6 HCN HRN
  go_enter Tryz.func5, Tryz.ntmps5
  go_upto_region 12 with (first
   | (go_at_call 13; refine (JG.out _ b1).mono ?_; rintro e w2 ⟨ra, rc, aa, ac, ca, cc, rfl, -, hra, -, hb2⟩; have b2 := keep_below b1 hb2; have v0 := cells_new w2 #[.int .i64 0, .int .i64 (-1), .slice ra rn rc, .slice aa tn ac, .slice ca cn cc] 37; have aV := below_alloc w2 (.cells #[.int .i64 0, .int .i64 (-1), .slice ra rn rc, .slice aa tn ac, .slice ca cn cc] 37); have n6 := keep_cell aV (keep_cell hb2 c6))
   | (go_at_call 9; refine (LG.out _ B0.out).mono ?_; rintro e w1 ⟨rfl, hb1⟩; have b1 := keep_below B0.out hb1; have c0 := keep_cell hb1 (C0.out 0 _ rfl); have c1 := keep_cell hb1 (C0.out 1 _ rfl); have c2 := keep_cell hb1 (C0.out 2 _ rfl); have c3 := keep_cell hb1 (C0.out 3 _ rfl); have c4 := keep_cell hb1 (C0.out 4 _ rfl); have c5 := keep_cell hb1 (C0.out 5 _ rfl); have c6 := keep_cell hb1 (C0.out 6 _ rfl)))
  have hra3 := hra.below aV
  have b3 := keep_below b2 aV
  have HC3 : Hid (∀ W, Below (w2.alloc (.cells #[.int .i64 0, .int .i64 (-1), .slice ra rn rc, .slice aa tn ac, .slice ca cn cc] 37)).heap.size (w2.alloc (.cells #[.int .i64 0, .int .i64 (-1), .slice ra rn rc, .slice aa tn ac, .slice ca cn cc] 37)) W → (∀ j v, (#[.int .i64 sw, .int .i64 la, .int .i64 cm, .int .i64 inp, .slice sa sn sc, .slice ba bn bc, .slice ta tn tc] : Array Value).toList[j]? = some v → W.cell? ⟨w.heap.size, j, none⟩ = some v) ∧ W.cell? ⟨w2.heap.size, 3, none⟩ = some (.slice aa tn ac)) := fun W hW =>
   ⟨fun j v hj => keep_cell hW (keep_cell aV (keep_cell hb2 (keep_cell hb1 (C0.out j v hj)))), keep_cell hW (v0 3 _ rfl)⟩
  obtain ⟨gv, hgv⟩ : ∃ g, g = w2.heap.size := ⟨_, rfl⟩
  obtain ⟨W3, hW3⟩ : ∃ W, W = w2.alloc (.cells #[.int .i64 0, .int .i64 (-1), .slice ra rn rc, .slice aa tn ac, .slice ca cn cc] 37) := ⟨_, rfl⟩
  rw [← hW3] at hra3 b3 HC3 ⊢
  rw [← hgv] at HC3 ⊢
  have HRA := Lib.hid hra3
  have HB3 := Lib.hid b3
  clear hgv hW3 hra hra3 b3 aV v0 n6 hb2 b2 hb1 b1 c0 c1 c2 c3 c4 c5 c6 JG LG C0 B0
  go_loopw [6] (fun i wr => ∃ k : Nat, k ≤ tn ∧ i = .int .i64 k ∧ Hid (Below W3.heap.size W3 wr)) (fun i _ => tn - (intOf i).toNat)
  case atStart => exact ⟨0, by omega, rfl, Below.refl _ _⟩
  case round =>
   obtain ⟨k, hk, rfl, HBL⟩ := hrel
   have HBW := Lib.hid (keep_below HB3.out HBL.out)
   obtain ⟨nn, v3⟩ := HC3.out wr HBL.out
   have n6 := nn 6 _ rfl
   by_cases hlt : k < tn
   ·obtain ⟨b9, o9, ⟨pr, pe, de, ji, ⟨xa, xn, xc⟩, ⟨oa, on, oc⟩, ⟨ca', cn', cc'⟩⟩, T, ha9, hb9, hT, ht, hcs⟩ := HI.out.task (k := k) hlt
    simp only at ha9
    obtain ⟨⟨f1, f2, f3⟩, f4, f5⟩   := F4b.out k (by have := HLN.out; omega)
    have eT : tkAt m k = T := tkAt_of hT
    rw [eT] at f2 f3 f5
    have hde : de = T.de := ht.2.2.1
    have hji : ji = T.ji := ht.2.2.2.1
    rw [← hde] at f2
    rw [← hji] at f3 f5
    obtain ⟨b8, o8, rv, ha8, hb8, hrv, hc8⟩ := HRA.out.item (k := k) hlt
    have hgd : A.getD k 0 = rv := by rw [List.getD_eq_getElem?_getD, hrv]; rfl
    rw [hgd] at f2 f3
    obtain ⟨SL, hSL⟩ : ∃ SL, slW m (k : Int) = SL := ⟨_, rfl⟩
    have CS := Lib.hid (slots_any ⟨sw, la, cm, inp, ⟨sa, sn, sc⟩, ⟨ba, bn, bc⟩, ⟨ta, tn, tc⟩⟩ m (k : Int) wr (HI.out.below HBW.out) (HN.out.below HBW.out) SL 0 f1 hSL)
    rw [hSL] at f3 f4
    simp only [ImV.v, Sl.v] at CS
    have d2 : w.cell? ⟨b9, o9 + k * 7 + 2, none⟩ = some (.int .i64 de) := hcs 2 _ rfl
    have d3 : w.cell? ⟨b9, o9 + k * 7 + 3, none⟩ = some (.int .i64 ji) := hcs 3 _ rfl
    have D2 := Lib.hid d2
    have D3 := Lib.hid d3
    have HC8 := Lib.hid hc8
    subst ha8 ha9
    have n0 := nn 0 _ rfl
    have n1 := nn 1 _ rfl
    have n2 := nn 2 _ rfl
    have n3 := nn 3 _ rfl
    have n4 := nn 4 _ rfl
    have n5 := nn 5 _ rfl
    have i1 : (0 : Int) ≤ (k : Int) := by omega
    have i2 : (k : Int) < (tn : Int) := by omega
    have j1 : decide (de < rv) = false := decide_eq_false (by omega)
    have j2 : IntKind.i64.wrap (SL + ji) = SL + ji := IntWalk.i64_in _ (by omega)
    have j3 : decide (rv < SL + ji) = false := decide_eq_false (by omega)
    clear hT ht hcs d2 d3 hc8 hrv hgd eT hde hji f1 f2 f3 f4 f5 hSL nn
    go_wp2_with (go_at_call 22; refine CS.out.mono ?_; rintro e w4 ⟨rfl, hb4⟩; have y3 := keep_cell hb4 v3; have y6 := keep_cell hb4 n6; have d2 := keep_cell (keep_below HBW.out hb4) D2.out; have d3 := keep_cell (keep_below HBW.out hb4) D3.out; have d8 := keep_cell (keep_below HBL.out hb4) HC8.out)
    go_quiet (fail)
    have hb5 : Below W3.heap.size W3 (w4.drewN nq) := (keep_below HBL.out hb4).trans ⟨rfl, rfl, rfl, Nat.le_refl _, fun _ _ => rfl⟩
    clear HBL HBW CS y3 y6 d2 d3 d8 D2 D3 HC8 n0 n1 n2 n3 n4 n5 n6 v3 hb4
    go_wp2
    go_roundw
    case rel => exact ⟨k + 1, by omega, by go_num, hb5⟩
    case measure => simp [intOf]; omega
   ·clear nn v3
    go_wp2_with (go_at_call 10; refine (KN.out _ HBW.out).mono ?_; rintro e w5 ⟨rfl, hb5⟩)
    go_ret
    exact ⟨rfl, keep_below HBW.out hb5⟩
 ·have hs := F2.out (fun h => c1 (Or.inl h)) (fun h => c1 (Or.inr h)) c0
  obtain ⟨s1, s2, s3⟩ := hs
  have z1 : rn = 0 := by rw [HRN.out, s1]; rfl
  have z2 : an = 0 := by rw [HAN.out, s2]; rfl
  have z3 : cn = 0 := by rw [HCN.out, s3]; rfl
  subst z1 z2 z3
  have g0 : (E == 0) = false := by simpa using c0
  have g1 : (E != 0) = true := by simpa using c0
  have g2 : (E == 13) = false := by
   have : ¬ E = 13 := fun h => c1 (Or.inl h)
   simpa using this
  clear s1 s2 s3 c1 F1 F2 F3 F4 F5 F6 HI HN HCN HAN HRN HLN
  by_cases c4 : E = 4
  ·subst c4
   clear g0 g1 g2 c0
   go_enter Tryz.func5, Tryz.ntmps5
   go_wp2_with (first
    | (go_at_call 10; refine (KN.out _ (keep_below b2 (below_alloc _ _))).mono ?_; rintro e w4 ⟨rfl, hb4⟩)
    | (go_at_call 13; refine (JG.out _ b1).mono ?_; rintro e w2 ⟨ra, rc, aa, ac, ca, cc, rfl, -, -, -, hb2⟩; have b2 := keep_below b1 hb2)
    | (go_at_call 9; refine (LG.out _ B0.out).mono ?_; rintro e w1 ⟨rfl, hb1⟩; have b1 := keep_below B0.out hb1; have c0 := keep_cell hb1 (C0.out 0 _ rfl); have c1 := keep_cell hb1 (C0.out 1 _ rfl); have c2 := keep_cell hb1 (C0.out 2 _ rfl); have c3 := keep_cell hb1 (C0.out 3 _ rfl); have c4 := keep_cell hb1 (C0.out 4 _ rfl); have c5 := keep_cell hb1 (C0.out 5 _ rfl); have c6 := keep_cell hb1 (C0.out 6 _ rfl)))
   go_ret
   exact ⟨rfl, keep_below (keep_below b2 (below_alloc _ _)) hb4⟩
  ·have g3 : (E == 4) = false := by simpa using c4
   clear c4 c0
   go_enter Tryz.func5, Tryz.ntmps5
   go_wp2_with (first
    | (go_at_call 10; refine (KN.out _ (keep_below b2 (below_alloc _ _))).mono ?_; rintro e w4 ⟨rfl, hb4⟩)
    | (go_at_call 13; refine (JG.out _ b1).mono ?_; rintro e w2 ⟨ra, rc, aa, ac, ca, cc, rfl, -, -, -, hb2⟩; have b2 := keep_below b1 hb2)
    | (go_at_call 9; refine (LG.out _ B0.out).mono ?_; rintro e w1 ⟨rfl, hb1⟩; have b1 := keep_below B0.out hb1; have c0 := keep_cell hb1 (C0.out 0 _ rfl); have c1 := keep_cell hb1 (C0.out 1 _ rfl); have c2 := keep_cell hb1 (C0.out 2 _ rfl); have c3 := keep_cell hb1 (C0.out 3 _ rfl); have c4 := keep_cell hb1 (C0.out 4 _ rfl); have c5 := keep_cell hb1 (C0.out 5 _ rfl); have c6 := keep_cell hb1 (C0.out 6 _ rfl)))
   go_ret
   exact ⟨rfl, keep_below (keep_below b2 (below_alloc _ _)) hb4⟩
end Go.Proofs.YtngehojibcmieaaGreatDoor
end
