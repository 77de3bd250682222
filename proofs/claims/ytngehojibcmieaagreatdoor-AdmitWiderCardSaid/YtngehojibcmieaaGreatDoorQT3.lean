/- What is proved here: the walk of the law AdmitWider. Condition: the tables hold what their initialisers lay. -/
import Derived.Test.YtngehojibcmieaaGreatDoorQT3a
import Derived.Test.YtngehojibcmieaaGreatDoorQP5a
set_option maxRecDepth 100000
set_option maxHeartbeats 8000000
section
namespace Go.Proofs.YtngehojibcmieaaGreatDoor
open Go.ChangeShapes Go.WideShapes Go.RowKit
theorem u8_in {k : Int} (h : (Lit.int .u8 k).wf = true) : 0 ≤ k ∧ k ≤ 255 := by
 have h4 : IntKind.u8.min ≤ k ∧ k ≤ IntKind.u8.max := by simpa [Lit.wf] using h
 have e1 : IntKind.u8.min = 0 := by decide
 have e2 : IntKind.u8.max = 255 := by decide
 rw [e1, e2] at h4
 exact h4
theorem MidT.drew {W0 W : World} {B g base n cap : Nat} {f : Nat → Value} {xs : List Value} (h : MidT W0 W B g base n cap f xs) : MidT W0 W.drew B g base n cap f xs :=
 ⟨h.row.drew, h.own, h.bel.trans ⟨rfl, rfl, rfl, Nat.le_refl _, fun _ _ => rfl⟩, h.ne, h.lb, h.lg⟩
theorem wider_walk (x : ImV) (m : ImP) (mo : Int) (w : World) (h : x.Is w m) (hmo : 0 ≤ mo ∧ mo ≤ 255) (hN : Nms w) (hH : Kr.Hal w) :
  Calls Tryz.prog 7 #[x.v, .int .u8 mo] w fun e w' => e = .returned (.bool true) ∧ Below w.heap.size w w' := by
 have KN := Lib.hid (fun W (hb : Below w.heap.size w W) => known15_any W (hN.below hb) (hH.below hb))
 obtain ⟨lt, hlt0⟩ : ∃ lt, ltE m = lt := ⟨_, rfl⟩
 have LG := Lib.hid (fun W (hb : Below w.heap.size w W) => light15_any x m W (h.below hb) lt hlt0)
 have hlen : x.tasks.n = m.tasks.length := h.2.2.2.2.2.2.1.1
 by_cases z : lt = 0
 ·have e1 : (lt == 0) = true := by simpa using z
  clear z h hN hH hlt0 hlen
  obtain ⟨sw, la, cm, inp, ⟨sa, sn, sc⟩, ⟨ba, bn, bc⟩, ⟨ta, tn, tc⟩⟩ := x
  simp only [ImV.v, Sl.v] at LG ⊢
  have B0 := Lib.hid (below_alloc w (.cells #[.int .i64 sw, .int .i64 la, .int .i64 cm, .int .i64 inp, .slice sa sn sc, .slice ba bn bc, .slice ta tn tc] 26))
  go_enter Tryz.func7, Tryz.ntmps7
  go_wp2_with (first
   | (go_at_call 10; refine (KN.out _ b1).mono ?_; rintro e w2 ⟨rfl, hb2⟩)
   | (go_at_call 9; refine (LG.out _ B0.out).mono ?_; rintro e w1 ⟨rfl, hb1⟩; have b1 := keep_below B0.out hb1))
  go_ret
  exact ⟨rfl, keep_below b1 hb2⟩
 have e1 : (lt == 0) = false := by simpa using z
 have hlight : lightE m ≠ 0 := fun h0 => z (by rw [← hlt0]; unfold ltE; rw [if_pos h0])
 have ht80 : m.tasks.length ≤ 80 := (light_few hlight).2.2.1
 obtain ⟨f, hf⟩ : ∃ f, f = wdP mo := ⟨_, rfl⟩
 obtain ⟨⟨E, L, R, A, C⟩, hK⟩ : ∃ K, jdA m = K := ⟨_, rfl⟩
 obtain ⟨⟨E', L', R', A', C'⟩, hK'⟩ : ∃ K, jdA (wdM f m) = K := ⟨_, rfl⟩
 have JG := Lib.hid (fun W (hb : Below w.heap.size w W) => judgeW_any x m W (h.below hb) (hN.below hb) E L R A C hK)
 have JF := Lib.hid (fun (y : ImV) W (hb : Below w.heap.size w W) (hy : y.Is W (wdM f m)) => judgeW_any y (wdM f m) W hy (hN.below hb) E' L' R' A' C' hK')
 have F1 := Lib.hid (fun (h0 : (jdA m).er = 0) => And.intro (jd_wider (f := f) (by rw [hf]; exact wdP_in hmo.1 hmo.2) h0) (jd_relen h0))
 rw [hK, hK'] at F1
 simp only at F1
 obtain ⟨V, hV, hVl, hV0, hVc⟩ := raw_cells h.2.2.2.2.2.2.1
 have HS : Hid (∀ (W : World) (g cap base : Nat), Below w.heap.size w W → W.ownsRow base 59 7 (.slice (some ⟨g, 0, none⟩) V.length cap) V.length (tkC (V.map (wdV f))) → ImV.Is W { x with tasks := ⟨some ⟨g, 0, none⟩, V.length, cap⟩ } (wdM f m)) := fun W g cap base hb ho => wide_is (h.below hb) (hV.below hb) ho (by omega)
 have HFp : Hid (∀ p, f p = min 1048576 (IntKind.i64.wrap (p + mo))) := fun p => by rw [hf]; rfl
 have HMO := Lib.hid hmo
 clear hlt0 hK hK' h hN hH z hlight hf hmo hV
 obtain ⟨sw, la, cm, inp, ⟨sa, sn, sc⟩, ⟨ba, bn, bc⟩, ⟨ta, tn, tc⟩⟩ := x
 simp only [ImV.v, Sl.v] at LG JG JF hlen hVl hV0 hVc HS ⊢
 subst hVl
 have HLN := Lib.hid hlen
 have hn80 : V.length ≤ 80 := by omega
 have HVc := Lib.hid hVc
 have HV0 := Lib.hid hV0
 clear hlen hVc hV0 ht80
 obtain ⟨tn, htn⟩ : ∃ tn, tn = V.length := ⟨_, rfl⟩
 rw [← htn] at LG JG HLN hn80 HS HV0 ⊢
 have HTN := Lib.hid htn
 have HVl : Hid ((tkC V).length = tn * 7) := by show _ = _; rw [tkC_len, htn]
 clear htn
 have C0 := Lib.hid (cells_new w #[.int .i64 sw, .int .i64 la, .int .i64 cm, .int .i64 inp, .slice sa sn sc, .slice ba bn bc, .slice ta tn tc] 26)
 have B0 := Lib.hid (below_alloc w (.cells #[.int .i64 sw, .int .i64 la, .int .i64 cm, .int .i64 inp, .slice sa sn sc, .slice ba bn bc, .slice ta tn tc] 26))
 obtain ⟨it, it0, it1, it2, it3⟩ := parts_info itk_info
 obtain ⟨rn, hrn⟩ : ∃ rn, rn = R.length := ⟨_, rfl⟩
 obtain ⟨an, han⟩ : ∃ an, an = A.length := ⟨_, rfl⟩
 obtain ⟨cn, hcn⟩ : ∃ cn, cn = C.length := ⟨_, rfl⟩
 obtain ⟨rn', hrn'⟩ : ∃ rn, rn = R'.length := ⟨_, rfl⟩
 obtain ⟨an', han'⟩ : ∃ an, an = A'.length := ⟨_, rfl⟩
 obtain ⟨cn', hcn'⟩ : ∃ cn, cn = C'.length := ⟨_, rfl⟩
 rw [← hrn, ← han, ← hcn] at JG
 rw [← hrn', ← han', ← hcn'] at JF
 have HAN := Lib.hid han
 have HAN' := Lib.hid han'
 clear hrn han hcn hrn' han' hcn'
 go_enter Tryz.func7, Tryz.ntmps7
 go_upto_region 4 with (first
  | (go_at_call 13; refine (JG.out _ b1).mono ?_; rintro e w2 ⟨ra, rc, aa, ac, ca, cc, rfl, -, hra, -, hb2⟩; have b2 := keep_below b1 hb2)
  | (go_at_call 9; refine (LG.out _ B0.out).mono ?_; rintro e w1 ⟨rfl, hb1⟩; have b1 := keep_below B0.out hb1; have c0 := keep_cell hb1 (C0.out 0 _ rfl); have c1 := keep_cell hb1 (C0.out 1 _ rfl); have c2 := keep_cell hb1 (C0.out 2 _ rfl); have c3 := keep_cell hb1 (C0.out 3 _ rfl); have c4 := keep_cell hb1 (C0.out 4 _ rfl); have c5 := keep_cell hb1 (C0.out 5 _ rfl); have c6 := keep_cell hb1 (C0.out 6 _ rfl)))
 have v0 := cells_new w2 #[.int .i64 E, .int .i64 L, .slice ra rn rc, .slice aa an ac, .slice ca cn cc] 37
 have aV := below_alloc w2 (.cells #[.int .i64 E, .int .i64 L, .slice ra rn rc, .slice aa an ac, .slice ca cn cc] 37)
 have hra3 := hra.below aV
 have b3 := keep_below b2 aV
 have m0 := keep_cell aV (keep_cell hb2 c0)
 have m1 := keep_cell aV (keep_cell hb2 c1)
 have m2 := keep_cell aV (keep_cell hb2 c2)
 have m3 := keep_cell aV (keep_cell hb2 c3)
 have m4 := keep_cell aV (keep_cell hb2 c4)
 have m5 := keep_cell aV (keep_cell hb2 c5)
 have m6 := keep_cell aV (keep_cell hb2 c6)
 have v00 := v0 0 _ rfl
 have v03 := v0 3 _ rfl
 obtain ⟨gv, hgv⟩ : ∃ g, g = w2.heap.size := ⟨_, rfl⟩
 obtain ⟨W3, hW3⟩ : ∃ W, W = w2.alloc (.cells #[.int .i64 E, .int .i64 L, .slice ra rn rc, .slice aa an ac, .slice ca cn cc] 37) := ⟨_, rfl⟩
 rw [← hW3] at hra3 b3 m0 m1 m2 m3 m4 m5 m6 v00 v03 ⊢
 rw [← hgv] at v00 v03 ⊢
 have HRA := Lib.hid hra3
 have HB3 := Lib.hid b3
 have HV3 := Lib.hid (And.intro v00 v03)
 clear hgv hW3 hra hra3 b3 aV v0 v00 v03 hb2 b2 hb1 b1 c0 c1 c2 c3 c4 c5 c6 JG LG C0 B0
 have CR := Lib.hid (copy_row W3 W3 (Below.refl _ _) #[.int .i64 sw, .int .i64 la, .int .i64 cm, .int .i64 inp, .slice sa sn sc, .slice ba bn bc, .slice ta tn tc] 26 59 7 rfl)
 have p6 := keep_cell (keep_below (below_alloc W3 (.cells #[.int .i64 sw, .int .i64 la, .int .i64 cm, .int .i64 inp, .slice sa sn sc, .slice ba bn bc, .slice ta tn tc] 26)) (below_alloc _ (.cells #[] 59))) m6
 go_upto_region 6 with (refine wpList_append_gen _ (by rfl) (.tmp 17) (.tmp 19) 24 rfl (W3.heap.size + 1) 59 it (.agg #[.int .i64 0, .int .i64 0, .int .i64 0, .int .i64 0, .slice none 0 0, .slice none 0 0, .slice none 0 0]) 7 104 Tryz.underlying24 it0 it1 it2 it3 rfl (by omega) (by omega) (W3.heap.size + 1) 0 0 [] (by simp [Act.eval]) CR.out.2.1 ta tn tc (tkC V) (by simp [Act.eval]) HVl.out (HVc.out _ (keep_below HB3.out CR.out.2.2.1)) HV0.out (tkC_one V) (by omega) (by rw [CR.out.2.2.2]; omega) ?_; rintro g cap' w5 hown0 hgr; have MM := Lib.hid (mid_of CR.out.1 CR.out.2.2.1 CR.out.2.2.2 (Nat.le_refl _) hown0 hgr); clear hown0 hgr; have o6 : w5.cell? ⟨W3.heap.size, 6, none⟩ = some (.slice ta tn tc) := MM.out.row.cell (i := 6) (by omega); have z6 := MM.out.row.frozen 6)
 obtain ⟨ff, hff⟩ : ∃ ff : Nat → Value, ff = fun i => if i = 6 then Value.slice (some ⟨g, 0, none⟩) tn cap' else (#[.int .i64 sw, .int .i64 la, .int .i64 cm, .int .i64 inp, .slice sa sn sc, .slice ba bn bc, .slice ta tn tc] : Array Value).getD i undef := ⟨_, rfl⟩
 have HF6 : Hid (∀ j, j < 7 → ff j = ([.int .i64 sw, .int .i64 la, .int .i64 cm, .int .i64 inp, .slice sa sn sc, .slice ba bn bc, .slice (some ⟨g, 0, none⟩) tn cap'] : List Value).getD j undef) := fun j hj => by
  rw [hff]; exact (getD_seven _ _ _ _ _ _ _ j _).resolve_right (by omega)
 have mm := MM.out.setB 6 (.slice (some ⟨g, 0, none⟩) tn cap')
 rw [← hff] at mm
 obtain ⟨W6, hW6⟩ : ∃ W, W = w5.setCell ⟨W3.heap.size, 6, none⟩ (.slice (some ⟨g, 0, none⟩) tn cap') := ⟨_, rfl⟩
 rw [← hW6] at mm ⊢
 obtain ⟨B, hB⟩ : ∃ B, B = W3.heap.size := ⟨_, rfl⟩
 rw [← hB] at mm ⊢
 have HM6 := Lib.hid mm
 clear mm hff hW6 hB MM o6 z6 CR p6 m0 m1 m2 m3 m4 m5 m6 e1
 have j7 : IntKind.i64.wrap mo = mo := IntWalk.i64_in _ (by have := HMO.out; omega)
 go_wp2
 go_loopw [7] (fun i wr => ∃ k : Nat, k ≤ tn ∧ i = .int .i64 k ∧ Hid (MidT W3 wr B g (B + 1) tn cap' ff (tkC (upV f V k)))) (fun i _ => tn - (intOf i).toNat)
 case atStart => exact ⟨0, by omega, rfl, HM6.out⟩
 case round =>
  obtain ⟨k, hk, rfl, HM⟩ := hrel
  have d6 : wr.cell? ⟨B, 6, none⟩ = some (.slice (some ⟨g, 0, none⟩) tn cap') := by rw [HM.out.row.cell (i := 6) (by omega), HF6.out 6 (by omega)]; rfl
  by_cases hlt : k < tn
  ·obtain ⟨t, ht⟩ : ∃ t, V[k]? = some t := ⟨_, List.getElem?_eq_getElem (by have := HTN.out; omega)⟩
   obtain ⟨pe, hpe⟩ : ∃ p, p = t.pe := ⟨_, rfl⟩
   have y1 : wr.cell? ⟨g, k * 7 + 1, none⟩ = some (.int .i64 pe) := by
    obtain ⟨hk2, e⟩ := List.getElem?_eq_some_iff.1 (upV_at (f := f) ht)
    rw [HM.out.own.cellAt _ (by omega), tkC_get _ k 1 hk2 (by omega), e, hpe]; rfl
   have z1 : wr.frozen? ⟨g, k * 7 + 1, none⟩ = false := HM.out.own.frozenAt _
   have i1 : (0 : Int) ≤ (k : Int) := by omega
   have i2 : (k : Int) < (tn : Int) := by omega
   have hc := upC_set (f := f) ht
   have mm := HM.out.setG (k * 7 + 1) (.int .i64 (f pe))
   rw [hpe, hc, ← hpe, HFp.out pe, IntWalk.i64_left] at mm
   have HM7 := Lib.hid mm
   clear mm hc hpe ht HM
   go_wp2
   go_region
   have HM8 := Lib.hid (show MidT W3 (wr.setCell ⟨g, k * 7 + 1, none⟩ (.int .i64 (min 1048576 (wrap64 (pe + mo))))).drew B g (B + 1) tn cap' ff (tkC (upV f V (k + 1))) from HM7.out.drew)
   clear HM7 y1 z1 d6
   go_wp2
   go_roundw
   case rel => exact ⟨k + 1, by omega, by go_num, HM8.out⟩
   case measure => simp [intOf]; omega
  ·have hkn : k = tn := by omega
   have hm := HM.out
   rw [show k = V.length by have := HTN.out; omega, upV_all] at hm
   have v00 := keep_cell hm.bel HV3.out.1
   have v03 := keep_cell hm.bel HV3.out.2
   have hbw := keep_below HB3.out hm.bel
   have HRW := Lib.hid (HRA.out.below hm.bel)
   have hIs := HS.out wr g cap' (B + 1) hbw hm.own
   have HJ := Lib.hid (JF.out _ wr hbw hIs)
   have HBW := Lib.hid hbw
   have x0 : wr.cell? ⟨B, 0, none⟩ = some (.int .i64 sw) := by rw [HM.out.row.cell (i := 0) (by omega), HF6.out 0 (by omega)]; rfl
   have x1 : wr.cell? ⟨B, 1, none⟩ = some (.int .i64 la) := by rw [HM.out.row.cell (i := 1) (by omega), HF6.out 1 (by omega)]; rfl
   have x2 : wr.cell? ⟨B, 2, none⟩ = some (.int .i64 cm) := by rw [HM.out.row.cell (i := 2) (by omega), HF6.out 2 (by omega)]; rfl
   have x3 : wr.cell? ⟨B, 3, none⟩ = some (.int .i64 inp) := by rw [HM.out.row.cell (i := 3) (by omega), HF6.out 3 (by omega)]; rfl
   have x4 : wr.cell? ⟨B, 4, none⟩ = some (.slice sa sn sc) := by rw [HM.out.row.cell (i := 4) (by omega), HF6.out 4 (by omega)]; rfl
   have x5 : wr.cell? ⟨B, 5, none⟩ = some (.slice ba bn bc) := by rw [HM.out.row.cell (i := 5) (by omega), HF6.out 5 (by omega)]; rfl
   simp only at HJ
   clear hm hbw hIs HM HS JF HM6 HF6 HV3 HRA HB3
   by_cases c0 : E = 0
   ·subst c0
    obtain ⟨⟨p1, p2, p3⟩, p4⟩ := F1.out rfl
    subst p1
    have q2 : an' = an := by rw [HAN'.out, HAN.out, p2]
    have q4 : an = m.tasks.length := by rw [HAN.out, p4]
    have hn8 : an ≤ 80 := by have := HLN.out; omega
    subst q2
    have HP := Lib.hid p3
    have HQ := Lib.hid q4
    clear p2 p3 p4 q4 F1
    go_upto_region 15 with (go_at_call 13; refine HJ.out.mono ?_; rintro e w7 ⟨ra', rc', aa', ac', ca', cc', rfl, -, hra7, -, hb7⟩; have aV7 := below_alloc w7 (.cells #[.int .i64 0, .int .i64 L', .slice ra' rn' rc', .slice aa' an' ac', .slice ca' cn' cc'] 37); have y0 := keep_cell aV7 (keep_cell hb7 v00); have y3 := keep_cell aV7 (keep_cell hb7 v03))
    have u0 := cells_new w7 #[.int .i64 0, .int .i64 L', .slice ra' rn' rc', .slice aa' an' ac', .slice ca' cn' cc'] 37
    have hA := HRW.out.below (keep_below hb7 aV7)
    have hA5 := hra7.below aV7
    have b5 := keep_below HBW.out (keep_below hb7 aV7)
    obtain ⟨g5, hg5⟩ : ∃ g, g = w7.heap.size := ⟨_, rfl⟩
    obtain ⟨W8, hW8⟩ : ∃ W, W = w7.alloc (.cells #[.int .i64 0, .int .i64 L', .slice ra' rn' rc', .slice aa' an' ac', .slice ca' cn' cc'] 37) := ⟨_, rfl⟩
    have u00 := u0 0 _ rfl
    have u03 := u0 3 _ rfl
    rw [← hW8] at u00 u03 y0 y3 hA hA5 b5 ⊢
    rw [← hg5] at u00 u03 ⊢
    have HA := Lib.hid hA
    have HA5 := Lib.hid hA5
    have HB8 := Lib.hid b5
    have HC8 : Hid (∀ W, Below W8.heap.size W8 W → W.cell? ⟨gv, 3, none⟩ = some (.slice aa an' ac) ∧ W.cell? ⟨g5, 3, none⟩ = some (.slice aa' an' ac') ∧ W.cell? ⟨g5, 0, none⟩ = some (.int .i64 0)) := fun W hW => ⟨keep_cell hW y3, keep_cell hW u03, keep_cell hW u00⟩
    clear hg5 hW8 u0 u00 u03 y0 y3 hA hA5 b5 aV7 hb7 hra7 HJ v00 v03 x0 x1 x2 x3 x4 x5 d6 HRW HBW
    go_wp2
    go_loopw [9] (fun i wr => ∃ k : Nat, k ≤ an' ∧ i = .int .i64 k ∧ Hid (Below W8.heap.size W8 wr)) (fun i _ => an' - (intOf i).toNat)
    case atStart => exact ⟨0, by omega, rfl, Below.refl _ _⟩
    case round =>
     obtain ⟨q, hq, rfl, HBL⟩ := hrel
     obtain ⟨y3, u3, u0⟩ := HC8.out _ HBL.out
     by_cases hlq : q < an'
     ·obtain ⟨b8, o8, rv, ha8, hb8, hrv, hc8⟩ := (HA.out.below HBL.out).item (k := q) hlq
      obtain ⟨b9, o9, sv, ha9, hb9, hsv, hc9⟩ := (HA5.out.below HBL.out).item (k := q) hlq
      have hp := HP.out q (by rw [← HQ.out]; exact hlq)
      have e8 : A.getD q 0 = rv := by rw [List.getD_eq_getElem?_getD, hrv]; rfl
      have e9 : A'.getD q 0 = sv := by rw [List.getD_eq_getElem?_getD, hsv]; rfl
      rw [e8, e9] at hp
      have j4 : decide (rv < sv) = false := decide_eq_false (by omega)
      have i1 : (0 : Int) ≤ (q : Int) := by omega
      have i2 : (q : Int) < (an' : Int) := by omega
      subst ha8 ha9
      clear e8 e9 hrv hsv hp
      go_wp2
      go_quiet (fail)
      have hb9 := HBL.out.trans (show Below _ _ (World.drewN _ nq) from ⟨rfl, rfl, rfl, Nat.le_refl _, fun _ _ => rfl⟩)
      clear HBL hc8 hc9 y3 u3 u0
      go_wp2
      go_roundw
      case rel => exact ⟨q + 1, by omega, by go_num, hb9⟩
      case measure => simp [intOf]; omega
     ·have hqn : ¬ q < an' := hlq
      go_wp2_with (go_at_call 10; refine (KN.out _ (keep_below HB8.out HBL.out)).mono ?_; rintro e w9 ⟨rfl, hb9⟩)
      go_ret
      exact ⟨rfl, keep_below (keep_below HB8.out HBL.out) hb9⟩
   ·have g0 : (E == 0) = false := by simpa using c0
    have g1 : (E != 0) = true := by simpa using c0
    clear c0 F1 HJ x0 x1 x2 x3 x4 x5 v03 HRW
    go_wp2_with (go_at_call 10; refine (KN.out _ HBW.out).mono ?_; rintro e w9 ⟨rfl, hb9⟩)
    go_ret
    exact ⟨rfl, keep_below HBW.out hb9⟩
end Go.Proofs.YtngehojibcmieaaGreatDoor
end
