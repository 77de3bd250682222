/- What is proved here: the walk of the law AdmitFewer. Condition: the tables hold what their initialisers lay. -/
import Derived.Test.YtngehojibcmieaaGreatDoorQK1
set_option maxRecDepth 100000
set_option maxHeartbeats 8000000
section
namespace Go.Proofs.YtngehojibcmieaaGreatDoor
open Go.ChangeShapes Go.WideShapes Go.RowKit
theorem fw_is {W : World} {x : ImV} {m : ImP} {n c : Nat} (h : x.Is W m) (hn : n ≤ x.tasks.n) : ImV.Is W { x with tasks := ⟨x.tasks.a, n, c⟩ } (fwM m n) := by
 obtain ⟨h1, h2, h3, h4, h5, h6, ⟨hl, hr⟩, hm⟩ := h
 refine ⟨h1, h2, h3, h4, h5, h6, ⟨?_, fun h0 => ?_⟩, Nat.le_trans hn hm⟩
 ·show n = (m.tasks.take n).length
  rw [List.length_take, ← hl]; exact (Nat.min_eq_left hn).symm
 ·have h0' : 0 < n := h0
  obtain ⟨b, off, e, hlt, hc⟩ := hr (by omega)
  refine ⟨b, off, e, hlt, fun i hi => ?_⟩
  have hi' : i < n := hi
  obtain ⟨t, T, g1, g2, g3⟩ := hc i (by omega)
  exact ⟨t, T, by show (m.tasks.take n)[i]? = _; rw [List.getElem?_take, if_pos hi']; exact g1, g2, g3⟩
theorem fewer_walk (x : ImV) (m : ImP) (w : World) (h : x.Is w m) (hcap : x.tasks.n ≤ x.tasks.c) (hN : Nms w) (hH : Kr.Hal w) :
  Calls Tryz.prog 8 #[x.v] w fun e w' => e = .returned (.bool true) ∧ Below w.heap.size w w' := by
 have KN := Lib.hid (fun W (hb : Below w.heap.size w W) => known15_any W (hN.below hb) (hH.below hb))
 obtain ⟨lt, hlt0⟩ : ∃ lt, ltE m = lt := ⟨_, rfl⟩
 have LG := Lib.hid (fun W (hb : Below w.heap.size w W) => light15_any x m W (h.below hb) lt hlt0)
 have hlen : x.tasks.n = m.tasks.length := h.2.2.2.2.2.2.1.1
 have hmx : x.tasks.n ≤ 140737488355328 := h.2.2.2.2.2.2.2
 by_cases z : lt = 0
 ·have e1 : (lt == 0) = true := by simpa using z
  clear z h hN hH hlt0 hlen hcap hmx
  obtain ⟨sw, la, cm, inp, ⟨sa, sn, sc⟩, ⟨ba, bn, bc⟩, ⟨ta, tn, tc⟩⟩ := x
  simp only [ImV.v, Sl.v] at LG ⊢
  have B0 := Lib.hid (below_alloc w (.cells #[.int .i64 sw, .int .i64 la, .int .i64 cm, .int .i64 inp, .slice sa sn sc, .slice ba bn bc, .slice ta tn tc] 26))
  go_enter Tryz.func8, Tryz.ntmps8
  go_wp2_with (first
   | (go_at_call 10; refine (KN.out _ b1).mono ?_; rintro e w2 ⟨rfl, hb2⟩)
   | (go_at_call 9; refine (LG.out _ B0.out).mono ?_; rintro e w1 ⟨rfl, hb1⟩; have b1 := keep_below B0.out hb1))
  go_ret
  exact ⟨rfl, keep_below b1 hb2⟩
 have e1 : (lt == 0) = false := by simpa using z
 by_cases h2 : x.tasks.n < 2
 ·clear z h hN hH hlt0 hlen hcap
  obtain ⟨sw, la, cm, inp, ⟨sa, sn, sc⟩, ⟨ba, bn, bc⟩, ⟨ta, tn, tc⟩⟩ := x
  simp only [ImV.v, Sl.v] at LG h2 hmx ⊢
  have C0 := Lib.hid (cells_new w #[.int .i64 sw, .int .i64 la, .int .i64 cm, .int .i64 inp, .slice sa sn sc, .slice ba bn bc, .slice ta tn tc] 26)
  have B0 := Lib.hid (below_alloc w (.cells #[.int .i64 sw, .int .i64 la, .int .i64 cm, .int .i64 inp, .slice sa sn sc, .slice ba bn bc, .slice ta tn tc] 26))
  have d1 : decide ((tn : Int) < 2) = true := decide_eq_true (by omega)
  go_enter Tryz.func8, Tryz.ntmps8
  go_wp2_with (first
   | (go_at_call 10; refine (KN.out _ b1).mono ?_; rintro e w2 ⟨rfl, hb2⟩)
   | (go_at_call 9; refine (LG.out _ B0.out).mono ?_; rintro e w1 ⟨rfl, hb1⟩; have b1 := keep_below B0.out hb1; have c6 := keep_cell hb1 (C0.out 6 _ rfl)))
  go_ret
  exact ⟨rfl, keep_below b1 hb2⟩
 obtain ⟨n1, hn1⟩ : ∃ n1, x.tasks.n = n1 + 1 := ⟨x.tasks.n - 1, by omega⟩
 obtain ⟨⟨E, L, R, A, C⟩, hK⟩ : ∃ K, jdA m = K := ⟨_, rfl⟩
 obtain ⟨⟨E', L', R', A', C'⟩, hK'⟩ : ∃ K, jdA (fwM m n1) = K := ⟨_, rfl⟩
 have JG := Lib.hid (fun W (hb : Below w.heap.size w W) => judgeW_any x m W (h.below hb) (hN.below hb) E L R A C hK)
 have JF := Lib.hid (fun W (hb : Below w.heap.size w W) => judgeW_any { x with tasks := ⟨x.tasks.a, n1, x.tasks.c⟩ } (fwM m n1) W (fw_is (h.below hb) (by omega)) (hN.below hb) E' L' R' A' C' hK')
 have F1 := Lib.hid (fun (h0 : (jdA m).er = 0) => And.intro (jd_fewer h0 (n := n1) (by omega) (by omega)) (And.intro (jd_relen h0) (few_tasks (jd_zero h0)).2.1))
 rw [hK, hK'] at F1
 simp only at F1
 clear hlt0 hK hK' h hN hH
 obtain ⟨sw, la, cm, inp, ⟨sa, sn, sc⟩, ⟨ba, bn, bc⟩, ⟨ta, tn, tc⟩⟩ := x
 simp only [ImV.v, Sl.v] at LG JG JF hcap hlen hmx h2 hn1 ⊢
 have HLN := Lib.hid hlen
 have j1 : IntKind.i64.wrap ((tn : Int) - 1) = (n1 : Int) := by rw [show (tn : Int) - 1 = (n1 : Int) by omega]; exact IntWalk.i64_in _ (by omega)
 have HT1 := Lib.hid hn1
 have d1 : decide ((tn : Int) < 2) = false := decide_eq_false (by omega)
 have j2 : (0 : Int) ≤ (n1 : Int) := by omega
 have j3 : (n1 : Int) ≤ (tc : Int) := by omega
 clear hlen hn1 h2 z hcap
 have C0 := Lib.hid (cells_new w #[.int .i64 sw, .int .i64 la, .int .i64 cm, .int .i64 inp, .slice sa sn sc, .slice ba bn bc, .slice ta tn tc] 26)
 have B0 := Lib.hid (below_alloc w (.cells #[.int .i64 sw, .int .i64 la, .int .i64 cm, .int .i64 inp, .slice sa sn sc, .slice ba bn bc, .slice ta tn tc] 26))
 obtain ⟨rn, hrn⟩ : ∃ rn, rn = R.length := ⟨_, rfl⟩
 obtain ⟨an, han⟩ : ∃ an, an = A.length := ⟨_, rfl⟩
 obtain ⟨cn, hcn⟩ : ∃ cn, cn = C.length := ⟨_, rfl⟩
 obtain ⟨rn', hrn'⟩ : ∃ rn, rn = R'.length := ⟨_, rfl⟩
 obtain ⟨an', han'⟩ : ∃ an, an = A'.length := ⟨_, rfl⟩
 obtain ⟨cn', hcn'⟩ : ∃ cn, cn = C'.length := ⟨_, rfl⟩
 rw [← hrn, ← han, ← hcn] at JG
 rw [← hrn', ← han', ← hcn'] at JF
 have HAN := Lib.hid han
 have HAN' := Lib.hid han'
 clear hrn han hcn hrn' han' hcn'
 by_cases c0 : E = 0
 ·subst c0
  have F2 := F1.out rfl
  obtain ⟨⟨p1, p2, p3⟩, p4, p5⟩ := F2
  subst p1
  have q2 : an' = n1 := by rw [HAN'.out, p2]
  have hn8 : n1 ≤ 8 := by have := HLN.out; have := HT1.out; omega
  have k1 : IntKind.i64.wrap ((an : Int) - 1) = (n1 : Int) := by
   have h1 : an = n1 + 1 := by rw [HAN.out, p4, ← HLN.out, HT1.out]
   rw [show (an : Int) - 1 = (n1 : Int) by omega]; exact IntWalk.i64_in _ (by omega)
  have h1an : n1 < an := by rw [HAN.out, p4, ← HLN.out, HT1.out]; omega
  subst q2
  have HP := Lib.hid p3
  clear p2 p3 p4 p5 F1
  go_enter Tryz.func8, Tryz.ntmps8
  go_upto_region 5 with (first
   | (go_at_call 13; refine (JG.out _ b1).mono ?_; rintro e w2 ⟨ra, rc, aa, ac, ca, cc, rfl, -, hra, -, hb2⟩; have b2 := keep_below b1 hb2; have aV := below_alloc w2 (.cells #[.int .i64 0, .int .i64 L, .slice ra rn rc, .slice aa an ac, .slice ca cn cc] 37); have n0 := keep_cell hb1 (C0.out 0 _ rfl); have n1 := keep_cell hb1 (C0.out 1 _ rfl); have n2 := keep_cell hb1 (C0.out 2 _ rfl); have n3 := keep_cell hb1 (C0.out 3 _ rfl); have n4 := keep_cell hb1 (C0.out 4 _ rfl); have n5 := keep_cell hb1 (C0.out 5 _ rfl); have n6 := keep_cell hb1 (C0.out 6 _ rfl); have m0 := keep_cell aV (keep_cell hb2 n0); have m1 := keep_cell aV (keep_cell hb2 n1); have m2 := keep_cell aV (keep_cell hb2 n2); have m3 := keep_cell aV (keep_cell hb2 n3); have m4 := keep_cell aV (keep_cell hb2 n4); have m5 := keep_cell aV (keep_cell hb2 n5); have m6 := keep_cell aV (keep_cell hb2 n6))
   | (go_at_call 9; refine (LG.out _ B0.out).mono ?_; rintro e w1 ⟨rfl, hb1⟩; have b1 := keep_below B0.out hb1; have c0 := keep_cell hb1 (C0.out 0 _ rfl); have c1 := keep_cell hb1 (C0.out 1 _ rfl); have c2 := keep_cell hb1 (C0.out 2 _ rfl); have c3 := keep_cell hb1 (C0.out 3 _ rfl); have c4 := keep_cell hb1 (C0.out 4 _ rfl); have c5 := keep_cell hb1 (C0.out 5 _ rfl); have c6 := keep_cell hb1 (C0.out 6 _ rfl)))
  have aX := below_alloc (w2.alloc (.cells #[.int .i64 0, .int .i64 L, .slice ra rn rc, .slice aa an ac, .slice ca cn cc] 37)) (.cells #[.int .i64 sw, .int .i64 la, .int .i64 cm, .int .i64 inp, .slice sa sn sc, .slice ba bn bc, .slice ta tn tc] 26)
  have o6 := keep_cell aX m6
  go_upto_region 6 with (fail)
  have v0 := cells_new w2 #[.int .i64 0, .int .i64 L, .slice ra rn rc, .slice aa an ac, .slice ca cn cc] 37
  have aY := below_alloc (w2.alloc (.cells #[.int .i64 0, .int .i64 L, .slice ra rn rc, .slice aa an ac, .slice ca cn cc] 37)) (.cells #[.int .i64 sw, .int .i64 la, .int .i64 cm, .int .i64 inp, .slice sa sn sc, .slice ba bn bc, .slice ta an' tc] 26)
  have bY := keep_below (keep_below b2 aV) aY
  have hraY := (hra.below aV).below aY
  have v0Y := keep_cell aY (v0 0 _ rfl)
  have v3Y := keep_cell aY (v0 3 _ rfl)
  obtain ⟨gv, hgv⟩ : ∃ g, g = w2.heap.size := ⟨_, rfl⟩
  have eY : (w2.alloc (.cells #[.int .i64 0, .int .i64 L, .slice ra rn rc, .slice aa an ac, .slice ca cn cc] 37)).heap.size = w2.heap.size + 1 := by simp
  have x0Y := cells_new (w2.alloc (.cells #[.int .i64 0, .int .i64 L, .slice ra rn rc, .slice aa an ac, .slice ca cn cc] 37)) #[.int .i64 sw, .int .i64 la, .int .i64 cm, .int .i64 inp, .slice sa sn sc, .slice ba bn bc, .slice ta an' tc] 26
  rw [eY] at x0Y
  obtain ⟨gx, hgx⟩ : ∃ g, g = w2.heap.size + 1 := ⟨_, rfl⟩
  obtain ⟨WY, hWY⟩ : ∃ W, W = (w2.alloc (.cells #[.int .i64 0, .int .i64 L, .slice ra rn rc, .slice aa an ac, .slice ca cn cc] 37)).alloc (.cells #[.int .i64 sw, .int .i64 la, .int .i64 cm, .int .i64 inp, .slice sa sn sc, .slice ba bn bc, .slice ta an' tc] 26) := ⟨_, rfl⟩
  rw [← hWY] at bY hraY v0Y v3Y x0Y ⊢
  rw [← hgx] at x0Y ⊢
  rw [← hgv] at v0Y v3Y ⊢
  have x0 := x0Y 0 _ rfl
  have x1 := x0Y 1 _ rfl
  have x2 := x0Y 2 _ rfl
  have x3 := x0Y 3 _ rfl
  have x4 := x0Y 4 _ rfl
  have x5 := x0Y 5 _ rfl
  have x6 := x0Y 6 _ rfl
  have HBY := Lib.hid bY
  have HRY := Lib.hid hraY
  clear hWY hgx hgv x0Y eY bY hraY aY aX aV v0 hra o6 m0 m1 m2 m3 m4 m5 m6 hb1 hb2 b1 b2 JG LG C0 B0 c0 c1 c2 c3 c4 c5 c6
  go_upto_region 9 with (go_at_call 13; refine (JF.out _ HBY.out).mono ?_; rintro e w5 ⟨ra', rc', aa', ac', ca', cc', rfl, -, hra5, -, hb5⟩; have aV5 := below_alloc w5 (.cells #[.int .i64 0, .int .i64 L', .slice ra' rn' rc', .slice aa' an' ac', .slice ca' cn' cc'] 37); have y0 := keep_cell aV5 (keep_cell hb5 v0Y))
  have u0 := cells_new w5 #[.int .i64 0, .int .i64 L', .slice ra' rn' rc', .slice aa' an' ac', .slice ca' cn' cc'] 37
  have y3 := keep_cell aV5 (keep_cell hb5 v3Y)
  have hA := HRY.out.below (keep_below hb5 aV5)
  have hA5 := hra5.below aV5
  have b5 := keep_below HBY.out (keep_below hb5 aV5)
  obtain ⟨g5, hg5⟩ : ∃ g, g = w5.heap.size := ⟨_, rfl⟩
  obtain ⟨W6, hW6⟩ : ∃ W, W = w5.alloc (.cells #[.int .i64 0, .int .i64 L', .slice ra' rn' rc', .slice aa' an' ac', .slice ca' cn' cc'] 37) := ⟨_, rfl⟩
  have u00 := u0 0 _ rfl
  have u03 := u0 3 _ rfl
  rw [← hW6] at u00 u03 y0 y3 hA hA5 b5 ⊢
  rw [← hg5] at u00 u03 ⊢
  have HA := Lib.hid hA
  have HA5 := Lib.hid hA5
  have HB6 := Lib.hid b5
  have HC6 : Hid (∀ W, Below W6.heap.size W6 W → W.cell? ⟨gv, 3, none⟩ = some (.slice aa an ac) ∧ W.cell? ⟨g5, 3, none⟩ = some (.slice aa' an' ac') ∧ W.cell? ⟨g5, 0, none⟩ = some (.int .i64 0)) := fun W hW => ⟨keep_cell hW y3, keep_cell hW u03, keep_cell hW u00⟩
  clear hg5 hW6 u0 u00 u03 y0 y3 hA hA5 b5 aV5 hb5 hra5 HRY HBY JF v0Y v3Y x0 x1 x2 x3 x4 x5 x6
  go_wp2
  go_loopw [6] (fun i wr => ∃ k : Nat, k ≤ an' ∧ i = .int .i64 k ∧ Hid (Below W6.heap.size W6 wr)) (fun i _ => an' - (intOf i).toNat)
  case atStart => exact ⟨0, by omega, rfl, Below.refl _ _⟩
  case round =>
   obtain ⟨k, hk, rfl, HBL⟩ := hrel
   obtain ⟨y3, u3, u0⟩ := HC6.out wr HBL.out
   by_cases hlt : k < an'
   ·obtain ⟨b8, o8, rv, ha8, hb8, hrv, hc8⟩ := (HA.out.below HBL.out).item (k := k) (by omega)
    obtain ⟨b9, o9, sv, ha9, hb9, hsv, hc9⟩ := (HA5.out.below HBL.out).item (k := k) hlt
    have hp := HP.out k hlt
    have e8 : A.getD k 0 = rv := by rw [List.getD_eq_getElem?_getD, hrv]; rfl
    have e9 : A'.getD k 0 = sv := by rw [List.getD_eq_getElem?_getD, hsv]; rfl
    rw [e8, e9] at hp
    have j4 : decide (rv < sv) = false := decide_eq_false (by omega)
    have i1 : (0 : Int) ≤ (k : Int) := by omega
    have i2 : (k : Int) < (an' : Int) := by omega
    have i3 : (k : Int) < (an : Int) := by omega
    have i4 : decide ((an : Int) ≤ (k : Int)) = false := decide_eq_false (by omega)
    have i5 : decide (an ≤ k) = false := decide_eq_false (by omega)
    subst ha8 ha9
    clear e8 e9 hrv hsv hp
    go_wp2
    go_quiet (fail)
    have hb9 : Below W6.heap.size W6 (wr.drewN nq) := HBL.out.trans ⟨rfl, rfl, rfl, Nat.le_refl _, fun _ _ => rfl⟩
    clear HBL hc8 hc9 y3 u3 u0
    go_wp2
    go_roundw
    case rel => exact ⟨k + 1, by omega, by go_num, hb9⟩
    case measure => simp [intOf]; omega
   ·have hkn : ¬ k < an' := hlt
    go_wp2_with (go_at_call 10; refine (KN.out _ (keep_below HB6.out HBL.out)).mono ?_; rintro e w7 ⟨rfl, hb7⟩)
    go_ret
    exact ⟨rfl, keep_below (keep_below HB6.out HBL.out) hb7⟩
 ·have g0 : (E == 0) = false := by simpa using c0
  have g1 : (E != 0) = true := by simpa using c0
  clear c0 F1
  go_enter Tryz.func8, Tryz.ntmps8
  go_upto_region 5 with (first
   | (go_at_call 13; refine (JG.out _ b1).mono ?_; rintro e w2 ⟨ra, rc, aa, ac, ca, cc, rfl, -, hra, -, hb2⟩; have b2 := keep_below b1 hb2; have aV := below_alloc w2 (.cells #[.int .i64 E, .int .i64 L, .slice ra rn rc, .slice aa an ac, .slice ca cn cc] 37); have p0 := keep_cell hb1 (C0.out 0 _ rfl); have p1 := keep_cell hb1 (C0.out 1 _ rfl); have p2 := keep_cell hb1 (C0.out 2 _ rfl); have p3 := keep_cell hb1 (C0.out 3 _ rfl); have p4 := keep_cell hb1 (C0.out 4 _ rfl); have p5 := keep_cell hb1 (C0.out 5 _ rfl); have p6 := keep_cell hb1 (C0.out 6 _ rfl); have m0 := keep_cell aV (keep_cell hb2 p0); have m1 := keep_cell aV (keep_cell hb2 p1); have m2 := keep_cell aV (keep_cell hb2 p2); have m3 := keep_cell aV (keep_cell hb2 p3); have m4 := keep_cell aV (keep_cell hb2 p4); have m5 := keep_cell aV (keep_cell hb2 p5); have m6 := keep_cell aV (keep_cell hb2 p6))
   | (go_at_call 9; refine (LG.out _ B0.out).mono ?_; rintro e w1 ⟨rfl, hb1⟩; have b1 := keep_below B0.out hb1; have c0 := keep_cell hb1 (C0.out 0 _ rfl); have c1 := keep_cell hb1 (C0.out 1 _ rfl); have c2 := keep_cell hb1 (C0.out 2 _ rfl); have c3 := keep_cell hb1 (C0.out 3 _ rfl); have c4 := keep_cell hb1 (C0.out 4 _ rfl); have c5 := keep_cell hb1 (C0.out 5 _ rfl); have c6 := keep_cell hb1 (C0.out 6 _ rfl)))
  have aX := below_alloc (w2.alloc (.cells #[.int .i64 E, .int .i64 L, .slice ra rn rc, .slice aa an ac, .slice ca cn cc] 37)) (.cells #[.int .i64 sw, .int .i64 la, .int .i64 cm, .int .i64 inp, .slice sa sn sc, .slice ba bn bc, .slice ta tn tc] 26)
  have o6 := keep_cell aX m6
  go_upto_region 6 with (fail)
  have v0 := cells_new w2 #[.int .i64 E, .int .i64 L, .slice ra rn rc, .slice aa an ac, .slice ca cn cc] 37
  have aY := below_alloc (w2.alloc (.cells #[.int .i64 E, .int .i64 L, .slice ra rn rc, .slice aa an ac, .slice ca cn cc] 37)) (.cells #[.int .i64 sw, .int .i64 la, .int .i64 cm, .int .i64 inp, .slice sa sn sc, .slice ba bn bc, .slice ta n1 tc] 26)
  have bY := keep_below (keep_below b2 aV) aY
  have y0 := keep_cell aY (v0 0 _ rfl)
  go_wp2_with (first
   | (go_at_call 10; refine (KN.out _ (keep_below b5 (below_alloc _ _))).mono ?_; rintro e w7 ⟨rfl, hb7⟩)
   | (go_at_call 13; refine (JF.out _ bY).mono ?_; rintro e w5 ⟨ra', rc', aa', ac', ca', cc', rfl, -, -, -, hb5⟩; have b5 := keep_below bY hb5; have y1 := keep_cell (below_alloc w5 (.cells #[.int .i64 E', .int .i64 L', .slice ra' rn' rc', .slice aa' an' ac', .slice ca' cn' cc'] 37)) (keep_cell hb5 y0)))
  go_ret
  exact ⟨rfl, keep_below (keep_below b5 (below_alloc _ _)) hb7⟩
end Go.Proofs.YtngehojibcmieaaGreatDoor
end
