/- What is proved here: the walk of the law CheckTimes. Condition: the table of names holds what its initialiser lays ('Nms'). -/
import Derived.Test.YthncbnalnfbpnaaDoorWn
import Derived.Test.YthncbnalnfbpnaaDoorRg
namespace Go.Proofs.YthncbnalnfbpnaaDoor
open Go.ChangeShapes Go.WideShapes Go.RowKit

theorem lkA_room (m : ImP) (i : Int) : (lkA m i).length ≤ 200 := by
  unfold lkA
  split
  · rename_i h
    rw [List.length_map]
    have hc := (wrE_zero (taskE_zero h).2.2.2).1
    unfold sA
    rw [if_pos hc]
    have h5 := sec_len (tkAt m i).co (tkAt m i).co.length
    have := (wE_len (lE_zero (rE_zero (cE_zero hc).1).1).1).2
    omega
  · simp
theorem slW_room {m : ImP} {i : Int} (hm : imE m = true) (h : taskE m i = 0) : 0 ≤ slW m i ∧ slW m i ≤ 2000000 := by
  obtain ⟨n1, n2, n3, -⟩ := numE_parts (imE_parts hm).1
  have hc := (wrE_zero (taskE_zero h).2.2.2).1
  have hu := (cE_zero hc).2
  unfold slW cW
  rw [if_pos h, if_pos hc]
  omega
set_option maxHeartbeats 8000000 in
set_option maxRecDepth 100000 in
theorem times_walk (x : ImV) (m : ImP) (pi a b c : Int) (ha : 0 ≤ a ∧ a ≤ 255) (hb : 0 ≤ b ∧ b ≤ 255) (hc : 0 ≤ c ∧ c ≤ 255) (w : World) (h : x.Is w m) (hN : Nms w) :
    Calls Tryd.prog 5 #[x.v, .int .i64 pi, .agg #[.int .u8 a, .int .u8 b, .int .u8 c]] w fun e w' => e = .returned (.bool true) ∧ Below w.heap.size w w' := by
  have KN := Lib.hid (fun W (hb : Below w.heap.size w W) => known_any W (hN.below hb))
  obtain ⟨lg, hlg⟩ : ∃ lg, lightE m = lg := ⟨_, rfl⟩
  have LG := Lib.hid (fun W (hb : Below w.heap.size w W) => light_any x m W (h.below hb) lg hlg)
  obtain ⟨zr, hzr⟩ : ∃ zr, imE m = zr := ⟨_, rfl⟩
  have RG := Lib.hid (fun W (hb : Below w.heap.size w W) => imRight_any x m W (h.below hb) (hN.below hb) zr hzr)
  have HI := Lib.hid h
  have HN := Lib.hid (fun W (hb : Below w.heap.size w W) => hN.below hb)
  clear hlg h hN
  obtain ⟨sw, la, cm, inp, ⟨sa, sn, sc⟩, ⟨ba, bn, bc⟩, ⟨ta, tn, tc⟩⟩ := x
  simp only [ImV.v, Sl.v] at LG RG ⊢
  have B1 := Lib.hid (below_alloc w (.cells #[.int .i64 sw, .int .i64 la, .int .i64 cm, .int .i64 inp, .slice sa sn sc, .slice ba bn bc, .slice ta tn tc] 26))
  have C1 := cells_new w #[.int .i64 sw, .int .i64 la, .int .i64 cm, .int .i64 inp, .slice sa sn sc, .slice ba bn bc, .slice ta tn tc] 26
  have hs1 : (w.alloc (.cells #[.int .i64 sw, .int .i64 la, .int .i64 cm, .int .i64 inp, .slice sa sn sc, .slice ba bn bc, .slice ta tn tc] 26)).heap.size = w.heap.size + 1 := Array.size_push _
  have D1 := cells_new (w.alloc (.cells #[.int .i64 sw, .int .i64 la, .int .i64 cm, .int .i64 inp, .slice sa sn sc, .slice ba bn bc, .slice ta tn tc] 26)) #[.int .u8 a, .int .u8 b, .int .u8 c] 43
  rw [hs1] at D1
  have B2 := below_alloc (w.alloc (.cells #[.int .i64 sw, .int .i64 la, .int .i64 cm, .int .i64 inp, .slice sa sn sc, .slice ba bn bc, .slice ta tn tc] 26)) (.cells #[.int .u8 a, .int .u8 b, .int .u8 c] 43)
  have C0 : Hid (∀ j v, (#[.int .i64 sw, .int .i64 la, .int .i64 cm, .int .i64 inp, .slice sa sn sc, .slice ba bn bc, .slice ta tn tc] : Array Value).toList[j]? = some v → ((w.alloc (.cells #[.int .i64 sw, .int .i64 la, .int .i64 cm, .int .i64 inp, .slice sa sn sc, .slice ba bn bc, .slice ta tn tc] 26)).alloc (.cells #[.int .u8 a, .int .u8 b, .int .u8 c] 43)).cell? ⟨w.heap.size, j, none⟩ = some v) := fun j v hj => keep_cell B2 (C1 j v hj)
  have D0 : Hid (∀ j v, (#[.int .u8 a, .int .u8 b, .int .u8 c] : Array Value).toList[j]? = some v → ((w.alloc (.cells #[.int .i64 sw, .int .i64 la, .int .i64 cm, .int .i64 inp, .slice sa sn sc, .slice ba bn bc, .slice ta tn tc] 26)).alloc (.cells #[.int .u8 a, .int .u8 b, .int .u8 c] 43)).cell? ⟨w.heap.size + 1, j, none⟩ = some v) := D1
  have B0 := Lib.hid (keep_below B1.out B2)
  clear C1 D1 B1 B2 hs1
  by_cases z : lg = 0
  · have e1 : (lg == 0) = true := by simpa using z
    clear z RG HI HN hzr
    go_enter Tryd.func5, Tryd.ntmps5
    go_wp2_with (first
      | (go_at_call 8; refine (LG.out _ B0.out).mono ?_; rintro e w1 ⟨rfl, hb1⟩; have b1 := keep_below B0.out hb1)
      | (go_at_call 10; refine (KN.out _ b1).mono ?_; rintro e w2 ⟨rfl, hb2⟩))
    go_ret
    exact ⟨rfl, keep_below b1 hb2⟩
  have e1 : (lg == 0) = false := by simpa using z
  clear z
  go_enter Tryd.func5, Tryd.ntmps5
  go_upto_region 4 with (go_at_call 8; refine (LG.out _ B0.out).mono ?_; rintro e w1 ⟨rfl, hb1⟩; have c0 := keep_cell hb1 (C0.out 0 _ rfl); have c1 := keep_cell hb1 (C0.out 1 _ rfl); have c2 := keep_cell hb1 (C0.out 2 _ rfl); have c3 := keep_cell hb1 (C0.out 3 _ rfl); have c4 := keep_cell hb1 (C0.out 4 _ rfl); have c5 := keep_cell hb1 (C0.out 5 _ rfl); have c6 := keep_cell hb1 (C0.out 6 _ rfl))
  have K3 := copy_blk hb1 #[.int .i64 sw, .int .i64 la, .int .i64 cm, .int .i64 inp, .slice sa sn sc, .slice ba bn bc, .slice ta tn tc] rfl
  have P1 := Lib.hid hb1
  have HBW := Lib.hid (below_alloc w1 (.cells #[.int .i64 sw, .int .i64 la, .int .i64 cm, .int .i64 inp, .slice sa sn sc, .slice ba bn bc, .slice ta tn tc] 26))
  clear c0 c1 c2 c3 c4 c5 c6 hb1 LG
  obtain ⟨B, hB⟩ : ∃ B, B = w1.heap.size := ⟨_, rfl⟩
  rw [← hB] at K3 ⊢
  generalize w1.alloc (.cells #[.int .i64 sw, .int .i64 la, .int .i64 cm, .int .i64 inp, .slice sa sn sc, .slice ba bn bc, .slice ta tn tc] 26) = W3 at K3 HBW ⊢
  have P3 := Lib.hid K3.bel
  clear hB HBW P1
  have x0 := keep_cell K3.bel (C0.out 0 _ rfl)
  have y0 := keep_cell K3.bel (D0.out 0 _ rfl)
  have o0 := K3.at_ 0 _ rfl
  have z0 := K3.row.frozen 0
  have K3K := Lib.hid K3
  clear K3
  go_upto_region 5 with (fail)
  have K4 := K3K.out.set 0 (.int .i64 (wrap64 (sw + a % 20)))
  clear x0 y0 o0 z0 K3K
  generalize W3.setCell ⟨B, 0, none⟩ (.int .i64 (wrap64 (sw + a % 20))) = W4 at K4 ⊢
  obtain ⟨sw1, hsw1⟩ : ∃ s, s = wrap64 (sw + a % 20) := ⟨_, rfl⟩
  rw [← hsw1] at K4
  clear hsw1
  have K4' : Blk ((w.alloc (.cells #[.int .i64 sw, .int .i64 la, .int .i64 cm, .int .i64 inp, .slice sa sn sc, .slice ba bn bc, .slice ta tn tc] 26)).alloc (.cells #[.int .u8 a, .int .u8 b, .int .u8 c] 43)) W4 B [.int .i64 sw1, .int .i64 la, .int .i64 cm, .int .i64 inp, .slice sa sn sc, .slice ba bn bc, .slice ta tn tc] := K4
  have x1 := keep_cell K4'.bel (C0.out 1 _ rfl)
  have y1 := keep_cell K4'.bel (D0.out 1 _ rfl)
  have o1 := K4'.at_ 1 _ rfl
  have z1 := K4'.row.frozen 1
  have K4K := Lib.hid K4'
  clear K4 K4'
  go_upto_region 6 with (fail)
  have K5 := K4K.out.set 1 (.int .i64 (wrap64 (la + b % 20)))
  clear x1 y1 o1 z1 K4K
  generalize W4.setCell ⟨B, 1, none⟩ (.int .i64 (wrap64 (la + b % 20))) = W5 at K5 ⊢
  obtain ⟨la1, hla1⟩ : ∃ s, s = wrap64 (la + b % 20) := ⟨_, rfl⟩
  rw [← hla1] at K5
  clear hla1
  have K5' : Blk ((w.alloc (.cells #[.int .i64 sw, .int .i64 la, .int .i64 cm, .int .i64 inp, .slice sa sn sc, .slice ba bn bc, .slice ta tn tc] 26)).alloc (.cells #[.int .u8 a, .int .u8 b, .int .u8 c] 43)) W5 B [.int .i64 sw1, .int .i64 la1, .int .i64 cm, .int .i64 inp, .slice sa sn sc, .slice ba bn bc, .slice ta tn tc] := K5
  have x2 := keep_cell K5'.bel (C0.out 2 _ rfl)
  have y2 := keep_cell K5'.bel (D0.out 2 _ rfl)
  have o2 := K5'.at_ 2 _ rfl
  have z2 := K5'.row.frozen 2
  have K5K := Lib.hid K5'
  clear K5 K5'
  go_upto_region 7 with (fail)
  have K6 := K5K.out.set 2 (.int .i64 (wrap64 (cm + c % 20)))
  clear x2 y2 o2 z2 K5K
  generalize W5.setCell ⟨B, 2, none⟩ (.int .i64 (wrap64 (cm + c % 20))) = W6 at K6 ⊢
  obtain ⟨cm1, hcm1⟩ : ∃ s, s = wrap64 (cm + c % 20) := ⟨_, rfl⟩
  rw [← hcm1] at K6
  clear hcm1
  have K6' : Blk ((w.alloc (.cells #[.int .i64 sw, .int .i64 la, .int .i64 cm, .int .i64 inp, .slice sa sn sc, .slice ba bn bc, .slice ta tn tc] 26)).alloc (.cells #[.int .u8 a, .int .u8 b, .int .u8 c] 43)) W6 B [.int .i64 sw1, .int .i64 la1, .int .i64 cm1, .int .i64 inp, .slice sa sn sc, .slice ba bn bc, .slice ta tn tc] := K6
  have HK := Lib.hid K6'
  have HX : Hid (∀ W, Below w.heap.size w W → ImV.Is W ⟨sw1, la1, cm1, inp, ⟨sa, sn, sc⟩, ⟨ba, bn, bc⟩, ⟨ta, tn, tc⟩⟩ { m with sw := sw1, la := la1, cm := cm1 }) := by
    intro W hb
    obtain ⟨k1, k2, k3, k4, k5, k6, k7⟩ := HI.out.below hb
    exact ⟨rfl, rfl, rfl, k4, k5, k6, k7⟩
  obtain ⟨zx, hzx⟩ : ∃ zx, imE { m with sw := sw1, la := la1, cm := cm1 } = zx := ⟨_, rfl⟩
  have RX := Lib.hid (fun W (hb : Below w.heap.size w W) => imRight_any ⟨sw1, la1, cm1, inp, ⟨sa, sn, sc⟩, ⟨ba, bn, bc⟩, ⟨ta, tn, tc⟩⟩ { m with sw := sw1, la := la1, cm := cm1 } W (HX.out W hb) (HN.out W hb) zx hzx)
  clear K6 K6' ha hb hc
  have i0 := keep_cell HK.out.bel (C0.out 0 _ rfl)
  have i1 := keep_cell HK.out.bel (C0.out 1 _ rfl)
  have i2 := keep_cell HK.out.bel (C0.out 2 _ rfl)
  have i3 := keep_cell HK.out.bel (C0.out 3 _ rfl)
  have i4 := keep_cell HK.out.bel (C0.out 4 _ rfl)
  have i5 := keep_cell HK.out.bel (C0.out 5 _ rfl)
  have i6 := keep_cell HK.out.bel (C0.out 6 _ rfl)
  have b6 := keep_below B0.out HK.out.bel
  cases zr
  · go_wp2_with (first
      | (go_at_call 9; refine (RG.out _ b6).mono ?_; rintro e w7 ⟨rfl, hb7⟩; have b7 := keep_below b6 hb7)
      | (go_at_call 10; refine (KN.out _ b7).mono ?_; rintro e w8 ⟨rfl, hb8⟩))
    go_ret
    exact ⟨rfl, keep_below b7 hb8⟩
  cases zx
  · go_wp2_with (first
      | (go_at_call 9; have zz := mk7; clear zz; refine (RX.out _ b7).mono ?_; rintro e w8 ⟨rfl, hb8⟩; have b8 := keep_below b7 hb8)
      | (go_at_call 9; refine (RG.out _ b6).mono ?_; rintro e w7 ⟨rfl, hb7⟩; have b7 := keep_below b6 hb7; have mk7 := True.intro; have x7_0 := (HK.out.below hb7).at_ 0 _ rfl; have x7_1 := (HK.out.below hb7).at_ 1 _ rfl; have x7_2 := (HK.out.below hb7).at_ 2 _ rfl; have x7_3 := (HK.out.below hb7).at_ 3 _ rfl; have x7_4 := (HK.out.below hb7).at_ 4 _ rfl; have x7_5 := (HK.out.below hb7).at_ 5 _ rfl; have x7_6 := (HK.out.below hb7).at_ 6 _ rfl)
      | (go_at_call 10; refine (KN.out _ b8).mono ?_; rintro e w9 ⟨rfl, hb9⟩))
    go_ret
    exact ⟨rfl, keep_below b8 hb9⟩
  obtain ⟨ts1, ts2, ts3⟩ := times_same (a := sw1) (b := la1) (c := cm1) hzr hzx pi
  obtain ⟨er, he⟩ : ∃ er, taskE m pi = er := ⟨_, rfl⟩
  obtain ⟨na, hna⟩ : ∃ na, slW m pi = na := ⟨_, rfl⟩
  obtain ⟨nb, hnb⟩ : ∃ nb, slW { m with sw := sw1, la := la1, cm := cm1 } pi = nb := ⟨_, rfl⟩
  obtain ⟨l, hl⟩ : ∃ l, lkA m pi = l := ⟨_, rfl⟩
  have he2 := ts1.trans he
  have hl2 := ts2.trans hl
  have SLI := Lib.hid (fun W (hb : Below w.heap.size w W) => slots_any ⟨sw, la, cm, inp, ⟨sa, sn, sc⟩, ⟨ba, bn, bc⟩, ⟨ta, tn, tc⟩⟩ m pi W (HI.out.below hb) (HN.out W hb) na er he hna)
  have SLX := Lib.hid (fun W (hb : Below w.heap.size w W) => slots_any ⟨sw1, la1, cm1, inp, ⟨sa, sn, sc⟩, ⟨ba, bn, bc⟩, ⟨ta, tn, tc⟩⟩ { m with sw := sw1, la := la1, cm := cm1 } pi W (HX.out W hb) (HN.out W hb) nb er he2 hnb)
  have LKI := Lib.hid (fun W (hb : Below w.heap.size w W) => locked_any ⟨sw, la, cm, inp, ⟨sa, sn, sc⟩, ⟨ba, bn, bc⟩, ⟨ta, tn, tc⟩⟩ m pi W (HI.out.below hb) (HN.out W hb) er l he hl)
  have LKX := Lib.hid (fun W (hb : Below w.heap.size w W) => locked_any ⟨sw1, la1, cm1, inp, ⟨sa, sn, sc⟩, ⟨ba, bn, bc⟩, ⟨ta, tn, tc⟩⟩ { m with sw := sw1, la := la1, cm := cm1 } pi W (HX.out W hb) (HN.out W hb) er l he2 hl2)
  unfold GotLk at LKI LKX
  have TKI := Lib.hid (fun W (hb : Below w.heap.size w W) => task_any ⟨sw, la, cm, inp, ⟨sa, sn, sc⟩, ⟨ba, bn, bc⟩, ⟨ta, tn, tc⟩⟩ m pi W (HI.out.below hb) (HN.out W hb) er he)
  have TKX := Lib.hid (fun W (hb : Below w.heap.size w W) => task_any ⟨sw1, la1, cm1, inp, ⟨sa, sn, sc⟩, ⟨ba, bn, bc⟩, ⟨ta, tn, tc⟩⟩ { m with sw := sw1, la := la1, cm := cm1 } pi W (HX.out W hb) (HN.out W hb) er he2)
  obtain ⟨p1, p2, p3, -⟩ := numE_parts (imE_parts hzr).1
  obtain ⟨q1, q2, q3, -⟩ := numE_parts (imE_parts hzx).1
  simp only at q1 q2 q3
  have eq1 : sw = m.sw := HI.out.1
  have eq2 : la = m.la := HI.out.2.1
  have eq3 : cm = m.cm := HI.out.2.2.1
  rw [← eq1] at p1
  rw [← eq2] at p2
  rw [← eq3] at p3
  have hl200 : l.length ≤ 200 := by
    rw [← hl]; exact lkA_room m pi
  obtain ⟨z, hz⟩ : ∃ z, (er != 0) = z := ⟨_, rfl⟩
  have hz0 := Lib.hid hz
  have hdd : z = false → nb - na = 2 * (sw1 - sw) + la1 - la + cm1 - cm ∧ 0 ≤ na ∧ na ≤ 2000000 ∧ 0 ≤ nb ∧ nb ≤ 2000000 := by
    intro h0
    rw [h0] at hz
    have h1 : er = 0 := by simpa using hz
    have h2 := ts3 (he.trans h1)
    have h3 := slW_room hzr (he.trans h1)
    have h4 := slW_room hzx (he2.trans h1)
    rw [hna] at h2 h3
    rw [hnb] at h2 h4
    rw [eq1, eq2, eq3]
    omega
  have hw0 : Hid (z = false → IntKind.i64.wrap (nb - na) = nb - na) := fun h0 => by have := hdd h0; exact IntWalk.i64_in _ (by omega)
  have hw7 : Hid (z = false → (nb - na == 2 * (sw1 - sw) + la1 - la + cm1 - cm) = true) := fun h0 => by rw [(hdd h0).1]; simp
  have hw1 : Hid (IntKind.i64.wrap (sw1 - sw) = sw1 - sw) := IntWalk.i64_in _ (by omega)
  have hw2 : Hid (IntKind.i64.wrap (2 * (sw1 - sw)) = 2 * (sw1 - sw)) := IntWalk.i64_in _ (by omega)
  have hw3 : Hid (IntKind.i64.wrap (2 * (sw1 - sw) + la1) = 2 * (sw1 - sw) + la1) := IntWalk.i64_in _ (by omega)
  have hw4 : Hid (IntKind.i64.wrap (2 * (sw1 - sw) + la1 - la) = 2 * (sw1 - sw) + la1 - la) := IntWalk.i64_in _ (by omega)
  have hw5 : Hid (IntKind.i64.wrap (2 * (sw1 - sw) + la1 - la + cm1) = 2 * (sw1 - sw) + la1 - la + cm1) := IntWalk.i64_in _ (by omega)
  have hw6 : Hid (IntKind.i64.wrap (2 * (sw1 - sw) + la1 - la + cm1 - cm) = 2 * (sw1 - sw) + la1 - la + cm1 - cm) := IntWalk.i64_in _ (by omega)
  clear hdd hz eq1 eq2 eq3 p1 p2 p3 q1 q2 q3 he he2 hl hl2 hna hnb ts1 ts2 ts3 hzr hzx
  go_upto_region 13 with (first
    | (go_at_call 9; have zz := mk7; clear zz; refine (RX.out _ b7).mono ?_; rintro e w8 ⟨rfl, hb8⟩; have b8 := keep_below b7 hb8; have n8 := keep_below n7 hb8; have j8_0 := keep_cell (keep_below HK.out.bel n8) (C0.out 0 _ rfl); have j8_1 := keep_cell (keep_below HK.out.bel n8) (C0.out 1 _ rfl); have j8_2 := keep_cell (keep_below HK.out.bel n8) (C0.out 2 _ rfl); have j8_3 := keep_cell (keep_below HK.out.bel n8) (C0.out 3 _ rfl); have j8_4 := keep_cell (keep_below HK.out.bel n8) (C0.out 4 _ rfl); have j8_5 := keep_cell (keep_below HK.out.bel n8) (C0.out 5 _ rfl); have j8_6 := keep_cell (keep_below HK.out.bel n8) (C0.out 6 _ rfl))
    | (go_at_call 9; refine (RG.out _ b6).mono ?_; rintro e w7 ⟨rfl, hb7⟩; have b7 := keep_below b6 hb7; have n7 := hb7; have mk7 := True.intro; have x7_0 := (HK.out.below hb7).at_ 0 _ rfl; have x7_1 := (HK.out.below hb7).at_ 1 _ rfl; have x7_2 := (HK.out.below hb7).at_ 2 _ rfl; have x7_3 := (HK.out.below hb7).at_ 3 _ rfl; have x7_4 := (HK.out.below hb7).at_ 4 _ rfl; have x7_5 := (HK.out.below hb7).at_ 5 _ rfl; have x7_6 := (HK.out.below hb7).at_ 6 _ rfl)
    | (go_at_call 16; have zz := mk9; clear zz; refine (SLX.out _ b9).mono ?_; rintro e w10 ⟨rfl, hb10⟩; have b10 := keep_below b9 hb10; have n10 := keep_below n9 hb10; have j10_0 := keep_cell (keep_below HK.out.bel n10) (C0.out 0 _ rfl); have j10_1 := keep_cell (keep_below HK.out.bel n10) (C0.out 1 _ rfl); have j10_2 := keep_cell (keep_below HK.out.bel n10) (C0.out 2 _ rfl); have j10_3 := keep_cell (keep_below HK.out.bel n10) (C0.out 3 _ rfl); have j10_4 := keep_cell (keep_below HK.out.bel n10) (C0.out 4 _ rfl); have j10_5 := keep_cell (keep_below HK.out.bel n10) (C0.out 5 _ rfl); have j10_6 := keep_cell (keep_below HK.out.bel n10) (C0.out 6 _ rfl))
    | (go_at_call 16; refine (SLI.out _ b8).mono ?_; rintro e w9 ⟨rfl, hb9⟩; have b9 := keep_below b8 hb9; have n9 := keep_below n8 hb9; have mk9 := True.intro; have x9_0 := (HK.out.below n9).at_ 0 _ rfl; have x9_1 := (HK.out.below n9).at_ 1 _ rfl; have x9_2 := (HK.out.below n9).at_ 2 _ rfl; have x9_3 := (HK.out.below n9).at_ 3 _ rfl; have x9_4 := (HK.out.below n9).at_ 4 _ rfl; have x9_5 := (HK.out.below n9).at_ 5 _ rfl; have x9_6 := (HK.out.below n9).at_ 6 _ rfl)
    | (go_at_call 15; have zz := mk11; clear zz; refine (LKX.out _ b11).mono ?_; rintro e w12 ⟨aM, nM, cM, rfl, rM, hb12, -⟩; have b12 := keep_below b11 hb12; have n12 := keep_below n11 hb12; have RM := Lib.hid rM; have RL := Lib.hid (RL0.out.below hb12); clear rM)
    | (go_at_call 15; refine (LKI.out _ b10).mono ?_; rintro e w11 ⟨aL, nL, cL, rfl, rL, hb11, -⟩; have b11 := keep_below b10 hb11; have n11 := keep_below n10 hb11; have RL0 := Lib.hid rL; clear rL; have mk11 := True.intro; have x11_0 := (HK.out.below n11).at_ 0 _ rfl; have x11_1 := (HK.out.below n11).at_ 1 _ rfl; have x11_2 := (HK.out.below n11).at_ 2 _ rfl; have x11_3 := (HK.out.below n11).at_ 3 _ rfl; have x11_4 := (HK.out.below n11).at_ 4 _ rfl; have x11_5 := (HK.out.below n11).at_ 5 _ rfl; have x11_6 := (HK.out.below n11).at_ 6 _ rfl))
  clear mk7 mk9 mk11 SLI SLX LKI LKX RG RX RL0 b6 b7 b8 b9 b10 b11 n7 n8 n9 n10 n11
  clear i0 i1 i2 i3 i4 i5 i6 j8_0 j10_0 x7_0 x9_0 x11_0 j8_1 j10_1 x7_1 x9_1 x11_1 j8_2 j10_2 x7_2 x9_2 x11_2 j8_3 j10_3 x7_3 x9_3 x11_3 j8_4 j10_4 x7_4 x9_4 x11_4 j8_5 j10_5 x7_5 x9_5 x11_5 j8_6 j10_6 x7_6 x9_6 x11_6
  have I0 := Lib.hid (keep_cell (keep_below HK.out.bel n12) (C0.out 0 _ rfl))
  have I1 := Lib.hid (keep_cell (keep_below HK.out.bel n12) (C0.out 1 _ rfl))
  have I2 := Lib.hid (keep_cell (keep_below HK.out.bel n12) (C0.out 2 _ rfl))
  have I3 := Lib.hid (keep_cell (keep_below HK.out.bel n12) (C0.out 3 _ rfl))
  have I4 := Lib.hid (keep_cell (keep_below HK.out.bel n12) (C0.out 4 _ rfl))
  have I5 := Lib.hid (keep_cell (keep_below HK.out.bel n12) (C0.out 5 _ rfl))
  have I6 := Lib.hid (keep_cell (keep_below HK.out.bel n12) (C0.out 6 _ rfl))
  have X0 := Lib.hid ((HK.out.below n12).at_ 0 _ rfl)
  have X1 := Lib.hid ((HK.out.below n12).at_ 1 _ rfl)
  have X2 := Lib.hid ((HK.out.below n12).at_ 2 _ rfl)
  have X3 := Lib.hid ((HK.out.below n12).at_ 3 _ rfl)
  have X4 := Lib.hid ((HK.out.below n12).at_ 4 _ rfl)
  have X5 := Lib.hid ((HK.out.below n12).at_ 5 _ rfl)
  have X6 := Lib.hid ((HK.out.below n12).at_ 6 _ rfl)
  have CSM := Lib.hid (fun W (hS : Below w12.heap.size w12 W) => sameI_any aL aM nL nM cL cM l l W (RL.out.below hS) (RM.out.below hS) (by have := RL.out.1; omega) (by have := RM.out.1; omega) true (by simp))
  have CTI := Lib.hid (fun W (hS : Below w12.heap.size w12 W) => TKI.out W (keep_below b12 hS))
  have CTX := Lib.hid (fun W (hS : Below w12.heap.size w12 W) => TKX.out W (keep_below b12 hS))
  have CKN := Lib.hid (fun W (hS : Below w12.heap.size w12 W) => KN.out W (keep_below b12 hS))
  simp only [ImV.v, Sl.v] at CTI CTX
  have C7 : Below w12.heap.size w12 w12.drew := (Below.refl _ _).drew
  refine region_ok 126 49 (fun i => if i = 48 then 6 else 78 + i) (fun i => ([[], [], [0, 1], [2], [3], [3, 4], [3, 5], [6], [6], [6, 7, 8], [6], [6, 10], [6], [6, 12], [6, 11, 13], [6, 14], [6], [6, 16], [6, 15, 17], [6], [6, 19], [6, 18, 20], [6], [6, 22], [6, 21, 23], [6], [6, 25], [6, 24, 26], [6, 9, 27], [3, 6, 28], [3, 29], [30], [31], [31], [31, 32, 33], [31, 34], [35], [36], [36], [36, 37, 38], [36], [36], [36, 40, 41], [36, 39, 42], [36, 43], [44], [45], [45, 46], [47]] : List (List Nat)).getD i []) (fun i v => ([(fun v : Value => v = .int .i64 er), (fun v : Value => v = .int .i64 er), (fun v : Value => v = .bool true), (fun v : Value => v = .bool true), (fun v : Value => v = .int .i64 er), (fun v : Value => v = .bool z), (fun v : Value => v = .bool z), (fun v : Value => z = false → v = .int .i64 nb), (fun v : Value => z = false → v = .int .i64 na), (fun v : Value => z = false → v = .int .i64 (nb - na)), (fun v : Value => z = false → v = .pointer (some ⟨B, 0, none⟩)), (fun v : Value => z = false → v = .int .i64 sw1), (fun v : Value => z = false → v = .pointer (some ⟨w.heap.size, 0, none⟩)), (fun v : Value => z = false → v = .int .i64 sw), (fun v : Value => z = false → v = .int .i64 (sw1 - sw)), (fun v : Value => z = false → v = .int .i64 (2 * (sw1 - sw))), (fun v : Value => z = false → v = .pointer (some ⟨B, 1, none⟩)), (fun v : Value => z = false → v = .int .i64 la1), (fun v : Value => z = false → v = .int .i64 (2 * (sw1 - sw) + la1)), (fun v : Value => z = false → v = .pointer (some ⟨w.heap.size, 1, none⟩)), (fun v : Value => z = false → v = .int .i64 la), (fun v : Value => z = false → v = .int .i64 (2 * (sw1 - sw) + la1 - la)), (fun v : Value => z = false → v = .pointer (some ⟨B, 2, none⟩)), (fun v : Value => z = false → v = .int .i64 cm1), (fun v : Value => z = false → v = .int .i64 (2 * (sw1 - sw) + la1 - la + cm1)), (fun v : Value => z = false → v = .pointer (some ⟨w.heap.size, 2, none⟩)), (fun v : Value => z = false → v = .int .i64 cm), (fun v : Value => z = false → v = .int .i64 (2 * (sw1 - sw) + la1 - la + cm1 - cm)), (fun v : Value => z = false → v = .bool true), (fun v : Value => v = .bool true), (fun v : Value => v = .bool true), (fun v : Value => v = .bool true), (fun v : Value => v = .slice aL nL cL), (fun v : Value => v = .slice aM nM cM), (fun v : Value => v = .bool true), (fun v : Value => v = .bool true), (fun v : Value => v = .bool true), (fun v : Value => v = .agg #[.int .i64 sw, .int .i64 la, .int .i64 cm, .int .i64 inp, .slice sa sn sc, .slice ba bn bc, .slice ta tn tc]), (fun v : Value => v = .int .i64 pi), (fun v : Value => v = .int .i64 er), (fun v : Value => v = .agg #[.int .i64 sw1, .int .i64 la1, .int .i64 cm1, .int .i64 inp, .slice sa sn sc, .slice ba bn bc, .slice ta tn tc]), (fun v : Value => v = .int .i64 pi), (fun v : Value => v = .int .i64 er), (fun v : Value => v = .bool true), (fun v : Value => v = .bool true), (fun v : Value => v = .bool true), (fun v : Value => v = .bool true), (fun v : Value => v = .bool true), (fun v : Value => v = .bool true)] : List (Value → Prop)).getD i (fun _ => True) v) (fun W => Below w12.heap.size w12 W) (by kernel_rfl) rfl (fun i j hi hj h => by (try dsimp only at h); split at h <;> split at h <;> omega) (fun i hi => by (try dsimp only); split <;> omega) rfl ?_ ?_ C7 ?_
  · intro i o ho
    match i, ho with
    | 0, ho => obtain rfl := Option.some.inj ho; exact ⟨rfl, by decide, by decide⟩
    | 1, ho => obtain rfl := Option.some.inj ho; exact ⟨rfl, by decide, by decide⟩
    | 2, ho => obtain rfl := Option.some.inj ho; exact ⟨rfl, by decide, by decide⟩
    | 3, ho => obtain rfl := Option.some.inj ho; exact ⟨rfl, by decide, by decide⟩
    | 4, ho => obtain rfl := Option.some.inj ho; exact ⟨rfl, by decide, by decide⟩
    | 5, ho => obtain rfl := Option.some.inj ho; exact ⟨rfl, by decide, by decide⟩
    | 6, ho => obtain rfl := Option.some.inj ho; exact ⟨rfl, by decide, by decide⟩
    | 7, ho => obtain rfl := Option.some.inj ho; exact ⟨rfl, by decide, by decide⟩
    | 8, ho => obtain rfl := Option.some.inj ho; exact ⟨rfl, by decide, by decide⟩
    | 9, ho => obtain rfl := Option.some.inj ho; exact ⟨rfl, by decide, by decide⟩
    | 10, ho => obtain rfl := Option.some.inj ho; exact ⟨rfl, by decide, by decide⟩
    | 11, ho => obtain rfl := Option.some.inj ho; exact ⟨rfl, by decide, by decide⟩
    | 12, ho => obtain rfl := Option.some.inj ho; exact ⟨rfl, by decide, by decide⟩
    | 13, ho => obtain rfl := Option.some.inj ho; exact ⟨rfl, by decide, by decide⟩
    | 14, ho => obtain rfl := Option.some.inj ho; exact ⟨rfl, by decide, by decide⟩
    | 15, ho => obtain rfl := Option.some.inj ho; exact ⟨rfl, by decide, by decide⟩
    | 16, ho => obtain rfl := Option.some.inj ho; exact ⟨rfl, by decide, by decide⟩
    | 17, ho => obtain rfl := Option.some.inj ho; exact ⟨rfl, by decide, by decide⟩
    | 18, ho => obtain rfl := Option.some.inj ho; exact ⟨rfl, by decide, by decide⟩
    | 19, ho => obtain rfl := Option.some.inj ho; exact ⟨rfl, by decide, by decide⟩
    | 20, ho => obtain rfl := Option.some.inj ho; exact ⟨rfl, by decide, by decide⟩
    | 21, ho => obtain rfl := Option.some.inj ho; exact ⟨rfl, by decide, by decide⟩
    | 22, ho => obtain rfl := Option.some.inj ho; exact ⟨rfl, by decide, by decide⟩
    | 23, ho => obtain rfl := Option.some.inj ho; exact ⟨rfl, by decide, by decide⟩
    | 24, ho => obtain rfl := Option.some.inj ho; exact ⟨rfl, by decide, by decide⟩
    | 25, ho => obtain rfl := Option.some.inj ho; exact ⟨rfl, by decide, by decide⟩
    | 26, ho => obtain rfl := Option.some.inj ho; exact ⟨rfl, by decide, by decide⟩
    | 27, ho => obtain rfl := Option.some.inj ho; exact ⟨rfl, by decide, by decide⟩
    | 28, ho => obtain rfl := Option.some.inj ho; exact ⟨rfl, by decide, by decide⟩
    | 29, ho => obtain rfl := Option.some.inj ho; exact ⟨rfl, by decide, by decide⟩
    | 30, ho => obtain rfl := Option.some.inj ho; exact ⟨rfl, by decide, by decide⟩
    | 31, ho => obtain rfl := Option.some.inj ho; exact ⟨rfl, by decide, by decide⟩
    | 32, ho => obtain rfl := Option.some.inj ho; exact ⟨rfl, by decide, by decide⟩
    | 33, ho => obtain rfl := Option.some.inj ho; exact ⟨rfl, by decide, by decide⟩
    | 34, ho => obtain rfl := Option.some.inj ho; exact ⟨rfl, by decide, by decide⟩
    | 35, ho => obtain rfl := Option.some.inj ho; exact ⟨rfl, by decide, by decide⟩
    | 36, ho => obtain rfl := Option.some.inj ho; exact ⟨rfl, by decide, by decide⟩
    | 37, ho => obtain rfl := Option.some.inj ho; exact ⟨rfl, by decide, by decide⟩
    | 38, ho => obtain rfl := Option.some.inj ho; exact ⟨rfl, by decide, by decide⟩
    | 39, ho => obtain rfl := Option.some.inj ho; exact ⟨rfl, by decide, by decide⟩
    | 40, ho => obtain rfl := Option.some.inj ho; exact ⟨rfl, by decide, by decide⟩
    | 41, ho => obtain rfl := Option.some.inj ho; exact ⟨rfl, by decide, by decide⟩
    | 42, ho => obtain rfl := Option.some.inj ho; exact ⟨rfl, by decide, by decide⟩
    | 43, ho => obtain rfl := Option.some.inj ho; exact ⟨rfl, by decide, by decide⟩
    | 44, ho => obtain rfl := Option.some.inj ho; exact ⟨rfl, by decide, by decide⟩
    | 45, ho => obtain rfl := Option.some.inj ho; exact ⟨rfl, by decide, by decide⟩
    | 46, ho => obtain rfl := Option.some.inj ho; exact ⟨rfl, by decide, by decide⟩
    | 47, ho => obtain rfl := Option.some.inj ho; exact ⟨rfl, by decide, by decide⟩
    | 48, ho => obtain rfl := Option.some.inj ho; exact ⟨rfl, by decide, by decide⟩
    | n + 49, ho => simp at ho
  · intro i o ho a' W hS hoth hd
    have o9 : a'.eval (.tmp 9) = .int .i64 er := hoth 9 (fun i hi => by (try dsimp only); split <;> omega)
    have o11 : a'.eval (.tmp 11) = .int .i64 er := hoth 11 (fun i hi => by (try dsimp only); split <;> omega)
    have o8 : a'.eval (.tmp 8) = .int .i64 na := hoth 8 (fun i hi => by (try dsimp only); split <;> omega)
    have o10 : a'.eval (.tmp 10) = .int .i64 nb := hoth 10 (fun i hi => by (try dsimp only); split <;> omega)
    have o7 : a'.eval (.tmp 7) = .pointer (some ⟨B, 0, none⟩) := hoth 7 (fun i hi => by (try dsimp only); split <;> omega)
    have o3 : a'.eval (.tmp 3) = .pointer (some ⟨w.heap.size, 0, none⟩) := hoth 3 (fun i hi => by (try dsimp only); split <;> omega)
    have o12 : a'.eval (.tmp 12) = .slice aL nL cL := hoth 12 (fun i hi => by (try dsimp only); split <;> omega)
    have o14 : a'.eval (.tmp 14) = .slice aM nM cM := hoth 14 (fun i hi => by (try dsimp only); split <;> omega)
    have o1 : a'.eval (.tmp 1) = .int .i64 pi := hoth 1 (fun i hi => by (try dsimp only); split <;> omega)
    obtain ⟨ρ, hρ⟩ : ∃ ρ, ρ = a'.eval := ⟨_, rfl⟩
    have hc : ∀ v, ρ (.const v) = v := fun v => by rw [hρ]; rfl
    have hfn : ∀ f, ρ (.func f) = .func (.func f) #[] #[] := fun f => by rw [hρ]; rfl
    simp only [← hρ] at hd ⊢
    rw [← hρ] at o9
    rw [← hρ] at o11
    rw [← hρ] at o8
    rw [← hρ] at o10
    rw [← hρ] at o7
    rw [← hρ] at o3
    rw [← hρ] at o12
    rw [← hρ] at o14
    rw [← hρ] at o1
    clear hρ hoth
    match i, ho with
    | 0, ho =>
      obtain rfl := Option.some.inj ho
      clear hd
      exact Or.inl ⟨rfl, Gives.val (v := .int .i64 er) (w' := W) (by simp only [execOp]; go_simp) ⟨rfl, hS⟩⟩
    | 1, ho =>
      obtain rfl := Option.some.inj ho
      clear hd
      exact Or.inl ⟨rfl, Gives.val (v := .int .i64 er) (w' := W) (by simp only [execOp]; go_simp) ⟨rfl, hS⟩⟩
    | 2, ho =>
      obtain rfl := Option.some.inj ho
      have e0 : ρ (.tmp 78) = .int .i64 er := hd 0 (by decide)
      have e1 : ρ (.tmp 79) = .int .i64 er := hd 1 (by decide)
      clear hd
      exact Or.inl ⟨rfl, Gives.val (v := .bool true) (w' := W) (by simp only [execOp]; go_simp) ⟨rfl, hS⟩⟩
    | 3, ho =>
      obtain rfl := Option.some.inj ho
      have e2 : ρ (.tmp 80) = .bool true := hd 2 (by decide)
      clear hd
      exact Or.inl ⟨rfl, Gives.val (v := .bool true) (w' := W) (by simp only [execOp]; go_simp) ⟨rfl, hS⟩⟩
    | 4, ho =>
      obtain rfl := Option.some.inj ho
      have e3 : ρ (.tmp 81) = .bool true := hd 3 (by decide)
      clear hd
      exact Or.inr ⟨3, true, true, rfl, by decide, e3, fun _ => Gives.val (v := .int .i64 er) (w' := W) (by simp only [execOp]; go_simp) ⟨rfl, hS⟩, fun h => absurd rfl h⟩
    | 5, ho =>
      obtain rfl := Option.some.inj ho
      have e3 : ρ (.tmp 81) = .bool true := hd 3 (by decide)
      have e4 : ρ (.tmp 82) = .int .i64 er := hd 4 (by decide)
      clear hd
      have hz := hz0.out
      exact Or.inr ⟨3, true, true, rfl, by decide, e3, fun _ => Gives.val (v := .bool z) (w' := W) (by simp only [execOp]; go_simp) ⟨rfl, hS⟩, fun h => absurd rfl h⟩
    | 6, ho =>
      obtain rfl := Option.some.inj ho
      have e3 : ρ (.tmp 81) = .bool true := hd 3 (by decide)
      have e5 : ρ (.tmp 83) = .bool z := hd 5 (by decide)
      clear hd
      exact Or.inr ⟨3, true, true, rfl, by decide, e3, fun _ => Gives.val (v := .bool z) (w' := W) (by simp only [execOp]; go_simp) ⟨rfl, hS⟩, fun h => absurd rfl h⟩
    | 7, ho =>
      obtain rfl := Option.some.inj ho
      have e6 : ρ (.tmp 84) = .bool z := hd 6 (by decide)
      clear hd
      refine Or.inr ⟨6, false, z, rfl, by decide, e6, fun hz => ?_, fun hz h => absurd h hz⟩
      subst hz
      exact Gives.val (v := .int .i64 nb) (w' := W) (by simp only [execOp]; go_simp) ⟨fun _ => rfl, hS⟩
    | 8, ho =>
      obtain rfl := Option.some.inj ho
      have e6 : ρ (.tmp 84) = .bool z := hd 6 (by decide)
      clear hd
      refine Or.inr ⟨6, false, z, rfl, by decide, e6, fun hz => ?_, fun hz h => absurd h hz⟩
      subst hz
      exact Gives.val (v := .int .i64 na) (w' := W) (by simp only [execOp]; go_simp) ⟨fun _ => rfl, hS⟩
    | 9, ho =>
      obtain rfl := Option.some.inj ho
      have e6 : ρ (.tmp 84) = .bool z := hd 6 (by decide)
      have e7 : z = false → ρ (.tmp 85) = .int .i64 nb := hd 7 (by decide)
      have e8 : z = false → ρ (.tmp 86) = .int .i64 na := hd 8 (by decide)
      clear hd
      refine Or.inr ⟨6, false, z, rfl, by decide, e6, fun hz => ?_, fun hz h => absurd h hz⟩
      subst hz
      have f7 := e7 rfl
      have f8 := e8 rfl
      have s0 := hw0.out rfl
      exact Gives.val (v := .int .i64 (nb - na)) (w' := W) (by simp only [execOp]; go_simp) ⟨fun _ => rfl, hS⟩
    | 10, ho =>
      obtain rfl := Option.some.inj ho
      have e6 : ρ (.tmp 84) = .bool z := hd 6 (by decide)
      clear hd
      refine Or.inr ⟨6, false, z, rfl, by decide, e6, fun hz => ?_, fun hz h => absurd h hz⟩
      subst hz
      exact Gives.val (v := .pointer (some ⟨B, 0, none⟩)) (w' := W) (by simp only [execOp]; go_simp) ⟨fun _ => rfl, hS⟩
    | 11, ho =>
      obtain rfl := Option.some.inj ho
      have e6 : ρ (.tmp 84) = .bool z := hd 6 (by decide)
      have e10 : z = false → ρ (.tmp 88) = .pointer (some ⟨B, 0, none⟩) := hd 10 (by decide)
      clear hd
      refine Or.inr ⟨6, false, z, rfl, by decide, e6, fun hz => ?_, fun hz h => absurd h hz⟩
      subst hz
      have f10 := e10 rfl
      have x0 := keep_cell hS X0.out
      exact Gives.val (v := .int .i64 sw1) (w' := W) (by simp only [execOp]; go_simp) ⟨fun _ => rfl, hS⟩
    | 12, ho =>
      obtain rfl := Option.some.inj ho
      have e6 : ρ (.tmp 84) = .bool z := hd 6 (by decide)
      clear hd
      refine Or.inr ⟨6, false, z, rfl, by decide, e6, fun hz => ?_, fun hz h => absurd h hz⟩
      subst hz
      exact Gives.val (v := .pointer (some ⟨w.heap.size, 0, none⟩)) (w' := W) (by simp only [execOp]; go_simp) ⟨fun _ => rfl, hS⟩
    | 13, ho =>
      obtain rfl := Option.some.inj ho
      have e6 : ρ (.tmp 84) = .bool z := hd 6 (by decide)
      have e12 : z = false → ρ (.tmp 90) = .pointer (some ⟨w.heap.size, 0, none⟩) := hd 12 (by decide)
      clear hd
      refine Or.inr ⟨6, false, z, rfl, by decide, e6, fun hz => ?_, fun hz h => absurd h hz⟩
      subst hz
      have f12 := e12 rfl
      have y0 := keep_cell hS I0.out
      exact Gives.val (v := .int .i64 sw) (w' := W) (by simp only [execOp]; go_simp) ⟨fun _ => rfl, hS⟩
    | 14, ho =>
      obtain rfl := Option.some.inj ho
      have e6 : ρ (.tmp 84) = .bool z := hd 6 (by decide)
      have e11 : z = false → ρ (.tmp 89) = .int .i64 sw1 := hd 11 (by decide)
      have e13 : z = false → ρ (.tmp 91) = .int .i64 sw := hd 13 (by decide)
      clear hd
      refine Or.inr ⟨6, false, z, rfl, by decide, e6, fun hz => ?_, fun hz h => absurd h hz⟩
      subst hz
      have f11 := e11 rfl
      have f13 := e13 rfl
      have s1 := hw1.out
      exact Gives.val (v := .int .i64 (sw1 - sw)) (w' := W) (by simp only [execOp]; go_simp) ⟨fun _ => rfl, hS⟩
    | 15, ho =>
      obtain rfl := Option.some.inj ho
      have e6 : ρ (.tmp 84) = .bool z := hd 6 (by decide)
      have e14 : z = false → ρ (.tmp 92) = .int .i64 (sw1 - sw) := hd 14 (by decide)
      clear hd
      refine Or.inr ⟨6, false, z, rfl, by decide, e6, fun hz => ?_, fun hz h => absurd h hz⟩
      subst hz
      have f14 := e14 rfl
      have s2 := hw2.out
      exact Gives.val (v := .int .i64 (2 * (sw1 - sw))) (w' := W) (by simp only [execOp]; go_simp) ⟨fun _ => rfl, hS⟩
    | 16, ho =>
      obtain rfl := Option.some.inj ho
      have e6 : ρ (.tmp 84) = .bool z := hd 6 (by decide)
      clear hd
      refine Or.inr ⟨6, false, z, rfl, by decide, e6, fun hz => ?_, fun hz h => absurd h hz⟩
      subst hz
      exact Gives.val (v := .pointer (some ⟨B, 1, none⟩)) (w' := W) (by simp only [execOp]; go_simp) ⟨fun _ => rfl, hS⟩
    | 17, ho =>
      obtain rfl := Option.some.inj ho
      have e6 : ρ (.tmp 84) = .bool z := hd 6 (by decide)
      have e16 : z = false → ρ (.tmp 94) = .pointer (some ⟨B, 1, none⟩) := hd 16 (by decide)
      clear hd
      refine Or.inr ⟨6, false, z, rfl, by decide, e6, fun hz => ?_, fun hz h => absurd h hz⟩
      subst hz
      have f16 := e16 rfl
      have x1 := keep_cell hS X1.out
      exact Gives.val (v := .int .i64 la1) (w' := W) (by simp only [execOp]; go_simp) ⟨fun _ => rfl, hS⟩
    | 18, ho =>
      obtain rfl := Option.some.inj ho
      have e6 : ρ (.tmp 84) = .bool z := hd 6 (by decide)
      have e15 : z = false → ρ (.tmp 93) = .int .i64 (2 * (sw1 - sw)) := hd 15 (by decide)
      have e17 : z = false → ρ (.tmp 95) = .int .i64 la1 := hd 17 (by decide)
      clear hd
      refine Or.inr ⟨6, false, z, rfl, by decide, e6, fun hz => ?_, fun hz h => absurd h hz⟩
      subst hz
      have f15 := e15 rfl
      have f17 := e17 rfl
      have s3 := hw3.out
      exact Gives.val (v := .int .i64 (2 * (sw1 - sw) + la1)) (w' := W) (by simp only [execOp]; go_simp) ⟨fun _ => rfl, hS⟩
    | 19, ho =>
      obtain rfl := Option.some.inj ho
      have e6 : ρ (.tmp 84) = .bool z := hd 6 (by decide)
      clear hd
      refine Or.inr ⟨6, false, z, rfl, by decide, e6, fun hz => ?_, fun hz h => absurd h hz⟩
      subst hz
      exact Gives.val (v := .pointer (some ⟨w.heap.size, 1, none⟩)) (w' := W) (by simp only [execOp]; go_simp) ⟨fun _ => rfl, hS⟩
    | 20, ho =>
      obtain rfl := Option.some.inj ho
      have e6 : ρ (.tmp 84) = .bool z := hd 6 (by decide)
      have e19 : z = false → ρ (.tmp 97) = .pointer (some ⟨w.heap.size, 1, none⟩) := hd 19 (by decide)
      clear hd
      refine Or.inr ⟨6, false, z, rfl, by decide, e6, fun hz => ?_, fun hz h => absurd h hz⟩
      subst hz
      have f19 := e19 rfl
      have y1 := keep_cell hS I1.out
      exact Gives.val (v := .int .i64 la) (w' := W) (by simp only [execOp]; go_simp) ⟨fun _ => rfl, hS⟩
    | 21, ho =>
      obtain rfl := Option.some.inj ho
      have e6 : ρ (.tmp 84) = .bool z := hd 6 (by decide)
      have e18 : z = false → ρ (.tmp 96) = .int .i64 (2 * (sw1 - sw) + la1) := hd 18 (by decide)
      have e20 : z = false → ρ (.tmp 98) = .int .i64 la := hd 20 (by decide)
      clear hd
      refine Or.inr ⟨6, false, z, rfl, by decide, e6, fun hz => ?_, fun hz h => absurd h hz⟩
      subst hz
      have f18 := e18 rfl
      have f20 := e20 rfl
      have s4 := hw4.out
      exact Gives.val (v := .int .i64 (2 * (sw1 - sw) + la1 - la)) (w' := W) (by simp only [execOp]; go_simp) ⟨fun _ => rfl, hS⟩
    | 22, ho =>
      obtain rfl := Option.some.inj ho
      have e6 : ρ (.tmp 84) = .bool z := hd 6 (by decide)
      clear hd
      refine Or.inr ⟨6, false, z, rfl, by decide, e6, fun hz => ?_, fun hz h => absurd h hz⟩
      subst hz
      exact Gives.val (v := .pointer (some ⟨B, 2, none⟩)) (w' := W) (by simp only [execOp]; go_simp) ⟨fun _ => rfl, hS⟩
    | 23, ho =>
      obtain rfl := Option.some.inj ho
      have e6 : ρ (.tmp 84) = .bool z := hd 6 (by decide)
      have e22 : z = false → ρ (.tmp 100) = .pointer (some ⟨B, 2, none⟩) := hd 22 (by decide)
      clear hd
      refine Or.inr ⟨6, false, z, rfl, by decide, e6, fun hz => ?_, fun hz h => absurd h hz⟩
      subst hz
      have f22 := e22 rfl
      have x2 := keep_cell hS X2.out
      exact Gives.val (v := .int .i64 cm1) (w' := W) (by simp only [execOp]; go_simp) ⟨fun _ => rfl, hS⟩
    | 24, ho =>
      obtain rfl := Option.some.inj ho
      have e6 : ρ (.tmp 84) = .bool z := hd 6 (by decide)
      have e21 : z = false → ρ (.tmp 99) = .int .i64 (2 * (sw1 - sw) + la1 - la) := hd 21 (by decide)
      have e23 : z = false → ρ (.tmp 101) = .int .i64 cm1 := hd 23 (by decide)
      clear hd
      refine Or.inr ⟨6, false, z, rfl, by decide, e6, fun hz => ?_, fun hz h => absurd h hz⟩
      subst hz
      have f21 := e21 rfl
      have f23 := e23 rfl
      have s5 := hw5.out
      exact Gives.val (v := .int .i64 (2 * (sw1 - sw) + la1 - la + cm1)) (w' := W) (by simp only [execOp]; go_simp) ⟨fun _ => rfl, hS⟩
    | 25, ho =>
      obtain rfl := Option.some.inj ho
      have e6 : ρ (.tmp 84) = .bool z := hd 6 (by decide)
      clear hd
      refine Or.inr ⟨6, false, z, rfl, by decide, e6, fun hz => ?_, fun hz h => absurd h hz⟩
      subst hz
      exact Gives.val (v := .pointer (some ⟨w.heap.size, 2, none⟩)) (w' := W) (by simp only [execOp]; go_simp) ⟨fun _ => rfl, hS⟩
    | 26, ho =>
      obtain rfl := Option.some.inj ho
      have e6 : ρ (.tmp 84) = .bool z := hd 6 (by decide)
      have e25 : z = false → ρ (.tmp 103) = .pointer (some ⟨w.heap.size, 2, none⟩) := hd 25 (by decide)
      clear hd
      refine Or.inr ⟨6, false, z, rfl, by decide, e6, fun hz => ?_, fun hz h => absurd h hz⟩
      subst hz
      have f25 := e25 rfl
      have y2 := keep_cell hS I2.out
      exact Gives.val (v := .int .i64 cm) (w' := W) (by simp only [execOp]; go_simp) ⟨fun _ => rfl, hS⟩
    | 27, ho =>
      obtain rfl := Option.some.inj ho
      have e6 : ρ (.tmp 84) = .bool z := hd 6 (by decide)
      have e24 : z = false → ρ (.tmp 102) = .int .i64 (2 * (sw1 - sw) + la1 - la + cm1) := hd 24 (by decide)
      have e26 : z = false → ρ (.tmp 104) = .int .i64 cm := hd 26 (by decide)
      clear hd
      refine Or.inr ⟨6, false, z, rfl, by decide, e6, fun hz => ?_, fun hz h => absurd h hz⟩
      subst hz
      have f24 := e24 rfl
      have f26 := e26 rfl
      have s6 := hw6.out
      exact Gives.val (v := .int .i64 (2 * (sw1 - sw) + la1 - la + cm1 - cm)) (w' := W) (by simp only [execOp]; go_simp) ⟨fun _ => rfl, hS⟩
    | 28, ho =>
      obtain rfl := Option.some.inj ho
      have e6 : ρ (.tmp 84) = .bool z := hd 6 (by decide)
      have e9 : z = false → ρ (.tmp 87) = .int .i64 (nb - na) := hd 9 (by decide)
      have e27 : z = false → ρ (.tmp 105) = .int .i64 (2 * (sw1 - sw) + la1 - la + cm1 - cm) := hd 27 (by decide)
      clear hd
      refine Or.inr ⟨6, false, z, rfl, by decide, e6, fun hz => ?_, fun hz h => absurd h hz⟩
      subst hz
      have f9 := e9 rfl
      have f27 := e27 rfl
      have s7 := hw7.out rfl
      exact Gives.val (v := .bool true) (w' := W) (by simp only [execOp]; go_simp) ⟨fun _ => rfl, hS⟩
    | 29, ho =>
      obtain rfl := Option.some.inj ho
      have e3 : ρ (.tmp 81) = .bool true := hd 3 (by decide)
      have e6 : ρ (.tmp 84) = .bool z := hd 6 (by decide)
      have e28 : z = false → ρ (.tmp 106) = .bool true := hd 28 (by decide)
      clear hd
      cases z
      · have f28 := e28 rfl
        exact Or.inr ⟨3, true, true, rfl, by decide, e3, fun _ => Gives.val (v := .bool true) (w' := W) (by simp only [execOp]; go_simp) ⟨rfl, hS⟩, fun h => absurd rfl h⟩
      · exact Or.inr ⟨3, true, true, rfl, by decide, e3, fun _ => Gives.val (v := .bool true) (w' := W) (by simp only [execOp]; go_simp) ⟨rfl, hS⟩, fun h => absurd rfl h⟩
    | 30, ho =>
      obtain rfl := Option.some.inj ho
      have e3 : ρ (.tmp 81) = .bool true := hd 3 (by decide)
      have e29 : ρ (.tmp 107) = .bool true := hd 29 (by decide)
      clear hd
      exact Or.inl ⟨rfl, Gives.val (v := .bool true) (w' := W) (by simp only [execOp]; go_simp) ⟨rfl, hS⟩⟩
    | 31, ho =>
      obtain rfl := Option.some.inj ho
      have e30 : ρ (.tmp 108) = .bool true := hd 30 (by decide)
      clear hd
      exact Or.inl ⟨rfl, Gives.val (v := .bool true) (w' := W) (by simp only [execOp]; go_simp) ⟨rfl, hS⟩⟩
    | 32, ho =>
      obtain rfl := Option.some.inj ho
      have e31 : ρ (.tmp 109) = .bool true := hd 31 (by decide)
      clear hd
      exact Or.inr ⟨31, true, true, rfl, by decide, e31, fun _ => Gives.val (v := .slice aL nL cL) (w' := W) (by simp only [execOp]; go_simp) ⟨rfl, hS⟩, fun h => absurd rfl h⟩
    | 33, ho =>
      obtain rfl := Option.some.inj ho
      have e31 : ρ (.tmp 109) = .bool true := hd 31 (by decide)
      clear hd
      exact Or.inr ⟨31, true, true, rfl, by decide, e31, fun _ => Gives.val (v := .slice aM nM cM) (w' := W) (by simp only [execOp]; go_simp) ⟨rfl, hS⟩, fun h => absurd rfl h⟩
    | 34, ho =>
      obtain rfl := Option.some.inj ho
      have e31 : ρ (.tmp 109) = .bool true := hd 31 (by decide)
      have e32 : ρ (.tmp 110) = .slice aL nL cL := hd 32 (by decide)
      have e33 : ρ (.tmp 111) = .slice aM nM cM := hd 33 (by decide)
      clear hd
      refine Or.inr ⟨31, true, true, rfl, by decide, e31, fun _ => Gives.enter (f := 13) (args := #[.slice aL nL cL, .slice aM nM cM]) (by simp only [execOp]; go_simp) ((CSM.out W hS).mono ?_), fun h => absurd rfl h⟩
      rintro e w8 ⟨rfl, b8⟩
      exact ⟨_, rfl, rfl, keep_below hS b8⟩
    | 35, ho =>
      obtain rfl := Option.some.inj ho
      have e31 : ρ (.tmp 109) = .bool true := hd 31 (by decide)
      have e34 : ρ (.tmp 112) = .bool true := hd 34 (by decide)
      clear hd
      exact Or.inl ⟨rfl, Gives.val (v := .bool true) (w' := W) (by simp only [execOp]; go_simp) ⟨rfl, hS⟩⟩
    | 36, ho =>
      obtain rfl := Option.some.inj ho
      have e35 : ρ (.tmp 113) = .bool true := hd 35 (by decide)
      clear hd
      exact Or.inl ⟨rfl, Gives.val (v := .bool true) (w' := W) (by simp only [execOp]; go_simp) ⟨rfl, hS⟩⟩
    | 37, ho =>
      obtain rfl := Option.some.inj ho
      have e36 : ρ (.tmp 114) = .bool true := hd 36 (by decide)
      clear hd
      have y0 := keep_cell hS I0.out
      have y1 := keep_cell hS I1.out
      have y2 := keep_cell hS I2.out
      have y3 := keep_cell hS I3.out
      have y4 := keep_cell hS I4.out
      have y5 := keep_cell hS I5.out
      have y6 := keep_cell hS I6.out
      exact Or.inr ⟨36, true, true, rfl, by decide, e36, fun _ => Gives.val (v := .agg #[.int .i64 sw, .int .i64 la, .int .i64 cm, .int .i64 inp, .slice sa sn sc, .slice ba bn bc, .slice ta tn tc]) (w' := W) (by simp only [execOp]; go_simp) ⟨rfl, hS⟩, fun h => absurd rfl h⟩
    | 38, ho =>
      obtain rfl := Option.some.inj ho
      have e36 : ρ (.tmp 114) = .bool true := hd 36 (by decide)
      clear hd
      exact Or.inr ⟨36, true, true, rfl, by decide, e36, fun _ => Gives.val (v := .int .i64 pi) (w' := W) (by simp only [execOp]; go_simp) ⟨rfl, hS⟩, fun h => absurd rfl h⟩
    | 39, ho =>
      obtain rfl := Option.some.inj ho
      have e36 : ρ (.tmp 114) = .bool true := hd 36 (by decide)
      have e37 : ρ (.tmp 115) = .agg #[.int .i64 sw, .int .i64 la, .int .i64 cm, .int .i64 inp, .slice sa sn sc, .slice ba bn bc, .slice ta tn tc] := hd 37 (by decide)
      have e38 : ρ (.tmp 116) = .int .i64 pi := hd 38 (by decide)
      clear hd
      refine Or.inr ⟨36, true, true, rfl, by decide, e36, fun _ => Gives.enter (f := 11) (args := #[.agg #[.int .i64 sw, .int .i64 la, .int .i64 cm, .int .i64 inp, .slice sa sn sc, .slice ba bn bc, .slice ta tn tc], .int .i64 pi]) (by simp only [execOp]; go_simp) ((CTI.out W hS).mono ?_), fun h => absurd rfl h⟩
      rintro e w8 ⟨rfl, b8⟩
      exact ⟨_, rfl, rfl, keep_below hS b8⟩
    | 40, ho =>
      obtain rfl := Option.some.inj ho
      have e36 : ρ (.tmp 114) = .bool true := hd 36 (by decide)
      clear hd
      have x0 := keep_cell hS X0.out
      have x1 := keep_cell hS X1.out
      have x2 := keep_cell hS X2.out
      have x3 := keep_cell hS X3.out
      have x4 := keep_cell hS X4.out
      have x5 := keep_cell hS X5.out
      have x6 := keep_cell hS X6.out
      exact Or.inr ⟨36, true, true, rfl, by decide, e36, fun _ => Gives.val (v := .agg #[.int .i64 sw1, .int .i64 la1, .int .i64 cm1, .int .i64 inp, .slice sa sn sc, .slice ba bn bc, .slice ta tn tc]) (w' := W) (by simp only [execOp]; go_simp) ⟨rfl, hS⟩, fun h => absurd rfl h⟩
    | 41, ho =>
      obtain rfl := Option.some.inj ho
      have e36 : ρ (.tmp 114) = .bool true := hd 36 (by decide)
      clear hd
      exact Or.inr ⟨36, true, true, rfl, by decide, e36, fun _ => Gives.val (v := .int .i64 pi) (w' := W) (by simp only [execOp]; go_simp) ⟨rfl, hS⟩, fun h => absurd rfl h⟩
    | 42, ho =>
      obtain rfl := Option.some.inj ho
      have e36 : ρ (.tmp 114) = .bool true := hd 36 (by decide)
      have e40 : ρ (.tmp 118) = .agg #[.int .i64 sw1, .int .i64 la1, .int .i64 cm1, .int .i64 inp, .slice sa sn sc, .slice ba bn bc, .slice ta tn tc] := hd 40 (by decide)
      have e41 : ρ (.tmp 119) = .int .i64 pi := hd 41 (by decide)
      clear hd
      refine Or.inr ⟨36, true, true, rfl, by decide, e36, fun _ => Gives.enter (f := 11) (args := #[.agg #[.int .i64 sw1, .int .i64 la1, .int .i64 cm1, .int .i64 inp, .slice sa sn sc, .slice ba bn bc, .slice ta tn tc], .int .i64 pi]) (by simp only [execOp]; go_simp) ((CTX.out W hS).mono ?_), fun h => absurd rfl h⟩
      rintro e w8 ⟨rfl, b8⟩
      exact ⟨_, rfl, rfl, keep_below hS b8⟩
    | 43, ho =>
      obtain rfl := Option.some.inj ho
      have e36 : ρ (.tmp 114) = .bool true := hd 36 (by decide)
      have e39 : ρ (.tmp 117) = .int .i64 er := hd 39 (by decide)
      have e42 : ρ (.tmp 120) = .int .i64 er := hd 42 (by decide)
      clear hd
      exact Or.inr ⟨36, true, true, rfl, by decide, e36, fun _ => Gives.val (v := .bool true) (w' := W) (by simp only [execOp]; go_simp) ⟨rfl, hS⟩, fun h => absurd rfl h⟩
    | 44, ho =>
      obtain rfl := Option.some.inj ho
      have e36 : ρ (.tmp 114) = .bool true := hd 36 (by decide)
      have e43 : ρ (.tmp 121) = .bool true := hd 43 (by decide)
      clear hd
      exact Or.inl ⟨rfl, Gives.val (v := .bool true) (w' := W) (by simp only [execOp]; go_simp) ⟨rfl, hS⟩⟩
    | 45, ho =>
      obtain rfl := Option.some.inj ho
      have e44 : ρ (.tmp 122) = .bool true := hd 44 (by decide)
      clear hd
      exact Or.inl ⟨rfl, Gives.val (v := .bool true) (w' := W) (by simp only [execOp]; go_simp) ⟨rfl, hS⟩⟩
    | 46, ho =>
      obtain rfl := Option.some.inj ho
      have e45 : ρ (.tmp 123) = .bool true := hd 45 (by decide)
      clear hd
      refine Or.inr ⟨45, true, true, rfl, by decide, e45, fun _ => Gives.enter (f := 10) (args := #[]) (by simp only [execOp]; go_simp) ((CKN.out W hS).mono ?_), fun h => absurd rfl h⟩
      rintro e w8 ⟨rfl, b8⟩
      exact ⟨_, rfl, rfl, keep_below hS b8⟩
    | 47, ho =>
      obtain rfl := Option.some.inj ho
      have e45 : ρ (.tmp 123) = .bool true := hd 45 (by decide)
      have e46 : ρ (.tmp 124) = .bool true := hd 46 (by decide)
      clear hd
      exact Or.inl ⟨rfl, Gives.val (v := .bool true) (w' := W) (by simp only [execOp]; go_simp) ⟨rfl, hS⟩⟩
    | 48, ho =>
      obtain rfl := Option.some.inj ho
      have e47 : ρ (.tmp 125) = .bool true := hd 47 (by decide)
      clear hd
      exact Or.inl ⟨rfl, Gives.val (v := .bool true) (w' := W) (by simp only [execOp]; go_simp) ⟨rfl, hS⟩⟩
    | n + 49, ho => simp at ho
  · intro a' W hsz hdef hoth hok hS
    have e48 : a'.eval (.tmp 6) = .bool true := hok 48 (by decide)
    have e48' : a'.tmps.getD 6 undef = .bool true := e48
    simp only [Exit.then]
    rename_i Q1 K1 hK1
    refine hK1 a' W (wp_ret ?_)
    refine bodyPost_ret (results_tmp rfl _ _ _) hdef ?_
    rw [e48']
    exact ⟨rfl, keep_below b12 hS⟩
end Go.Proofs.YthncbnalnfbpnaaDoor
