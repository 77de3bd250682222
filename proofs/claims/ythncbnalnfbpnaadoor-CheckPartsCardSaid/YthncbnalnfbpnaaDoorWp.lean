/- What is proved here: the walk of the law CheckParts. Condition: the table of names holds what its initialiser lays ('Nms'). -/
import Derived.Test.YthncbnalnfbpnaaDoorWn
namespace Go.Proofs.YthncbnalnfbpnaaDoor
open Go.ChangeShapes Go.WideShapes Go.RowKit

/-- An image of one of its tasks. -/
theorem one_is {W : World} {x : ImV} {m : ImP} {k b off c : Nat} {T : TkP} (h : x.Is W m) (hk : k < x.tasks.n) (ha : x.tasks.a = some ⟨b, off, none⟩) (hT : m.tasks[k]? = some T) :
    ImV.Is W { x with tasks := ⟨some ⟨b, off + k * 7, none⟩, 1, c⟩ } { m with tasks := [T] } := by
  obtain ⟨h1, h2, h3, h4, h5, h6, ⟨hl, hr⟩, -⟩ := h
  refine ⟨h1, h2, h3, h4, h5, h6, ⟨rfl, fun _ => ?_⟩, by dsimp only; omega⟩
  obtain ⟨b', off', e, hlt, hc⟩ := hr (by omega)
  rw [ha] at e
  cases e
  obtain ⟨t, T', g1, g2, g3⟩ := hc k hk
  rw [hT] at g1
  cases g1
  refine ⟨b, off + k * 7, rfl, hlt, fun i hi => ?_⟩
  obtain rfl : i = 0 := by have : i < 1 := hi; omega
  exact ⟨t, T, rfl, g2, fun j v hj => by rw [Nat.zero_mul, Nat.add_zero]; exact g3 j v hj⟩
set_option maxHeartbeats 8000000 in
set_option maxRecDepth 100000 in
theorem parts_walk (x : ImV) (m : ImP) (w : World) (h : x.Is w m) (hcap : x.tasks.n ≤ x.tasks.c) (hN : Nms w) :
    Calls Tryd.prog 3 #[x.v] w fun e w' => e = .returned (.bool true) ∧ Below w.heap.size w w' := by
  have KN := Lib.hid (fun W (hb : Below w.heap.size w W) => known_any W (hN.below hb))
  obtain ⟨lg, hlg⟩ : ∃ lg, lightE m = lg := ⟨_, rfl⟩
  have LG := Lib.hid (fun W (hb : Below w.heap.size w W) => light_any x m W (h.below hb) lg hlg)
  obtain ⟨zr, hzr⟩ : ∃ zr, imE m = zr := ⟨_, rfl⟩
  have RG := Lib.hid (fun W (hb : Below w.heap.size w W) => imRight_any x m W (h.below hb) (hN.below hb) zr hzr)
  obtain ⟨r, hr⟩ : ∃ r, allE m = r := ⟨_, rfl⟩
  have AG := Lib.hid (fun W (hb : Below w.heap.size w W) => all_any x m W (h.below hb) (hN.below hb) r hr)
  have hlen : x.tasks.n = m.tasks.length := h.2.2.2.2.2.2.1.1
  have HT : Hid (∀ k, k < x.tasks.n → ∃ b off t T, x.tasks.a = some ⟨b, off, none⟩ ∧ b < w.heap.size ∧ m.tasks[k]? = some T ∧ TaV.Is w t T ∧ ∀ j v, t.cells[j]? = some v → w.cell? ⟨b, off + k * 7 + j, none⟩ = some v) := fun k hk => h.task hk
  have HI := Lib.hid h
  have HN := Lib.hid (fun W (hb : Below w.heap.size w W) => hN.below hb)
  clear hlg h hN
  obtain ⟨sw, la, cm, inp, ⟨sa, sn, sc⟩, ⟨ba, bn, bc⟩, ⟨ta, tn, tc⟩⟩ := x
  simp only [ImV.v, Sl.v] at LG RG AG hlen HT hcap ⊢
  have HLN := Lib.hid hlen
  clear hlen
  have C0 := Lib.hid (cells_new w #[.int .i64 sw, .int .i64 la, .int .i64 cm, .int .i64 inp, .slice sa sn sc, .slice ba bn bc, .slice ta tn tc] 26)
  have B0 := Lib.hid (below_alloc w (.cells #[.int .i64 sw, .int .i64 la, .int .i64 cm, .int .i64 inp, .slice sa sn sc, .slice ba bn bc, .slice ta tn tc] 26))
  by_cases z : lg = 0
  · have e1 : (lg == 0) = true := by simpa using z
    clear z RG AG HI HN hzr hr HT hcap
    go_enter Tryd.func3, Tryd.ntmps3
    go_wp2_with (first
      | (go_at_call 8; refine (LG.out _ B0.out).mono ?_; rintro e w1 ⟨rfl, hb1⟩; have b1 := keep_below B0.out hb1)
      | (go_at_call 10; refine (KN.out _ b1).mono ?_; rintro e w2 ⟨rfl, hb2⟩))
    go_ret
    exact ⟨rfl, keep_below b1 hb2⟩
  have e1 : (lg == 0) = false := by simpa using z
  clear z
  cases zr
  · clear HI HN hzr AG hr HT hcap
    go_enter Tryd.func3, Tryd.ntmps3
    go_wp2_with (first
      | (go_at_call 8; refine (LG.out _ B0.out).mono ?_; rintro e w1 ⟨rfl, hb1⟩; have b1 := keep_below B0.out hb1; have c0 := keep_cell hb1 (C0.out 0 _ rfl); have c1 := keep_cell hb1 (C0.out 1 _ rfl); have c2 := keep_cell hb1 (C0.out 2 _ rfl); have c3 := keep_cell hb1 (C0.out 3 _ rfl); have c4 := keep_cell hb1 (C0.out 4 _ rfl); have c5 := keep_cell hb1 (C0.out 5 _ rfl); have c6 := keep_cell hb1 (C0.out 6 _ rfl))
      | (go_at_call 9; refine (RG.out _ b1).mono ?_; rintro e w2 ⟨rfl, hb2'⟩; have b2 := keep_below b1 hb2')
      | (go_at_call 10; refine (KN.out _ b2).mono ?_; rintro e w3 ⟨rfl, hb3⟩))
    go_ret
    exact ⟨rfl, keep_below b2 hb3⟩
  have HZ := Lib.hid hzr
  have ht8 : tn ≤ 8 := by rw [HLN.out]; exact (tasksE_parts (imE_parts hzr).2.2.2).2.1
  have HR : Hid ((r.2 == 0) = (m.tasks.all fun t => wrE m t == 0)) := by
    show _ = _
    rw [← hr]
    unfold allE
    rw [if_pos hzr]
    rw [Bool.eq_iff_iff]
    simp only [beq_iff_eq, List.all_eq_true]
    exact allG_zero (m := m) (Int.le_refl 0)
  clear hzr hr
  go_enter Tryd.func3, Tryd.ntmps3
  go_wp2_with (first
    | (go_at_call 8; refine (LG.out _ B0.out).mono ?_; rintro e w1 ⟨rfl, hb1⟩; have b1 := keep_below B0.out hb1; have c0 := keep_cell hb1 (C0.out 0 _ rfl); have c1 := keep_cell hb1 (C0.out 1 _ rfl); have c2 := keep_cell hb1 (C0.out 2 _ rfl); have c3 := keep_cell hb1 (C0.out 3 _ rfl); have c4 := keep_cell hb1 (C0.out 4 _ rfl); have c5 := keep_cell hb1 (C0.out 5 _ rfl); have c6 := keep_cell hb1 (C0.out 6 _ rfl))
    | (go_at_call 9; refine (RG.out _ b1).mono ?_; rintro e w2 ⟨rfl, hb2'⟩; have HB2 := Lib.hid (keep_below hb1 hb2')))
  clear c0 c1 c2 c3 c4 c5 c6 hb1 b1 hb2' LG RG
  have HS0 : Hid (true = ((m.tasks.take 0).all fun t => wrE m t == 0)) := rfl
  go_loopw [3, 4] (fun a i wr => ∃ (k : Nat) (zz : Bool), k ≤ tn ∧ i = .int .i64 k ∧ a = .bool zz ∧ Hid (zz = ((m.tasks.take k).all fun t => wrE m t == 0)) ∧ Hid (Below (w.alloc (.cells #[.int .i64 sw, .int .i64 la, .int .i64 cm, .int .i64 inp, .slice sa sn sc, .slice ba bn bc, .slice ta tn tc] 26)).heap.size (w.alloc (.cells #[.int .i64 sw, .int .i64 la, .int .i64 cm, .int .i64 inp, .slice sa sn sc, .slice ba bn bc, .slice ta tn tc] 26)) wr)) (fun _ i _ => tn - (intOf i).toNat)
  case atStart => exact ⟨0, true, by omega, rfl, rfl, HS0, HB2⟩
  case round =>
    clear HB2 HS0
    obtain ⟨k, zz, hk, rfl, rfl, HS, HBL⟩ := hrel
    have bw := Lib.hid (keep_below B0.out HBL.out)
    by_cases hlt : k < tn
    · obtain ⟨b, off, ⟨pr, pe, de, ji, ⟨xa, xn, xc⟩, ⟨oa, on, oc⟩, ⟨ca, cn, cc⟩⟩, T, ha, hbB, hT, ht, hcs⟩ := HT.out k hlt
      have HX : Hid (∀ zz' : Bool, zz' = (zz && (wrE m T == 0)) → zz' = ((m.tasks.take (k + 1)).all fun t => wrE m t == 0)) := by
        intro zz' e
        rw [e, HS.out, take_cat hT, List.all_append]
        simp
      obtain ⟨y, hy⟩ : ∃ y, wrE m T = y := ⟨_, rfl⟩
      have hTm : T ∈ m.tasks := by obtain ⟨h7, e⟩ := List.getElem?_eq_some_iff.1 hT; rw [← e]; exact List.getElem_mem h7
      have hE1 : taskE m (k : Int) = y := by
        rw [taskE_in HZ.out (by omega) (by have := HLN.out; omega), ← hy]
        unfold tkAt; rw [Int.toNat_natCast, List.getD_eq_getElem?_getD, hT]; rfl
      have hE2 : taskE { m with tasks := [T] } 0 = y := (one_task HZ.out hTm).trans hy
      have TA := Lib.hid (fun W (hb : Below w.heap.size w W) => task_any ⟨sw, la, cm, inp, ⟨sa, sn, sc⟩, ⟨ba, bn, bc⟩, ⟨ta, tn, tc⟩⟩ m (k : Int) W (HI.out.below hb) (HN.out W hb) y hE1)
      have TB := Lib.hid (fun W (hb : Below w.heap.size w W) => task_any ⟨sw, la, cm, inp, ⟨sa, sn, sc⟩, ⟨ba, bn, bc⟩, ⟨some ⟨b, off + k * 7, none⟩, 1, tc - k⟩⟩ { m with tasks := [T] } 0 W (one_is (HI.out.below hb) hlt ha hT) (HN.out W hb) y hE2)
      have CLK := Lib.hid (fun W (hb : Below w.heap.size w W) => locks_any ca cn cc T.co W (ht.2.2.2.2.2.2.1.below hb) (HN.out W hb))
      unfold GotL at CLK
      have HBR := Lib.hid (fun W (hb : Below w.heap.size w W) => ht.2.2.2.2.1.1.below hb)
      have hxm : xn ≤ 140737488355328 := ht.2.2.2.2.1.2
      have d4 : w.cell? ⟨b, off + k * 7 + 4, none⟩ = some (.slice xa xn xc) := hcs 4 _ rfl
      have d6 : w.cell? ⟨b, off + k * 7 + 6, none⟩ = some (.slice ca cn cc) := hcs 6 _ rfl
      have D4 := Lib.hid d4
      have D6 := Lib.hid d6
      have HY : Hid (y = 0 → lE T.co = 0 ∧ lA T.co = T.bl) := by
        intro h0
        obtain ⟨g1, g2, -⟩ := wrE_zero (hy.trans h0)
        have h7 := (rE_zero (cE_zero g1).1).1
        exact ⟨h7, by unfold lA; rw [if_pos h7]; exact g2⟩
      rw [hy] at HX
      subst ha
      have i1 : (0 : Int) ≤ (k : Int) := by omega
      have i2 : (k : Int) < (tn : Int) := by omega
      have j1 : (k : Int) + 1 ≤ (tc : Int) := by omega
      have j2 : (k : Int) ≤ (k : Int) + 1 := by omega
      have j3 : IntKind.i64.wrap ((k : Int) + 1) = (k : Int) + 1 := IntWalk.i64_in _ (by omega)
      have j4 : ¬ tc - k = 0 := by omega
      have j5 : (0 : Int) ≤ (k : Int) + 1 := by omega
      clear d4 d6 hcs ht hT hTm hE1 hE2 hy
      have c0 := keep_cell HBL.out (C0.out 0 _ rfl)
      have c1 := keep_cell HBL.out (C0.out 1 _ rfl)
      have c2 := keep_cell HBL.out (C0.out 2 _ rfl)
      have c3 := keep_cell HBL.out (C0.out 3 _ rfl)
      have c4 := keep_cell HBL.out (C0.out 4 _ rfl)
      have c5 := keep_cell HBL.out (C0.out 5 _ rfl)
      have c6 := keep_cell HBL.out (C0.out 6 _ rfl)
      have f6 := keep_cell (below_alloc wr (.cells #[.int .i64 sw, .int .i64 la, .int .i64 cm, .int .i64 inp, .slice sa sn sc, .slice ba bn bc, .slice (some ⟨b, off, none⟩) tn tc] 26)) c6
      go_upto_region 9 with (fail)
      have X9 := Lib.hid (cells_new wr #[.int .i64 sw, .int .i64 la, .int .i64 cm, .int .i64 inp, .slice sa sn sc, .slice ba bn bc, .slice (some ⟨b, off + k * 7, none⟩) 1 (tc - k)] 26)
      have Q9 := Lib.hid (below_alloc wr (.cells #[.int .i64 sw, .int .i64 la, .int .i64 cm, .int .i64 inp, .slice sa sn sc, .slice ba bn bc, .slice (some ⟨b, off + k * 7, none⟩) 1 (tc - k)] 26))
      have N9 := Lib.hid (keep_below HBL.out Q9.out)
      have b9 := keep_below bw.out Q9.out
      clear c0 c1 c2 c3 c4 c5 c6 f6 j1 j2 j3 j4 j5
      have hB9 : Hid (∀ W, Below (wr.alloc (.cells #[.int .i64 sw, .int .i64 la, .int .i64 cm, .int .i64 inp, .slice sa sn sc, .slice ba bn bc, .slice (some ⟨b, off + k * 7, none⟩) 1 (tc - k)] 26)).heap.size (wr.alloc (.cells #[.int .i64 sw, .int .i64 la, .int .i64 cm, .int .i64 inp, .slice sa sn sc, .slice ba bn bc, .slice (some ⟨b, off + k * 7, none⟩) 1 (tc - k)] 26)) W → ∀ j v, (#[.int .i64 sw, .int .i64 la, .int .i64 cm, .int .i64 inp, .slice sa sn sc, .slice ba bn bc, .slice (some ⟨b, off + k * 7, none⟩) 1 (tc - k)] : Array Value).toList[j]? = some v → W.cell? ⟨wr.heap.size, j, none⟩ = some v) := fun W hb j v hj => keep_cell hb (X9.out j v hj)
      generalize wr.alloc (.cells #[.int .i64 sw, .int .i64 la, .int .i64 cm, .int .i64 inp, .slice sa sn sc, .slice ba bn bc, .slice (some ⟨b, off + k * 7, none⟩) 1 (tc - k)] 26) = W9 at X9 Q9 N9 b9 hB9 ⊢
      have c0 := keep_cell N9.out (C0.out 0 _ rfl)
      have c1 := keep_cell N9.out (C0.out 1 _ rfl)
      have c2 := keep_cell N9.out (C0.out 2 _ rfl)
      have c3 := keep_cell N9.out (C0.out 3 _ rfl)
      have c4 := keep_cell N9.out (C0.out 4 _ rfl)
      have c5 := keep_cell N9.out (C0.out 5 _ rfl)
      have c6 := keep_cell N9.out (C0.out 6 _ rfl)
      obtain ⟨B, hB⟩ : ∃ B, B = wr.heap.size := ⟨_, rfl⟩
      rw [← hB] at hB9 ⊢
      clear hB X9 Q9
      by_cases hy0 : y = 0
      · have e3 : (y == 0) = true := by simpa using hy0
        have e4 : (y != 0) = false := by simpa using hy0
        obtain ⟨g1, g2⟩ := HY.out hy0
        rw [g1, g2] at CLK
        have HSM := Lib.hid (fun W a n c (h1 : Row W a n T.bl) (hb : Below w.heap.size w W) => sameI_any a xa n xn c xc T.bl T.bl W h1 (HBR.out W hb) (by have := h1.1; have h7 : xn = T.bl.length := (HBR.out W hb).1; have h8 : xn ≤ 140737488355328 := hxm; omega) hxm true (by simp))
        have HXX := Lib.hid (HX.out zz (by rw [e3, Bool.and_true]))
        subst hy0
        clear g1 g2 HX HY e3 e4
        cases zz
        all_goals
          go_wp2_with (first
            | (go_at_call 11; have zz2 := mk11; clear zz2; refine (TB.out _ b11).mono ?_; rintro e w12 ⟨rfl, hb12⟩; have b12 := keep_below b11 hb12; have n12 := keep_below n11 hb12; have t6 := keep_cell n12 (C0.out 6 _ rfl); have t4 := keep_cell b12 D4.out)
            | (go_at_call 11; refine (TA.out _ b9).mono ?_; rintro e w10 ⟨rfl, hb10⟩; have b10 := keep_below b9 hb10; have n10 := keep_below N9.out hb10; have v6 := keep_cell n10 (C0.out 6 _ rfl); have v7 := keep_cell b10 D6.out)
            | (go_at_call 12; refine (CLK.out _ b10).mono ?_; rintro e w11 ⟨a11, n11', c11, rfl, r11, hb11⟩; have R11 := Lib.hid r11; clear r11; have b11 := keep_below b10 hb11; have n11 := keep_below n10 hb11; have mk11 := True.intro; have s0 := hB9.out _ (keep_below hb10 hb11) 0 _ rfl; have s1 := hB9.out _ (keep_below hb10 hb11) 1 _ rfl; have s2 := hB9.out _ (keep_below hb10 hb11) 2 _ rfl; have s3 := hB9.out _ (keep_below hb10 hb11) 3 _ rfl; have s4 := hB9.out _ (keep_below hb10 hb11) 4 _ rfl; have s5 := hB9.out _ (keep_below hb10 hb11) 5 _ rfl; have s6 := hB9.out _ (keep_below hb10 hb11) 6 _ rfl)
            | (go_at_call 13; refine (HSM.out _ _ _ _ (R11.out.below hb12) b12).mono ?_; rintro e w13 ⟨rfl, hb13⟩))
          go_roundw
          case rel => exact ⟨k + 1, _, by omega, by go_num, by go_num, HXX, Lib.hid (keep_below n12 hb13)⟩
          case measure => simp [intOf]; omega
      · have e3 : (y == 0) = false := by simpa using hy0
        have e4 : (y != 0) = true := by simpa using hy0
        have HXX := Lib.hid (HX.out false (by rw [e3, Bool.and_false]))
        generalize lE T.co = y2 at CLK
        clear HX HY hy0
        cases zz
        all_goals
          go_wp2_with (first
            | (go_at_call 11; have zz2 := mk11; clear zz2; refine (TB.out _ b11).mono ?_; rintro e w12 ⟨rfl, hb12⟩; have n12 := keep_below n11 hb12)
            | (go_at_call 11; refine (TA.out _ b9).mono ?_; rintro e w10 ⟨rfl, hb10⟩; have b10 := keep_below b9 hb10; have n10 := keep_below N9.out hb10; have v6 := keep_cell n10 (C0.out 6 _ rfl); have v7 := keep_cell b10 D6.out)
            | (go_at_call 12; refine (CLK.out _ b10).mono ?_; rintro e w11 ⟨a11, n11', c11, rfl, r11, hb11⟩; clear r11; have b11 := keep_below b10 hb11; have n11 := keep_below n10 hb11; have mk11 := True.intro; have s0 := hB9.out _ (keep_below hb10 hb11) 0 _ rfl; have s1 := hB9.out _ (keep_below hb10 hb11) 1 _ rfl; have s2 := hB9.out _ (keep_below hb10 hb11) 2 _ rfl; have s3 := hB9.out _ (keep_below hb10 hb11) 3 _ rfl; have s4 := hB9.out _ (keep_below hb10 hb11) 4 _ rfl; have s5 := hB9.out _ (keep_below hb10 hb11) 5 _ rfl; have s6 := hB9.out _ (keep_below hb10 hb11) 6 _ rfl))
          go_roundw
          case rel => exact ⟨k + 1, false, by omega, by go_num, by go_num, HXX, Lib.hid n12⟩
          case measure => simp [intOf]; omega
    · obtain rfl : k = tn := by omega
      have HSE : Hid ((r.2 == 0) = zz) := by
        show _ = _
        rw [HR.out, HS.out, List.take_of_length_le (by rw [← HLN.out]; exact Nat.le_refl _)]
      have c0 := keep_cell HBL.out (C0.out 0 _ rfl)
      have c1 := keep_cell HBL.out (C0.out 1 _ rfl)
      have c2 := keep_cell HBL.out (C0.out 2 _ rfl)
      have c3 := keep_cell HBL.out (C0.out 3 _ rfl)
      have c4 := keep_cell HBL.out (C0.out 4 _ rfl)
      have c5 := keep_cell HBL.out (C0.out 5 _ rfl)
      have c6 := keep_cell HBL.out (C0.out 6 _ rfl)
      have BL := HBL.out
      clear HS
      obtain ⟨r1, r2⟩ := r
      have hse := HSE.out
      simp only at hse
      cases zz
      all_goals
        go_wp2_with (first
          | (go_at_call 14; refine (AG.out _ bw.out).mono ?_; rintro e w8 ⟨rfl, hb8⟩; have b8 := keep_below bw.out hb8)
          | (go_at_call 10; refine (KN.out _ b8).mono ?_; rintro e w9 ⟨rfl, hb9⟩))
        go_ret
        exact ⟨rfl, keep_below b8 hb9⟩
end Go.Proofs.YthncbnalnfbpnaaDoor
