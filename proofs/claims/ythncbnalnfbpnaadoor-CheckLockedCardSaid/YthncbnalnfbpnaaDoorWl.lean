/- What is proved here: the walk of the law CheckLocked. Condition: the table of names holds what its initialiser lays ('Nms'). -/
import Derived.Test.YthncbnalnfbpnaaDoorCg
namespace Go.Proofs.YthncbnalnfbpnaaDoor
open Go.ChangeShapes Go.WideShapes Go.RowKit

set_option maxHeartbeats 4000000 in
set_option maxRecDepth 100000 in
theorem locked_walk (x : ImV) (m : ImP) (i : Int) (w : World) (h : x.Is w m) (hN : Nms w) :
    Calls Tryd.prog 4 #[x.v, .int .i64 i] w fun e w' => e = .returned (.bool true) ∧ Below w.heap.size w w' := by
  have KN := Lib.hid (fun W (hb : Below w.heap.size w W) => known_any W (hN.below hb))
  obtain ⟨lg, hlg⟩ : ∃ lg, lightE m = lg := ⟨_, rfl⟩
  have LG := Lib.hid (fun W (hb : Below w.heap.size w W) => light_any x m W (h.below hb) lg hlg)
  obtain ⟨e0, he⟩ : ∃ e0, taskE m i = e0 := ⟨_, rfl⟩
  obtain ⟨l, hl⟩ : ∃ l, lkA m i = l := ⟨_, rfl⟩
  obtain ⟨n, hn⟩ : ∃ n, slW m i = n := ⟨_, rfl⟩
  have CL := Lib.hid (fun W (hb : Below w.heap.size w W) => locked_any x m i W (h.below hb) (hN.below hb) e0 l he hl)
  have CS := Lib.hid (fun W (hb : Below w.heap.size w W) => slots_any x m i W (h.below hb) (hN.below hb) n e0 he hn)
  unfold GotLk at CL
  have HI := Lib.hid h
  clear hlg h hN
  obtain ⟨sw, la, cm, inp, ⟨sa, sn, sc⟩, ⟨ba, bn, bc⟩, ⟨ta, tn, tc⟩⟩ := x
  simp only [ImV.v, Sl.v] at LG CL CS ⊢
  have C0 := Lib.hid (cells_new w #[.int .i64 sw, .int .i64 la, .int .i64 cm, .int .i64 inp, .slice sa sn sc, .slice ba bn bc, .slice ta tn tc] 26)
  have B0 := Lib.hid (below_alloc w (.cells #[.int .i64 sw, .int .i64 la, .int .i64 cm, .int .i64 inp, .slice sa sn sc, .slice ba bn bc, .slice ta tn tc] 26))
  by_cases z : lg = 0
  · have e1 : (lg == 0) = true := by simpa using z
    clear z CL CS HI he hl hn
    go_enter Tryd.func4, Tryd.ntmps4
    go_wp2_with (first
      | (go_at_call 8; refine (LG.out _ B0.out).mono ?_; rintro e w1 ⟨rfl, hb1⟩; have b1 := keep_below B0.out hb1)
      | (go_at_call 10; refine (KN.out _ b1).mono ?_; rintro e w2 ⟨rfl, hb2⟩))
    go_ret
    exact ⟨rfl, keep_below b1 hb2⟩
  have e1 : (lg == 0) = false := by simpa using z
  clear z
  by_cases z0 : e0 = 0
  · subst z0
    obtain ⟨h1, h2, h3, h4⟩ := taskE_zero he
    obtain ⟨f1, f2, f3, f4⟩ := locked_facts he
    obtain ⟨n1, n2, n3, n4⟩ := numE_parts (imE_parts h1).1
    have hlen : tn = m.tasks.length := HI.out.2.2.2.2.2.2.1.1
    have q2 : la = m.la := HI.out.2.1
    have q3 : cm = m.cm := HI.out.2.2.1
    obtain ⟨k, rfl⟩ : ∃ k : Nat, i = (k : Int) := ⟨i.toNat, by omega⟩
    obtain ⟨b, off, ⟨pr, pe, de, ji, ⟨xa, xn, xc⟩, ⟨oa, on, oc⟩, ⟨ca, cn, cc⟩⟩, T, ha, hbl, hT, ht, hcs⟩ := HI.out.task (k := k) (by show k < tn; omega)
    simp only at ha
    subst ha
    have eT : tkAt m (k : Int) = T := by unfold tkAt; rw [Int.toNat_natCast, List.getD_eq_getElem?_getD, hT]; rfl
    rw [hl, hn] at f3
    rw [hl] at f1 f4
    rw [hn, ← q2, ← q3] at f2
    rw [← q2] at n2
    rw [← q3] at n3
    have hxl : (xn : Nat) = T.bl.length := ht.2.2.2.2.1.1.1
    rw [eT, ← hxl] at f1
    have F1 := Lib.hid f1
    have F3 := Lib.hid f3
    have F4 := Lib.hid f4
    have d4 : w.cell? ⟨b, off + k * 7 + 4, none⟩ = some (.slice xa xn xc) := hcs 4 _ rfl
    have D4 := Lib.hid d4
    have i1 : (0 : Int) ≤ (k : Int) := h2
    have i2 : (k : Int) < (tn : Int) := by omega
    have s1 : IntKind.i64.wrap (la + cm) = la + cm := IntWalk.i64_in _ (by omega)
    have s2 : IntKind.i64.wrap (la + cm + 1) = la + cm + 1 := IntWalk.i64_in _ (by omega)
    have s3 : decide (la + cm + 1 ≤ n) = true := decide_eq_true (by omega)
    have hl200 : xn ≤ 200 := by
      have := (tkE_parts ((tasksE_parts (imE_parts h1).2.2.2).2.2.1 T (by rw [← eT]; exact (tkAt_mem h2 h3).1))).2.2.2
      unfold codeE at this
      simp only [Bool.and_eq_true] at this
      have h7 := inB_iff.1 this.1
      have h8 := (wrE_zero h4).2.1
      rw [eT] at h8
      have h9 := lks_len T.co T.co.length
      rw [h8, ← hxl] at h9
      omega
    clear f1 f2 f3 f4 d4 hcs ht hT eT hxl hl hn he h1 h3 h4 n1 n2 n3 n4 hlen q2 q3 HI
    go_enter Tryd.func4, Tryd.ntmps4
    go_wp2_with (first
      | (go_at_call 8; refine (LG.out _ B0.out).mono ?_; rintro e w1 ⟨rfl, hb1⟩; have b1 := keep_below B0.out hb1; have c0 := keep_cell hb1 (C0.out 0 _ rfl); have c1 := keep_cell hb1 (C0.out 1 _ rfl); have c2 := keep_cell hb1 (C0.out 2 _ rfl); have c3 := keep_cell hb1 (C0.out 3 _ rfl); have c4 := keep_cell hb1 (C0.out 4 _ rfl); have c5 := keep_cell hb1 (C0.out 5 _ rfl); have c6 := keep_cell hb1 (C0.out 6 _ rfl))
      | (go_at_call 15; refine (CL.out _ b1).mono ?_; rintro e w2 ⟨a3, n3, cp3, rfl, r3, hb2', -⟩; have R3 := Lib.hid r3; have b2 := keep_below b1 hb2'; have hb2 := keep_below hb1 hb2'; have hn3 : n3 = xn := r3.1.trans F1.out; subst hn3; clear r3; have d0 := keep_cell hb2 (C0.out 0 _ rfl); have d1 := keep_cell hb2 (C0.out 1 _ rfl); have d2 := keep_cell hb2 (C0.out 2 _ rfl); have d3 := keep_cell hb2 (C0.out 3 _ rfl); have d4 := keep_cell hb2 (C0.out 4 _ rfl); have d5 := keep_cell hb2 (C0.out 5 _ rfl); have d6 := keep_cell hb2 (C0.out 6 _ rfl))
      | (go_at_call 16; refine (CS.out _ b2).mono ?_; rintro e w3 ⟨rfl, hb3'⟩; have b3 := keep_below b2 hb3'; have hb3 := keep_below hb2 hb3'; have R4 := Lib.hid (R3.out.below hb3'); have g0 := keep_cell hb3 (C0.out 0 _ rfl); have g1 := keep_cell hb3 (C0.out 1 _ rfl); have g2 := keep_cell hb3 (C0.out 2 _ rfl); have g3 := keep_cell hb3 (C0.out 3 _ rfl); have g4 := keep_cell hb3 (C0.out 4 _ rfl); have g5 := keep_cell hb3 (C0.out 5 _ rfl); have g6 := keep_cell hb3 (C0.out 6 _ rfl); have t4 := keep_cell b3 D4.out))
    have HB3 := Lib.hid b3
    have HB3' := Lib.hid hb3
    clear c0 c1 c2 c3 c4 c5 c6 d0 d1 d2 d3 d4 d5 d6 g0 g3 g4 g5 g6 t4 hb1 hb2 hb2' hb3 hb3' b1 b2 b3 R3 LG CL CS D4
    go_loopw [9] (fun v wr => ∃ (q : Nat) (z : Int), q ≤ n3 ∧ z = (q : Int) ∧ v = .int .i64 z ∧ Below w3.heap.size w3 wr) (fun v _ => n3 - (intOf v).toNat)
    case atStart => exact ⟨0, 0, by omega, rfl, rfl, Below.refl _ _⟩
    case round =>
      obtain ⟨q, z, hq, hz, rfl, hbl⟩ := hrel
      by_cases hlt : q < n3
      · have hqn : q < l.length := by rw [F1.out]; exact hlt
        obtain ⟨y1, y2⟩ := F3.out q hqn
        obtain ⟨bb, oo, ea, hBB, hcell⟩ := (R4.out.below hbl).2 (by omega)
        subst ea
        have k1 := hcell q hlt
        obtain ⟨v1, hv1⟩ : ∃ v1, v1 = l.getD q 0 := ⟨_, rfl⟩
        rw [← hv1] at k1 y1 y2
        have e2 : decide (v1 < 1) = false := decide_eq_false (by omega)
        have e3 : decide (n ≤ v1) = false := decide_eq_false (by omega)
        by_cases h0 : q = 0
        · subst h0
          obtain rfl : z = 0 := hz
          have k0 : wr.cell? ⟨bb, oo, none⟩ = some (.int .i64 v1) := k1
          have s9 : (0 : Int) < (n3 : Int) := by omega
          clear k1 hv1 y1 y2 hqn hcell
          go_wp2
          go_quiet (fail)
          go_wp2
          go_roundw
          case rel => exact ⟨1, 1, by omega, rfl, by go_num, hbl.trans ⟨rfl, rfl, rfl, Nat.le_refl _, fun _ _ => rfl⟩⟩
          case measure => simp [intOf]; omega
        · obtain ⟨p, rfl⟩ : ∃ p, q = p + 1 := ⟨q - 1, by omega⟩
          have y3 := F4.out (p + 1) (by omega) hqn
          have k2 := hcell p (by omega)
          obtain ⟨v2, hv2⟩ : ∃ v2, v2 = l.getD p 0 := ⟨_, rfl⟩
          rw [← hv1, Nat.add_sub_cancel, ← hv2] at y3
          rw [← hv2] at k2
          have e4 : decide (v2 ≤ v1) = false := decide_eq_false (by omega)
          have e5 : decide ((0 : Int) < z) = true := decide_eq_true (by omega)
          have e6 : decide (z < (n3 : Int)) = true := decide_eq_true (by omega)
          have s5 : IntKind.i64.wrap (z - 1) = (p : Int) := by rw [show z - 1 = (p : Int) by omega]; exact IntWalk.i64_in _ (by omega)
          have s6 : z.toNat = p + 1 := by omega
          have s7 : (0 : Int) ≤ z := by omega
          have s8 : z < (n3 : Int) := by omega
          have s9 : (0 : Int) ≤ (p : Int) := by omega
          have s10 : (p : Int) < (n3 : Int) := by omega
          have s11 : z + 1 ≤ 300 := by omega
          have HZ := Lib.hid hz
          clear hv1 hv2 y1 y2 y3 hqn hcell h0 hz
          go_wp2
          go_quiet (fail)
          go_wp2
          go_roundw
          case rel => exact ⟨p + 1 + 1, z + 1, by omega, by have := HZ.out; omega, by go_num, hbl.trans ⟨rfl, rfl, rfl, Nat.le_refl _, fun _ _ => rfl⟩⟩
          case measure => have := HZ.out; simp [intOf]; omega
      · obtain rfl : q = n3 := by omega
        subst hz
        have j1 := keep_cell (keep_below HB3'.out hbl) (C0.out 1 _ rfl)
        have j2 := keep_cell (keep_below HB3'.out hbl) (C0.out 2 _ rfl)
        clear g1 g2
        go_wp2_with (go_at_call 10; refine (KN.out _ (keep_below HB3.out hbl)).mono ?_; rintro e w9 ⟨rfl, hb9⟩)
        go_ret
        exact ⟨rfl, keep_below (keep_below HB3.out hbl) hb9⟩
  · have hz := locked_zero (m := m) (i := i) (by rw [he]; exact z0)
    have hl0 : l = [] := by rw [← hl]; exact hz.1
    have hn0 : n = 0 := by rw [← hn]; exact hz.2
    subst hl0 hn0
    have e2 : (e0 == 0) = false := by simpa using z0
    have e3 : (e0 != 0) = true := by simpa using z0
    clear hz he hl hn z0 HI
    go_enter Tryd.func4, Tryd.ntmps4
    go_wp2_with (first
      | (go_at_call 8; refine (LG.out _ B0.out).mono ?_; rintro e w1 ⟨rfl, hb1⟩; have b1 := keep_below B0.out hb1; have c0 := keep_cell hb1 (C0.out 0 _ rfl); have c1 := keep_cell hb1 (C0.out 1 _ rfl); have c2 := keep_cell hb1 (C0.out 2 _ rfl); have c3 := keep_cell hb1 (C0.out 3 _ rfl); have c4 := keep_cell hb1 (C0.out 4 _ rfl); have c5 := keep_cell hb1 (C0.out 5 _ rfl); have c6 := keep_cell hb1 (C0.out 6 _ rfl))
      | (go_at_call 15; refine (CL.out _ b1).mono ?_; rintro e w2 ⟨a3, n3, cp3, rfl, r3, hb2', -⟩; have b2 := keep_below b1 hb2'; have hb2 := keep_below hb1 hb2'; have hn3 : n3 = 0 := r3.1; subst hn3; clear r3; have d0 := keep_cell hb2 (C0.out 0 _ rfl); have d1 := keep_cell hb2 (C0.out 1 _ rfl); have d2 := keep_cell hb2 (C0.out 2 _ rfl); have d3 := keep_cell hb2 (C0.out 3 _ rfl); have d4 := keep_cell hb2 (C0.out 4 _ rfl); have d5 := keep_cell hb2 (C0.out 5 _ rfl); have d6 := keep_cell hb2 (C0.out 6 _ rfl))
      | (go_at_call 16; refine (CS.out _ b2).mono ?_; rintro e w3 ⟨rfl, hb3'⟩; have b3 := keep_below b2 hb3')
      | (go_at_call 10; refine (KN.out _ b3).mono ?_; rintro e w4 ⟨rfl, hb4⟩))
    go_ret
    exact ⟨rfl, keep_below b3 hb4⟩
end Go.Proofs.YthncbnalnfbpnaaDoor
