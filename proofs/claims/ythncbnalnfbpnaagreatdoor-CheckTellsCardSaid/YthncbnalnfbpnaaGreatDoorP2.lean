/- What is proved here: contracts of the document's own test on a task. Conditions: none beyond those each theorem states. -/
import Derived.Test.YthncbnalnfbpnaaGreatDoorP3
import Derived.Test.YthncbnalnfbpnaaGreatDoorGi
import Derived.Test.YthncbnalnfbpnaaGreatDoorKg
namespace Go.Proofs.YthncbnalnfbpnaaGreatDoor
open Go.ChangeShapes Go.WideShapes Go.RowKit

/-- Two new blocks that hold these cells, and an old world below them. -/
structure Bx (w : World) (c d : List Value) (W : World) : Prop where
  b : Below w.heap.size w W
  c : ∀ j v, c[j]? = some v → W.cell? ⟨w.heap.size, j, none⟩ = some v
  d : ∀ j v, d[j]? = some v → W.cell? ⟨w.heap.size + 1, j, none⟩ = some v
theorem Bx.below {w W W' : World} {c d : List Value} (h : Bx w c d W) (hb : Below W.heap.size W W') : Bx w c d W' :=
  ⟨keep_below h.b hb, fun j v e => keep_cell hb (h.c j v e), fun j v e => keep_cell hb (h.d j v e)⟩
theorem Bx.new (w : World) (c d : Array Value) (s t : TypeId) : Bx w c.toList d.toList ((w.alloc (.cells c s)).alloc (.cells d t)) := by
  have B2 := below_alloc (w.alloc (.cells c s)) (.cells d t)
  have hs1 : (w.alloc (.cells c s)).heap.size = w.heap.size + 1 := Array.size_push _
  refine ⟨keep_below (below_alloc w _) B2, fun j v e => keep_cell B2 (cells_new w c s j v e), fun j v e => ?_⟩
  have := cells_new (w.alloc (.cells c s)) d t j v e
  rw [hs1] at this
  exact this
set_option maxHeartbeats 16000000 in
set_option maxRecDepth 100000 in
theorem oneR_any (x : ImV) (m : ImP) (t : TaV) (T : TkP) (w : World) (h : x.Is w m) (ht : t.Is w T) (r : Bool) (hq : tkE m.blocks.length m.safe.length T = r) :
    Calls Tryz.prog 53 #[x.v, t.v] w fun e w' => e = .returned (.bool r) ∧ Below w.heap.size w w' := by
  obtain ⟨sw, la, cm, inp, ⟨sa, sn, sc⟩, ⟨ba, bn, bc⟩, ⟨ta, tn, tc⟩⟩ := x
  obtain ⟨pr, pe, de, ji, ⟨xa, xn, xc⟩, ⟨oa, on, oc⟩, ⟨ca, cn, cc⟩⟩ := t
  obtain ⟨Pr, Pe, De, Ji, bl, ou, co⟩ := T
  obtain ⟨q1, q2, q3, q4, hs, ⟨hb, _⟩, _⟩ := h
  simp only at q1 q2 q3 q4
  clear q1 q2 q3 q4
  obtain ⟨g1, g2, g3, g4, hbl, hou, hco⟩ := ht
  simp only [SlI, SlC] at hs hbl hou hco g1 g2 g3 g4 hb
  subst g1 g2 g3 g4
  rw [← hb.1, ← hs.1.1] at hq
  obtain ⟨hbl, hbn⟩ := hbl
  obtain ⟨hou, hon⟩ := hou
  obtain ⟨hco, hcn⟩ := hco
  have hall : co.all right = false → r = false := fun h => by rw [← hq]; unfold tkE codeE; simp only [h, Bool.and_false]
  have hfin : co.all right = true → ((inB pr 1 100 && (inB pe 1 1048576 && (inB de 1 pe && inB ji 0 1048576))) && (riseE (-1) bn bl && (riseE (-1) sn ou && inB cn 1 200))) = r := fun h => by
    rw [← hq]; unfold tkE codeE tkNumE; simp only [h, Bool.and_true]; rw [hco.1]
  have HA0 := Lib.hid hall
  have HF0 := Lib.hid hfin
  have HL := Lib.hid hco.1
  have HBL := Lib.hid hbl
  have HOU := Lib.hid hou
  have HCO := Lib.hid hco
  have hB0 : Bx w (#[.int .i64 sw, .int .i64 la, .int .i64 cm, .int .i64 inp, .slice sa sn sc, .slice ba bn bc, .slice ta tn tc] : Array Value).toList (#[.int .i64 pr, .int .i64 pe, .int .i64 de, .int .i64 ji, .slice xa xn xc, .slice oa on oc, .slice ca cn cc] : Array Value).toList ((w.alloc (.cells #[.int .i64 sw, .int .i64 la, .int .i64 cm, .int .i64 inp, .slice sa sn sc, .slice ba bn bc, .slice ta tn tc] 31)).alloc (.cells #[.int .i64 pr, .int .i64 pe, .int .i64 de, .int .i64 ji, .slice xa xn xc, .slice oa on oc, .slice ca cn cc] 72)) := Bx.new w _ _ _ _
  have HB0 := Lib.hid hB0
  clear hall hfin hq hco hbl hou hs hb hB0
  simp only [ImV.v, TaV.v, Sl.v]
  go_enter Tryz.func53, Tryz.ntmps53
  go_wp2
  go_loopw [5] (fun i wr => ∃ k : Nat, k ≤ cn ∧ i = .int .i64 k ∧ Hid (co.all right = (co.drop k).all right) ∧ Bx w (#[.int .i64 sw, .int .i64 la, .int .i64 cm, .int .i64 inp, .slice sa sn sc, .slice ba bn bc, .slice ta tn tc] : Array Value).toList (#[.int .i64 pr, .int .i64 pe, .int .i64 de, .int .i64 ji, .slice xa xn xc, .slice oa on oc, .slice ca cn cc] : Array Value).toList wr) (fun i _ => cn - (intOf i).toNat)
  case atStart => exact ⟨0, by omega, rfl, rfl, HB0.out⟩
  case round =>
    obtain ⟨k, hk, rfl, HA, hB⟩ := hrel
    have HB := Lib.hid hB
    have y6 := hB.d 6 _ rfl
    clear hB
    by_cases hlt : k < cn
    · obtain ⟨b1, o1, p1, p2, p3, rfl, hB1, hx, hc1, hc2, hc3⟩ := (HCO.out.below HB.out.b).at_ hlt
      have HX := Lib.hid (all_step (f := right) hx)
      clear hx
      have i1 : (0 : Int) ≤ (k : Int) := by omega
      have i2 : (k : Int) < (cn : Int) := by omega
      cases hv : right (p1, p2, p3)
      · have HR := Lib.hid (HA0.out (by rw [HA.out, HX.out, hv]; rfl))
        have CE := Lib.hid (fun W => hv ▸ rightR_any p1 p2 p3 W)
        clear hv HA HX
        go_wp2_with (go_at_call 110; refine (CE.out _).mono ?_; rintro e w2 ⟨rfl, hb2⟩)
        go_ret
        exact ⟨by rw [HR.out]; rfl, (HB.out.below hb2).b⟩
      · have HT : Hid (co.all right = (co.drop (k + 1)).all right) := by show _ = _; rw [HA.out, HX.out, hv]; rfl
        have CE := Lib.hid (fun W => hv ▸ rightR_any p1 p2 p3 W)
        clear hv HA HX
        go_wp2_with (go_at_call 110; refine (CE.out _).mono ?_; rintro e w2 ⟨rfl, hb2⟩)
        go_roundw
        case rel => exact ⟨k + 1, by omega, by go_num, HT, HB.out.below hb2⟩
        case measure => simp [intOf]; omega
    · obtain rfl : k = cn := by omega
      have hF := HF0.out (by rw [HA.out, List.drop_of_length_le (by rw [HL.out]; exact Nat.le_refl _)]; rfl)
      obtain ⟨x1, e1⟩ : ∃ x, inB pr 1 100 = x := ⟨_, rfl⟩
      obtain ⟨x2, e2⟩ : ∃ x, inB pe 1 1048576 = x := ⟨_, rfl⟩
      obtain ⟨x3, e3⟩ : ∃ x, inB de 1 pe = x := ⟨_, rfl⟩
      obtain ⟨x4, e4⟩ : ∃ x, inB ji 0 1048576 = x := ⟨_, rfl⟩
      obtain ⟨x5, e5⟩ : ∃ x, riseE (-1) bn bl = x := ⟨_, rfl⟩
      obtain ⟨x6, e6⟩ : ∃ x, riseE (-1) sn ou = x := ⟨_, rfl⟩
      obtain ⟨x7, e7⟩ : ∃ x, inB k 1 200 = x := ⟨_, rfl⟩
      rw [e1, e2, e3, e4, e5, e6, e7] at hF
      have HF := Lib.hid hF
      have I1 := Lib.hid (fun W => inR_any pr 1 100 W x1 e1)
      have I2 := Lib.hid (fun W => inR_any pe 1 1048576 W x2 e2)
      have I3 := Lib.hid (fun W => inR_any de 1 pe W x3 e3)
      have I4 := Lib.hid (fun W => inR_any ji 0 1048576 W x4 e4)
      have I7 := Lib.hid (fun W => inR_any k 1 200 W x7 e7)
      have R5 := Lib.hid (fun W (hb : Below w.heap.size w W) => risesR_any xa xn xc bl bn W (HBL.out.below hb) hbn x5 e5)
      have R6 := Lib.hid (fun W (hb : Below w.heap.size w W) => risesR_any oa on oc ou sn W (HOU.out.below hb) hon x6 e6)
      have y0 := HB.out.d 0 _ rfl
      have y1 := HB.out.d 1 _ rfl
      have y2 := HB.out.d 2 _ rfl
      have y3 := HB.out.d 3 _ rfl
      have y4 := HB.out.d 4 _ rfl
      have z5 := HB.out.c 5 _ rfl
      clear e1 e2 e3 e4 e5 e6 e7 hF HF0 HA0 HA hlt hk
      cases x1
      · (go_wp2_with (first
          | (go_at_call 52; (first | (refine (I1.out _).mono ?_; clear I1) | (refine (I2.out _).mono ?_; clear I2) | (refine (I3.out _).mono ?_; clear I3) | (refine (I4.out _).mono ?_; clear I4) | (refine (I7.out _).mono ?_; clear I7)); rintro e w9 ⟨rfl, rfl⟩)
          | (go_at_call 111; refine (R5.out _ HB.out.b).mono ?_; clear R5; rintro e w1 ⟨rfl, hb1⟩; have HB1 := HB.out.below hb1; have f5 := HB1.d 5 _ rfl; have f4 := HB1.c 4 _ rfl)
          | (go_at_call 111; refine (R6.out _ HB1.b).mono ?_; rintro e w2 ⟨rfl, hb2⟩; have HB2 := HB1.below hb2; have f6 := HB2.d 6 _ rfl));
         go_ret; exact ⟨by rw [← HF.out]; rfl, by first | exact HB2.b | exact HB1.b | exact HB.out.b⟩)
      cases x2
      · (go_wp2_with (first
          | (go_at_call 52; (first | (refine (I1.out _).mono ?_; clear I1) | (refine (I2.out _).mono ?_; clear I2) | (refine (I3.out _).mono ?_; clear I3) | (refine (I4.out _).mono ?_; clear I4) | (refine (I7.out _).mono ?_; clear I7)); rintro e w9 ⟨rfl, rfl⟩)
          | (go_at_call 111; refine (R5.out _ HB.out.b).mono ?_; clear R5; rintro e w1 ⟨rfl, hb1⟩; have HB1 := HB.out.below hb1; have f5 := HB1.d 5 _ rfl; have f4 := HB1.c 4 _ rfl)
          | (go_at_call 111; refine (R6.out _ HB1.b).mono ?_; rintro e w2 ⟨rfl, hb2⟩; have HB2 := HB1.below hb2; have f6 := HB2.d 6 _ rfl));
         go_ret; exact ⟨by rw [← HF.out]; rfl, by first | exact HB2.b | exact HB1.b | exact HB.out.b⟩)
      cases x3
      · (go_wp2_with (first
          | (go_at_call 52; (first | (refine (I1.out _).mono ?_; clear I1) | (refine (I2.out _).mono ?_; clear I2) | (refine (I3.out _).mono ?_; clear I3) | (refine (I4.out _).mono ?_; clear I4) | (refine (I7.out _).mono ?_; clear I7)); rintro e w9 ⟨rfl, rfl⟩)
          | (go_at_call 111; refine (R5.out _ HB.out.b).mono ?_; clear R5; rintro e w1 ⟨rfl, hb1⟩; have HB1 := HB.out.below hb1; have f5 := HB1.d 5 _ rfl; have f4 := HB1.c 4 _ rfl)
          | (go_at_call 111; refine (R6.out _ HB1.b).mono ?_; rintro e w2 ⟨rfl, hb2⟩; have HB2 := HB1.below hb2; have f6 := HB2.d 6 _ rfl));
         go_ret; exact ⟨by rw [← HF.out]; rfl, by first | exact HB2.b | exact HB1.b | exact HB.out.b⟩)
      cases x4
      · (go_wp2_with (first
          | (go_at_call 52; (first | (refine (I1.out _).mono ?_; clear I1) | (refine (I2.out _).mono ?_; clear I2) | (refine (I3.out _).mono ?_; clear I3) | (refine (I4.out _).mono ?_; clear I4) | (refine (I7.out _).mono ?_; clear I7)); rintro e w9 ⟨rfl, rfl⟩)
          | (go_at_call 111; refine (R5.out _ HB.out.b).mono ?_; clear R5; rintro e w1 ⟨rfl, hb1⟩; have HB1 := HB.out.below hb1; have f5 := HB1.d 5 _ rfl; have f4 := HB1.c 4 _ rfl)
          | (go_at_call 111; refine (R6.out _ HB1.b).mono ?_; rintro e w2 ⟨rfl, hb2⟩; have HB2 := HB1.below hb2; have f6 := HB2.d 6 _ rfl));
         go_ret; exact ⟨by rw [← HF.out]; rfl, by first | exact HB2.b | exact HB1.b | exact HB.out.b⟩)
      cases x5
      · (go_wp2_with (first
          | (go_at_call 52; (first | (refine (I1.out _).mono ?_; clear I1) | (refine (I2.out _).mono ?_; clear I2) | (refine (I3.out _).mono ?_; clear I3) | (refine (I4.out _).mono ?_; clear I4) | (refine (I7.out _).mono ?_; clear I7)); rintro e w9 ⟨rfl, rfl⟩)
          | (go_at_call 111; refine (R5.out _ HB.out.b).mono ?_; clear R5; rintro e w1 ⟨rfl, hb1⟩; have HB1 := HB.out.below hb1; have f5 := HB1.d 5 _ rfl; have f4 := HB1.c 4 _ rfl)
          | (go_at_call 111; refine (R6.out _ HB1.b).mono ?_; rintro e w2 ⟨rfl, hb2⟩; have HB2 := HB1.below hb2; have f6 := HB2.d 6 _ rfl));
         go_ret; exact ⟨by rw [← HF.out]; rfl, by first | exact HB2.b | exact HB1.b | exact HB.out.b⟩)
      cases x6
      · (go_wp2_with (first
          | (go_at_call 52; (first | (refine (I1.out _).mono ?_; clear I1) | (refine (I2.out _).mono ?_; clear I2) | (refine (I3.out _).mono ?_; clear I3) | (refine (I4.out _).mono ?_; clear I4) | (refine (I7.out _).mono ?_; clear I7)); rintro e w9 ⟨rfl, rfl⟩)
          | (go_at_call 111; refine (R5.out _ HB.out.b).mono ?_; clear R5; rintro e w1 ⟨rfl, hb1⟩; have HB1 := HB.out.below hb1; have f5 := HB1.d 5 _ rfl; have f4 := HB1.c 4 _ rfl)
          | (go_at_call 111; refine (R6.out _ HB1.b).mono ?_; rintro e w2 ⟨rfl, hb2⟩; have HB2 := HB1.below hb2; have f6 := HB2.d 6 _ rfl));
         go_ret; exact ⟨by rw [← HF.out]; rfl, by first | exact HB2.b | exact HB1.b | exact HB.out.b⟩)
      cases x7
      · (go_wp2_with (first
          | (go_at_call 52; (first | (refine (I1.out _).mono ?_; clear I1) | (refine (I2.out _).mono ?_; clear I2) | (refine (I3.out _).mono ?_; clear I3) | (refine (I4.out _).mono ?_; clear I4) | (refine (I7.out _).mono ?_; clear I7)); rintro e w9 ⟨rfl, rfl⟩)
          | (go_at_call 111; refine (R5.out _ HB.out.b).mono ?_; clear R5; rintro e w1 ⟨rfl, hb1⟩; have HB1 := HB.out.below hb1; have f5 := HB1.d 5 _ rfl; have f4 := HB1.c 4 _ rfl)
          | (go_at_call 111; refine (R6.out _ HB1.b).mono ?_; rintro e w2 ⟨rfl, hb2⟩; have HB2 := HB1.below hb2; have f6 := HB2.d 6 _ rfl));
         go_ret; exact ⟨by rw [← HF.out]; rfl, by first | exact HB2.b | exact HB1.b | exact HB.out.b⟩)
      (go_wp2_with (first
          | (go_at_call 52; (first | (refine (I1.out _).mono ?_; clear I1) | (refine (I2.out _).mono ?_; clear I2) | (refine (I3.out _).mono ?_; clear I3) | (refine (I4.out _).mono ?_; clear I4) | (refine (I7.out _).mono ?_; clear I7)); rintro e w9 ⟨rfl, rfl⟩)
          | (go_at_call 111; refine (R5.out _ HB.out.b).mono ?_; clear R5; rintro e w1 ⟨rfl, hb1⟩; have HB1 := HB.out.below hb1; have f5 := HB1.d 5 _ rfl; have f4 := HB1.c 4 _ rfl)
          | (go_at_call 111; refine (R6.out _ HB1.b).mono ?_; rintro e w2 ⟨rfl, hb2⟩; have HB2 := HB1.below hb2; have f6 := HB2.d 6 _ rfl));
         go_ret; exact ⟨by rw [← HF.out]; rfl, by first | exact HB2.b | exact HB1.b | exact HB.out.b⟩)
end Go.Proofs.YthncbnalnfbpnaaGreatDoor
