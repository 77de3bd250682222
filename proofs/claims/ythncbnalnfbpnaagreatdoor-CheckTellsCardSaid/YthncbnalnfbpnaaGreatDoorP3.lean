/- What is proved here: contracts of the document's own test on an instruction's place. Conditions: a Get and a Put name a block that the image has. -/
import Derived.Test.YthncbnalnfbpnaaGreatDoorP1
import Derived.Test.YthncbnalnfbpnaaGreatDoorCa
namespace Go.Proofs.YthncbnalnfbpnaaGreatDoor
open Go.ChangeShapes Go.WideShapes Go.RowKit

def TaV.v (t : TaV) : Value := .agg #[.int .i64 t.pr, .int .i64 t.pe, .int .i64 t.de, .int .i64 t.ji, t.bl.v, t.ou.v, t.co.v]
set_option maxHeartbeats 4000000 in
set_option maxRecDepth 100000 in
theorem fits12_any (x : ImV) (m : ImP) (t : TaV) (T : TkP) (o a b : Int) (w : World) (h : x.Is w m) (ht : t.Is w T) (hth : o = 17 ∨ o = 18 → 0 ≤ a ∧ a < (m.blocks.length : Int)) (r : Bool) (hq : bynE m T.ou (o, a, b) = r) :
    Calls Tryz.prog 33 #[x.v, t.v, .agg #[.int .i64 o, .int .i64 a, .int .i64 b]] w fun e w' => e = .returned (.bool (!r)) ∧ Below w.heap.size w w' := by
  obtain ⟨sw, la, cm, inp, ⟨sa, sn, sc⟩, ⟨ba, bn, bc⟩, ⟨ta, tn, tc⟩⟩ := x
  obtain ⟨pr, pe, de, ji, ⟨xa, xn, xc⟩, ⟨oa, on, oc⟩, ⟨ca, cn, cc⟩⟩ := t
  obtain ⟨-, -, -, hi, -, ⟨hB, hBm⟩, -⟩ := h
  obtain ⟨-, -, -, -, -, ⟨hO, hOm⟩, -⟩ := ht
  simp only at hi hB hBm hO hOm
  unfold bynE at hq
  simp only at hq
  simp only [ImV.v, TaV.v, Sl.v]
  have KB := Lib.hid (fun c1 c2 c3 => ((below_alloc w c1).trans (((below_alloc (w.alloc c1) c2).trans ((below_alloc ((w.alloc c1).alloc c2) c3).mono (by simp))).mono (by simp)) : Below w.heap.size w (((w.alloc c1).alloc c2).alloc c3)))
  by_cases h15 : o = 15
  · subst h15
    rw [if_pos rfl] at hq
    have HR : Hid (decide (a < inp) = !r) := by
      show _ = _
      rw [← hq, hi]
      by_cases e : m.inp ≤ a
      · rw [decide_eq_true e, decide_eq_false (by omega)]; rfl
      · rw [decide_eq_false e, decide_eq_true (by omega)]; rfl
    clear hB hBm hO hOm hth hq hi
    go_enter Tryz.func33, Tryz.ntmps33
    go_wp2
    go_ret
    exact ⟨by rw [← HR.out]; rfl, KB.out _ _ _⟩
  · rw [if_neg h15] at hq
    have e15 : (o == 15) = false := by rw [beq_eq_false_iff_ne]; exact h15
    by_cases h16 : o = 16
    · subst h16
      rw [if_pos rfl] at hq
      obtain ⟨z, hz⟩ : ∃ z, T.ou.contains a = z := ⟨_, rfl⟩
      have CC := Lib.hid (fun W (hb : Below w.heap.size w W) => hasR_any oa on oc T.ou a W (hO.below hb) hOm z hz)
      have HR : Hid (z = !r) := by show _ = _; rw [← hq, ← hz, Bool.not_not]
      clear hB hBm hO hOm hth hq hi hz h15
      go_enter Tryz.func33, Tryz.ntmps33
      go_wp2_with (go_at_call 56; refine (CC.out _ (KB.out _ _ _)).mono ?_; rintro e w2 ⟨rfl, hb2⟩)
      go_ret
      exact ⟨by rw [← HR.out]; rfl, keep_below (KB.out _ _ _) hb2⟩
    · rw [if_neg h16] at hq
      have e16 : (o == 16) = false := by rw [beq_eq_false_iff_ne]; exact h16
      by_cases h17 : o = 17 ∨ o = 18
      · rw [if_pos h17] at hq
        obtain ⟨g1, g2⟩ := hth h17
        have hbn := hB.1
        obtain ⟨ai, rfl⟩ : ∃ ai : Nat, a = (ai : Int) := ⟨a.toNat, by omega⟩
        obtain ⟨b1, o1, a1, n1, c1, l1, rfl, hB1, hx, hc1, hr1, hn1⟩ := hB.item (k := ai) (by omega)
        have HR : Hid (decide (b < (n1 : Int)) = !r) := by
          show _ = _
          rw [← hq, hr1.1, Int.toNat_natCast, List.getD_eq_getElem?_getD, hx]
          show _ = !decide ((l1.length : Int) ≤ b)
          by_cases e : (l1.length : Int) ≤ b
          · rw [decide_eq_true e, decide_eq_false (by omega)]; rfl
          · rw [decide_eq_false e, decide_eq_true (by omega)]; rfl
        have i1 : (0 : Int) ≤ (ai : Int) := by omega
        have i2 : (ai : Int) < (bn : Int) := by omega
        clear hB hx hr1 hO hOm hq hi hth g1 g2 hbn
        have hc2 := keep_cell (KB.out (.cells #[.int .i64 sw, .int .i64 la, .int .i64 cm, .int .i64 inp, .slice sa sn sc, .slice (some ⟨b1, o1, none⟩) bn bc, .slice ta tn tc] 31) (.cells #[.int .i64 pr, .int .i64 pe, .int .i64 de, .int .i64 ji, .slice xa xn xc, .slice oa on oc, .slice ca cn cc] 72) (.cells #[.int .i64 o, .int .i64 (ai : Int), .int .i64 b] 70)) hc1
        rcases h17 with rfl | rfl
        · go_enter Tryz.func33, Tryz.ntmps33
          go_wp2
          go_quiet (fail)
          go_wp2
          go_ret
          exact ⟨by rw [← HR.out]; rfl, (KB.out _ _ _).trans ⟨rfl, rfl, rfl, Nat.le_refl _, fun _ _ => rfl⟩⟩
        · go_enter Tryz.func33, Tryz.ntmps33
          go_wp2
          go_quiet (fail)
          go_wp2
          go_ret
          exact ⟨by rw [← HR.out]; rfl, (KB.out _ _ _).trans ⟨rfl, rfl, rfl, Nat.le_refl _, fun _ _ => rfl⟩⟩
      · rw [if_neg h17] at hq
        have e17 : (o == 17) = false := by rw [beq_eq_false_iff_ne]; omega
        have e18 : (o == 18) = false := by rw [beq_eq_false_iff_ne]; omega
        clear hB hBm hO hOm hth hi h15 h16 h17
        subst hq
        go_enter Tryz.func33, Tryz.ntmps33
        go_wp2
        go_ret
        exact ⟨rfl, KB.out _ _ _⟩
end Go.Proofs.YthncbnalnfbpnaaGreatDoor
