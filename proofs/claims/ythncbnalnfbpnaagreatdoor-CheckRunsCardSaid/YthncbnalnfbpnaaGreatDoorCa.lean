/- What is proved here: contracts of what package check asks of a plan: wrongSteps, wrongLocks, isBeyond. Conditions: the image and the task lie in memory; the table of names holds what its initialiser lays ('Nms'). -/
import Derived.Test.YthncbnalnfbpnaaGreatDoorCz0
import Derived.Test.YthncbnalnfbpnaaGreatDoorCk
import Derived.Test.YthncbnalnfbpnaaGreatDoorHj
import Derived.Test.YthncbnalnfbpnaaGreatDoorHr
namespace Go.Proofs.YthncbnalnfbpnaaGreatDoor
open Go.ChangeShapes Go.WideShapes Go.RowKit

/-- A plan's value. -/
def pv (x : ImV) (t : TaV) : Value := .agg #[.int .i64 x.sw, .int .i64 x.la, .int .i64 x.cm, .int .i64 x.inp, x.safe.v, x.blocks.v, x.tasks.v, .int .i64 t.pr, .int .i64 t.pe, .int .i64 t.de, .int .i64 t.ji, t.bl.v, t.ou.v, t.co.v]
theorem wrongSteps_any (x : ImV) (t : TaV) (co : List (Int × Int × Int)) (w : World) (h : SlC w t.co co) (hN : Nms w) (r : Int) (hq : cE true co = r) :
    Calls Tryz.prog 49 #[pv x t] w fun e w' => e = .returned (.int .i64 r) ∧ Below w.heap.size w w' := by
  obtain ⟨sw, la, cm, inp, ⟨sa, sn, sc⟩, ⟨ba, bn, bc⟩, ⟨ta, tn, tc⟩⟩ := x
  obtain ⟨pr, pe, de, ji, ⟨xa, xn, xc⟩, ⟨oa, on, oc⟩, ⟨ca, cn, cc⟩⟩ := t
  have cw := fun W (hb : Below w.heap.size w W) => worst_any ca cn cc co W (h.1.below hb) (hN.below hb)
  rw [hq] at cw
  generalize cW true co = y at cw
  have CW := Lib.hid cw
  clear cw h hN hq
  simp only [pv, Sl.v]
  go_enter Tryz.func49, Tryz.ntmps49
  go_wp2_with (refine (CW.out _ (below_alloc _ _)).mono ?_; rintro e w1 ⟨rfl, hb1⟩)
  go_ret
  exact ⟨rfl, (below_alloc _ _).trans (hb1.mono (by simp))⟩
theorem wrongLocks_any (x : ImV) (t : TaV) (T : TkP) (w : World) (h : t.Is w T) (hc : cE true T.co = 0) (hN : Nms w) (r : Int) (hq : wlE T = r) :
    Calls Tryz.prog 50 #[pv x t] w fun e w' => e = .returned (.int .i64 r) ∧ Below w.heap.size w w' := by
  obtain ⟨sw, la, cm, inp, ⟨sa, sn, sc⟩, ⟨ba, bn, bc⟩, ⟨ta, tn, tc⟩⟩ := x
  obtain ⟨pr, pe, de, ji, ⟨xa, xn, xc⟩, ⟨oa, on, oc⟩, ⟨ca, cn, cc⟩⟩ := t
  obtain ⟨-, -, -, -, ⟨hX, hXm⟩, -, ⟨hC, hCm⟩⟩ := h
  have hl := (rE_zero (cE_zero hc).1).1
  have cl := fun W (hb : Below w.heap.size w W) => locks_any ca cn cc T.co W (hC.below hb) (hN.below hb)
  unfold GotL at cl
  rw [hl, show lA T.co = lks T.co T.co.length by unfold lA; rw [if_pos hl]] at cl
  have hlen : (lks T.co T.co.length).length ≤ cn := by have h1 := hC.1; have h2 := lks_len T.co T.co.length; simp only at h1; omega
  obtain ⟨K, hK⟩ : ∃ K, K = lks T.co T.co.length := ⟨_, rfl⟩
  rw [← hK] at cl hlen
  have CL := Lib.hid cl
  have HK : Hid (∀ z, decide (K = T.bl) = z → r = if z = true then 0 else 11) := by
    rintro z rfl
    rw [← hq]; unfold wlE; rw [← hK]; simp
  have C0 := Lib.hid (cells_new w #[.int .i64 sw, .int .i64 la, .int .i64 cm, .int .i64 inp, .slice sa sn sc, .slice ba bn bc, .slice ta tn tc, .int .i64 pr, .int .i64 pe, .int .i64 de, .int .i64 ji, .slice xa xn xc, .slice oa on oc, .slice ca cn cc] 85)
  have B0 := Lib.hid (below_alloc w (.cells #[.int .i64 sw, .int .i64 la, .int .i64 cm, .int .i64 inp, .slice sa sn sc, .slice ba bn bc, .slice ta tn tc, .int .i64 pr, .int .i64 pe, .int .i64 de, .int .i64 ji, .slice xa xn xc, .slice oa on oc, .slice ca cn cc] 85))
  have CE := Lib.hid (fun W a2 n2 c2 (h2 : Row W a2 n2 K) (hb : Below w.heap.size w W) => equalI_any a2 xa n2 xn c2 xc K T.bl W h2 (hX.below hb) (by have := h2.1; simp only at hCm; omega) hXm)
  obtain ⟨z, hz⟩ : ∃ z, z = decide (K = T.bl) := ⟨_, rfl⟩
  rw [← hz] at CE
  have HR : Hid (r = if z = true then 0 else 11) := HK.out z hz.symm
  clear cl hlen HK hK hz hl hq hX hXm hC hCm hN hc
  simp only [pv, Sl.v]
  cases z
  all_goals
    go_enter Tryz.func50, Tryz.ntmps50
    go_wp2_with (first
      | (go_at_call 34; refine (CL.out _ B0.out).mono ?_; rintro e w1 ⟨a1, n1, c1, rfl, hr1, hb1⟩; have d1 := keep_cell hb1 (C0.out 11 _ rfl); have b2 := keep_below B0.out hb1)
      | (go_at_call 107; refine (CE.out _ _ _ _ hr1 b2).mono ?_; rintro e w2 ⟨rfl, hb2⟩))
    go_ret
    exact ⟨by rw [HR.out]; rfl, keep_below b2 hb2⟩
set_option maxHeartbeats 1000000 in
set_option maxRecDepth 100000 in
theorem isBeyond_any (x : ImV) (m : ImP) (t : TaV) (T : TkP) (o a b : Int) (w : World) (h : x.Is w m) (ht : t.Is w T) (hth : o = 17 ∨ o = 18 → 0 ≤ a ∧ a < (m.blocks.length : Int)) (r : Bool) (hq : bynE m T.ou (o, a, b) = r) :
    Calls Tryz.prog 109 #[pv x t, .agg #[.int .i64 o, .int .i64 a, .int .i64 b]] w fun e w' => e = .returned (.bool r) ∧ Below w.heap.size w w' := by
  obtain ⟨sw, la, cm, inp, ⟨sa, sn, sc⟩, ⟨ba, bn, bc⟩, ⟨ta, tn, tc⟩⟩ := x
  obtain ⟨pr, pe, de, ji, ⟨xa, xn, xc⟩, ⟨oa, on, oc⟩, ⟨ca, cn, cc⟩⟩ := t
  obtain ⟨-, -, -, hi, -, ⟨hB, hBm⟩, -⟩ := h
  obtain ⟨-, -, -, -, -, ⟨hO, hOm⟩, -⟩ := ht
  simp only at hi hB hBm hO hOm
  unfold bynE at hq
  simp only at hq
  simp only [pv, Sl.v]
  by_cases h15 : o = 15
  · subst h15
    rw [if_pos rfl] at hq
    have HR : Hid (decide (inp ≤ a) = r) := by rw [hi]; exact hq
    clear hB hBm hO hOm hth hq hi
    go_enter Tryz.func109, Tryz.ntmps109
    go_wp2
    go_ret
    exact ⟨by rw [← HR.out]; rfl, (below_alloc _ _).trans ((below_alloc _ _).mono (by simp))⟩
  · rw [if_neg h15] at hq
    have e15 : (o == 15) = false := by rw [beq_eq_false_iff_ne]; exact h15
    by_cases h16 : o = 16
    · subst h16
      rw [if_pos rfl] at hq
      obtain ⟨z, hz⟩ : ∃ z, T.ou.contains a = z := ⟨_, rfl⟩
      have CC := Lib.hid (fun W (hb : Below w.heap.size w W) => containsI_any oa on oc T.ou a W (hO.below hb) hOm z hz)
      have HR : Hid ((!z) = r) := by rw [← hz]; exact hq
      have B1 := Lib.hid (fun c1 c2 => ((below_alloc w c1).trans ((below_alloc (w.alloc c1) c2).mono (by simp)) : Below w.heap.size w ((w.alloc c1).alloc c2)))
      clear hB hBm hO hOm hth hq hi hz h15
      go_enter Tryz.func109, Tryz.ntmps109
      go_wp2_with (go_at_call 138; refine (CC.out _ (B1.out _ _)).mono ?_; rintro e w2 ⟨rfl, hb2⟩)
      go_ret
      exact ⟨by rw [← HR.out]; rfl, keep_below (B1.out _ _) hb2⟩
    · rw [if_neg h16] at hq
      have e16 : (o == 16) = false := by rw [beq_eq_false_iff_ne]; exact h16
      by_cases h17 : o = 17 ∨ o = 18
      · rw [if_pos h17] at hq
        obtain ⟨g1, g2⟩ := hth h17
        have hbn := hB.1
        obtain ⟨ai, rfl⟩ : ∃ ai : Nat, a = (ai : Int) := ⟨a.toNat, by omega⟩
        obtain ⟨b1, o1, a1, n1, c1, l1, rfl, hB1, hx, hc1, hr1, hn1⟩ := hB.item (k := ai) (by omega)
        have HR : Hid (decide ((n1 : Int) ≤ b) = r) := by
          rw [← hq, hr1.1, Int.toNat_natCast, List.getD_eq_getElem?_getD, hx]; rfl
        have i1 : (0 : Int) ≤ (ai : Int) := by omega
        have i2 : (ai : Int) < (bn : Int) := by omega
        have H1 := Lib.hid hc1
        have KB := Lib.hid (fun c1 c2 => ((below_alloc w c1).trans ((below_alloc (w.alloc c1) c2).mono (by simp)) : Below w.heap.size w ((w.alloc c1).alloc c2)))
        clear hB hx hr1 hO hOm hq hi hth g1 g2 hbn
        rcases h17 with rfl | rfl
        · have hc2 := keep_cell (KB.out (.cells #[.int .i64 sw, .int .i64 la, .int .i64 cm, .int .i64 inp, .slice sa sn sc, .slice (some ⟨b1, o1, none⟩) bn bc, .slice ta tn tc, .int .i64 pr, .int .i64 pe, .int .i64 de, .int .i64 ji, .slice xa xn xc, .slice oa on oc, .slice ca cn cc] 85) (.cells #[.int .i64 17, .int .i64 ai, .int .i64 b] 70)) H1.out
          go_enter Tryz.func109, Tryz.ntmps109
          go_wp2
          go_quiet (fail)
          go_wp2
          go_ret
          exact ⟨by rw [← HR.out]; rfl, (KB.out _ _).trans ⟨rfl, rfl, rfl, Nat.le_refl _, fun _ _ => rfl⟩⟩
        · have hc2 := keep_cell (KB.out (.cells #[.int .i64 sw, .int .i64 la, .int .i64 cm, .int .i64 inp, .slice sa sn sc, .slice (some ⟨b1, o1, none⟩) bn bc, .slice ta tn tc, .int .i64 pr, .int .i64 pe, .int .i64 de, .int .i64 ji, .slice xa xn xc, .slice oa on oc, .slice ca cn cc] 85) (.cells #[.int .i64 18, .int .i64 ai, .int .i64 b] 70)) H1.out
          go_enter Tryz.func109, Tryz.ntmps109
          go_wp2
          go_quiet (fail)
          go_wp2
          go_ret
          exact ⟨by rw [← HR.out]; rfl, (KB.out _ _).trans ⟨rfl, rfl, rfl, Nat.le_refl _, fun _ _ => rfl⟩⟩
      · rw [if_neg h17] at hq
        have e17 : (o == 17) = false := by rw [beq_eq_false_iff_ne]; omega
        have e18 : (o == 18) = false := by rw [beq_eq_false_iff_ne]; omega
        clear hB hBm hO hOm hth hi h15 h16 h17
        subst hq
        go_enter Tryz.func109, Tryz.ntmps109
        go_wp2
        go_ret
        exact ⟨rfl, (below_alloc _ _).trans ((below_alloc _ _).mono (by simp))⟩
end Go.Proofs.YthncbnalnfbpnaaGreatDoor
