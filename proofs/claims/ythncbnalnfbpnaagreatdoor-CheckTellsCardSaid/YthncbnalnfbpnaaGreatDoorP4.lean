/- What is proved here: a contract of the document's own Task. Conditions: the image lies in memory; what the document's own Right answers of it is told. -/
import Derived.Test.YthncbnalnfbpnaaGreatDoorP3
import Derived.Test.YthncbnalnfbpnaaGreatDoorCe
import Derived.Test.YthncbnalnfbpnaaGreatDoorKi
import Derived.StillTailTactics
namespace Go.Proofs.YthncbnalnfbpnaaGreatDoor
open Go.ChangeShapes Go.WideShapes Go.RowKit

/-- A new block and a later one that hold these cells, and an old world below them. -/
structure By (w : World) (c d : List Value) (B : Nat) (W : World) : Prop where
  b : Below w.heap.size w W
  c : ∀ j v, c[j]? = some v → W.cell? ⟨w.heap.size, j, none⟩ = some v
  d : ∀ j v, d[j]? = some v → W.cell? ⟨B, j, none⟩ = some v
theorem By.below {w W W' : World} {c d : List Value} {B : Nat} (h : By w c d B W) (hb : Below W.heap.size W W') : By w c d B W' :=
  ⟨keep_below h.b hb, fun j v e => keep_cell hb (h.c j v e), fun j v e => keep_cell hb (h.d j v e)⟩
theorem By.new {w w1 : World} {c : List Value} (d : Array Value) (t : TypeId) (hb : Below w.heap.size w w1) (hc : ∀ j v, c[j]? = some v → w1.cell? ⟨w.heap.size, j, none⟩ = some v) : By w c d.toList w1.heap.size (w1.alloc (.cells d t)) :=
  ⟨keep_below hb (below_alloc _ _), fun j v e => keep_cell (below_alloc _ _) (hc j v e), fun j v e => cells_new w1 d t j v e⟩
theorem any_at {L : List (Int × Int × Int)} {q : Nat} {o a b : Int} (h : L[q]? = some (o, a, b)) : at_ L q = (o, a, b) := by
  unfold at_; rw [List.getD_eq_getElem?_getD, h]; rfl
set_option maxHeartbeats 8000000 in
set_option maxRecDepth 100000 in
theorem task12_any (x : ImV) (m : ImP) (i : Int) (w : World) (h : x.Is w m) (cr : ∀ W, Below w.heap.size w W → Calls Tryz.prog 31 #[x.v] W fun e w' => e = .returned (.bool (imE m)) ∧ Below W.heap.size W w') (r : Int) (hq : taskE m i = r) :
    Calls Tryz.prog 15 #[x.v, .int .i64 i] w fun e w' => e = .returned (.int .i64 r) ∧ Below w.heap.size w w' := by
  have HI := Lib.hid h
  obtain ⟨z, hz⟩ : ∃ z, imE m = z := ⟨_, rfl⟩
  rw [hz] at cr
  have CR := Lib.hid cr
  have hlen : x.tasks.n = m.tasks.length := h.2.2.2.2.2.2.1.1
  have hmx : x.tasks.n ≤ 140737488355328 := h.2.2.2.2.2.2.2
  have HQ : Hid ((if z = true then (if 0 ≤ i ∧ i < (x.tasks.n : Int) then wrE m (tkAt m i) else 14) else 12) = r) := by rw [hlen, ← hz]; exact hq
  have HT : Hid (∀ k, k < x.tasks.n → ∃ b off t T, x.tasks.a = some ⟨b, off, none⟩ ∧ b < w.heap.size ∧ m.tasks[k]? = some T ∧ TaV.Is w t T ∧ ∀ j v, t.cells[j]? = some v → w.cell? ⟨b, off + k * 7 + j, none⟩ = some v) := fun k hk => h.task hk
  have HZ := Lib.hid hz
  have HF : Hid (∀ W, Below w.heap.size w W → ∀ (t : TaV) (T : TkP), TaV.Is W t T → T ∈ m.tasks → imE m = true → cE true T.co = 0 → lks T.co T.co.length = T.bl → ∀ (q : Nat) (o a b : Int), T.co[q]? = some (o, a, b) → ∀ r, bynE m T.ou (o, a, b) = r → Calls Tryz.prog 33 #[x.v, t.v, .agg #[.int .i64 o, .int .i64 a, .int .i64 b]] W fun e w' => e = .returned (.bool (!r)) ∧ Below W.heap.size W w') := by
    intro W hb t T ht hT hm hc hl q o a b hx r hr
    have hp := (List.getElem?_eq_some_iff.1 hx).1
    have e := any_at hx
    refine fits12_any x m t T o a b W (h.below hb) ht (fun ho => ?_) r hr
    have := block_there hm hT hc hl hp (by rw [e]; exact ho)
    rw [e] at this
    exact this
  clear hq h hlen hz cr
  obtain ⟨sw, la, cm, inp, ⟨sa, sn, sc⟩, ⟨ba, bn, bc⟩, ⟨ta, tn, tc⟩⟩ := x
  simp only [ImV.v, Sl.v] at CR HQ hmx HT HF ⊢
  have C0 := Lib.hid (cells_new w #[.int .i64 sw, .int .i64 la, .int .i64 cm, .int .i64 inp, .slice sa sn sc, .slice ba bn bc, .slice ta tn tc] 31)
  have B0 := Lib.hid (below_alloc w (.cells #[.int .i64 sw, .int .i64 la, .int .i64 cm, .int .i64 inp, .slice sa sn sc, .slice ba bn bc, .slice ta tn tc] 31))
  cases z
  · have HR : Hid (12 = r) := HQ.out
    clear HQ HI HF HT
    go_enter Tryz.func15, Tryz.ntmps15
    go_wp2_with (go_at_call 31; refine (CR.out _ B0.out).mono ?_; rintro e w1 ⟨rfl, hb1⟩)
    go_ret
    exact ⟨by rw [← HR.out]; rfl, keep_below B0.out hb1⟩
  by_cases hi0 : i < 0
  · have HR : Hid (14 = r) := by have := HQ.out; rw [if_pos rfl, if_neg (by omega)] at this; exact this
    have e1 : decide (i < 0) = true := decide_eq_true hi0
    clear HQ HI hi0 HF HT
    go_enter Tryz.func15, Tryz.ntmps15
    go_wp2_with (go_at_call 31; refine (CR.out _ B0.out).mono ?_; rintro e w1 ⟨rfl, hb1⟩; have c6 := keep_cell hb1 (C0.out 6 _ rfl))
    go_ret
    exact ⟨by rw [← HR.out]; rfl, keep_below B0.out hb1⟩
  have e1 : decide (i < 0) = false := decide_eq_false hi0
  by_cases hin : ¬ i < (tn : Int)
  · have HR : Hid (14 = r) := by have := HQ.out; rw [if_pos rfl, if_neg (by omega)] at this; exact this
    have e2 : decide ((tn : Int) ≤ i) = true := decide_eq_true (by omega)
    clear HQ HI hi0 HF HT hin
    go_enter Tryz.func15, Tryz.ntmps15
    go_wp2_with (go_at_call 31; refine (CR.out _ B0.out).mono ?_; rintro e w1 ⟨rfl, hb1⟩; have c6 := keep_cell hb1 (C0.out 6 _ rfl))
    go_ret
    exact ⟨by rw [← HR.out]; rfl, keep_below B0.out hb1⟩
  have hin : i < (tn : Int) := by omega
  obtain ⟨k, rfl⟩ : ∃ k : Nat, i = (k : Int) := ⟨i.toNat, by omega⟩
  have e2 : decide ((tn : Int) ≤ (k : Int)) = false := decide_eq_false (by omega)
  obtain ⟨b, off, ⟨pr, pe, de, ji, ⟨xa, xn, xc⟩, ⟨oa, on, oc⟩, ⟨ca, cn, cc⟩⟩, T, rfl, hbl, hT, ht, hc⟩ := HT.out k (by omega)
  have hR : wrE m T = r := by
    have := HQ.out
    rw [if_pos rfl, if_pos ⟨by omega, hin⟩] at this
    have e : tkAt m (k : Int) = T := by unfold tkAt; rw [Int.toNat_natCast, List.getD_eq_getElem?_getD, hT]; rfl
    rw [e] at this; exact this
  have hTm : T ∈ m.tasks := List.mem_of_getElem? hT
  have hcl : T.co.length ≤ 200 := by
    have hco := (tkE_parts ((tasksE_parts (imE_parts HZ.out).2.2.2).2.2.1 T hTm)).2.2.2
    unfold codeE at hco
    simp only [Bool.and_eq_true] at hco
    have := inB_iff.1 hco.1; omega
  have hC := ht.2.2.2.2.2.2
  have hX := ht.2.2.2.2.1
  simp only [SlC, SlI] at hC hX
  have hcn : cn ≤ 200 := by rw [hC.1.1]; exact hcl
  obtain ⟨r1, hr1⟩ : ∃ r1, cE true T.co = r1 := ⟨_, rfl⟩
  obtain ⟨y1, hy1⟩ : ∃ y1, cW true T.co = y1 := ⟨_, rfl⟩
  have cw := fun W (hb : Below w.heap.size w W) => worstR_any ca cn cc T.co W (hC.1.below hb) (by omega)
  rw [hr1, hy1] at cw
  have CW := Lib.hid cw
  have HC := Lib.hid hc
  have HCO := Lib.hid hC.1
  have HLN := Lib.hid hC.1.1
  have i1 : (0 : Int) ≤ (k : Int) := by omega
  have i2 : (k : Int) < (tn : Int) := hin
  by_cases h1 : r1 = 0
  · subst h1
    have hlE := (rE_zero (cE_zero hr1).1).1
    have cl := fun W (hb : Below w.heap.size w W) => locksR_any ca cn cc T.co W (hC.1.below hb) (by omega)
    unfold GotL at cl
    rw [hlE, show lA T.co = lks T.co T.co.length by unfold lA; rw [if_pos hlE]] at cl
    have hkl := lks_len T.co T.co.length
    obtain ⟨K, hK⟩ : ∃ K, K = lks T.co T.co.length := ⟨_, rfl⟩
    rw [← hK] at cl hkl
    have CL := Lib.hid cl
    obtain ⟨y, hy⟩ : ∃ y, decide (K = T.bl) = y := ⟨_, rfl⟩
    have CS := Lib.hid (fun W a2 n2 c2 (h2 : Row W a2 n2 K) (hb : Below w.heap.size w W) => sameI_any a2 xa n2 xn c2 xc K T.bl W h2 (hX.1.below hb) (by have := h2.1; omega) hX.2 y hy)
    cases y
    · have HR : Hid (11 = r) := by
        show _ = _
        have hw : wlE T = 11 := by unfold wlE; rw [if_neg (by rw [← hK]; exact of_decide_eq_false hy)]
        rw [← hR]; unfold wrE; rw [if_pos hr1, if_neg (by rw [hw]; decide), hw]
      clear HQ HI HF HT cl cw hc hi0 hin hR hT ht hTm hcl hC hX hr1 hy1 hlE hkl hK hy hbl hcn
      go_enter Tryz.func15, Tryz.ntmps15
      go_wp2_with (first
        | (go_at_call 31; refine (CR.out _ B0.out).mono ?_; rintro e w1 ⟨rfl, hb1⟩; have bb := keep_below B0.out hb1; have c6 := keep_cell hb1 (C0.out 6 _ rfl); have d0 : w1.cell? ⟨b, off + k * 7, none⟩ = some (.int .i64 pr) := keep_cell bb (HC.out 0 _ rfl); have d1 := keep_cell bb (HC.out 1 _ rfl); have d2 := keep_cell bb (HC.out 2 _ rfl); have d3 := keep_cell bb (HC.out 3 _ rfl); have d4 : w1.cell? ⟨b, off + k * 7 + 4, none⟩ = some (.slice xa xn xc) := keep_cell bb (HC.out 4 _ rfl); have d5 : w1.cell? ⟨b, off + k * 7 + 5, none⟩ = some (.slice oa on oc) := keep_cell bb (HC.out 5 _ rfl); have d6 : w1.cell? ⟨b, off + k * 7 + 6, none⟩ = some (.slice ca cn cc) := keep_cell bb (HC.out 6 _ rfl); have HY := By.new #[.int .i64 pr, .int .i64 pe, .int .i64 de, .int .i64 ji, .slice xa xn xc, .slice oa on oc, .slice ca cn cc] 72 bb (fun j v e => keep_cell hb1 (C0.out j v e)))
        | (go_at_call 26; refine (CW.out _ HY.b).mono ?_; rintro e w2 ⟨rfl, hb2⟩; have HY2 := HY.below hb2; have g6 := HY2.d 6 _ rfl)
        | (go_at_call 32; refine (CL.out _ HY2.b).mono ?_; rintro e w3 ⟨a2, n2, c2, rfl, hr2, hb3⟩; have HY3 := HY2.below hb3; have f4 := HY3.d 4 _ rfl)
        | (go_at_call 16; refine (CS.out _ _ _ _ hr2 HY3.b).mono ?_; rintro e w4 ⟨rfl, hb4⟩))
      go_ret
      exact ⟨by rw [← HR.out]; rfl, (HY3.below hb4).b⟩
    · have hlk : lks T.co T.co.length = T.bl := by rw [← hK]; exact of_decide_eq_true hy
      have HR : Hid ((if T.co.any (bynE m T.ou) = true then 12 else 0) = r) := by
        show _ = _
        have hw : wlE T = 0 := by unfold wlE; rw [if_pos hlk]
        rw [← hR]; unfold wrE wpE; rw [if_pos hr1, if_pos hw]
      have CF := Lib.hid (fun W (hb : Below w.heap.size w W) q o a b hx r hr => HF.out W hb ⟨pr, pe, de, ji, ⟨xa, xn, xc⟩, ⟨oa, on, oc⟩, ⟨ca, cn, cc⟩⟩ T (ht.below hb) hTm HZ.out hr1 hlk q o a b hx r hr)
      simp only [TaV.v, Sl.v] at CF
      clear HQ HI HF HT cl cw hc hi0 hin hR hT ht hTm hcl hC hX hr1 hy1 hlE hkl hK hy hbl hlk
      go_enter Tryz.func15, Tryz.ntmps15
      go_wp2_with (first
        | (go_at_call 31; refine (CR.out _ B0.out).mono ?_; rintro e w1 ⟨rfl, hb1⟩; have bb := keep_below B0.out hb1; have c6 := keep_cell hb1 (C0.out 6 _ rfl); have d0 : w1.cell? ⟨b, off + k * 7, none⟩ = some (.int .i64 pr) := keep_cell bb (HC.out 0 _ rfl); have d1 := keep_cell bb (HC.out 1 _ rfl); have d2 := keep_cell bb (HC.out 2 _ rfl); have d3 := keep_cell bb (HC.out 3 _ rfl); have d4 : w1.cell? ⟨b, off + k * 7 + 4, none⟩ = some (.slice xa xn xc) := keep_cell bb (HC.out 4 _ rfl); have d5 : w1.cell? ⟨b, off + k * 7 + 5, none⟩ = some (.slice oa on oc) := keep_cell bb (HC.out 5 _ rfl); have d6 : w1.cell? ⟨b, off + k * 7 + 6, none⟩ = some (.slice ca cn cc) := keep_cell bb (HC.out 6 _ rfl); have HY := By.new #[.int .i64 pr, .int .i64 pe, .int .i64 de, .int .i64 ji, .slice xa xn xc, .slice oa on oc, .slice ca cn cc] 72 bb (fun j v e => keep_cell hb1 (C0.out j v e)))
        | (go_at_call 26; refine (CW.out _ HY.b).mono ?_; rintro e w2 ⟨rfl, hb2⟩; have HY2 := HY.below hb2; have g6 := HY2.d 6 _ rfl)
        | (go_at_call 32; refine (CL.out _ HY2.b).mono ?_; rintro e w3 ⟨a2, n2, c2, rfl, hr2, hb3⟩; have HY3 := HY2.below hb3; have f4 := HY3.d 4 _ rfl)
        | (go_at_call 16; refine (CS.out _ _ _ _ hr2 HY3.b).mono ?_; rintro e w4 ⟨rfl, hb4⟩; have HY4 := Lib.hid (HY3.below hb4)))
      have HY6 := Lib.hid HY4.out
      clear HY HY2 HY3 HY4 g6 f4 c6 d0 d1 d2 d3 d4 d5 d6 hb1 hb2 hb3 hb4 hr2 bb
      go_loopw [10] (fun s wr => ∃ q : Nat, q ≤ cn ∧ s = .int .i64 q ∧ Hid (T.co.any (bynE m T.ou) = (T.co.drop q).any (bynE m T.ou)) ∧ By w [.int .i64 sw, .int .i64 la, .int .i64 cm, .int .i64 inp, .slice sa sn sc, .slice ba bn bc, .slice (some ⟨b, off, none⟩) tn tc] (#[.int .i64 pr, .int .i64 pe, .int .i64 de, .int .i64 ji, .slice xa xn xc, .slice oa on oc, .slice ca cn cc] : Array Value).toList w1.heap.size wr) (fun s _ => cn - (intOf s).toNat)
      case atStart => exact ⟨0, by omega, rfl, rfl, HY6.out⟩
      case round =>
        obtain ⟨q, hq, rfl, HA, hB⟩ := hrel
        have HB := Lib.hid hB
        have y6 := hB.d 6 _ rfl
        by_cases hlt : q < cn
        · have c0 := hB.c 0 _ rfl; have c1 := hB.c 1 _ rfl; have c2 := hB.c 2 _ rfl; have c3 := hB.c 3 _ rfl; have c4 := hB.c 4 _ rfl; have c5 := hB.c 5 _ rfl; have c6 := hB.c 6 _ rfl; have y0 := hB.d 0 _ rfl; have y1 := hB.d 1 _ rfl; have y2 := hB.d 2 _ rfl; have y3 := hB.d 3 _ rfl; have y4 := hB.d 4 _ rfl; have y5 := hB.d 5 _ rfl
          obtain ⟨b1, o1, p1, p2, p3, rfl, hB1, hx, hc1, hc2, hc3⟩ := (HCO.out.below HB.out.b).at_ hlt
          have HX := Lib.hid (any_step (f := bynE m T.ou) hx)
          have j1 : (0 : Int) ≤ (q : Int) := by omega
          have j2 : (q : Int) < (cn : Int) := by omega
          have bd0 := HB.out.below (Below.refl _ _).drew
          cases hv : bynE m T.ou (p1, p2, p3)
          · have HT2 : Hid (T.co.any (bynE m T.ou) = (T.co.drop (q + 1)).any (bynE m T.ou)) := by show _ = _; rw [HA.out, HX.out, hv]; rfl
            have CE := Lib.hid (fun W (hb : Below w.heap.size w W) => CF.out W hb q p1 p2 p3 hx _ hv)
            clear hv HA HX hx hB
            go_wp2
            go_still_tail 7, (by kernel_rfl)
            change wpList _ _ _ _ _ wr.drew
            generalize wr.drew = W2 at bd0 ⊢
            have HD := Lib.hid bd0
            clear bd0
            go_wp2_with (refine (CE.out _ HD.out.b).mono ?_; rintro e w3 ⟨rfl, hb3⟩)
            go_roundw
            case rel => exact ⟨q + 1, by omega, by go_num, HT2, HD.out.below hb3⟩
            case measure => simp [intOf]; omega
          · have HR2 : Hid (12 = r) := by show _ = _; rw [← HR.out, HA.out, HX.out, hv]; rfl
            have CE := Lib.hid (fun W (hb : Below w.heap.size w W) => CF.out W hb q p1 p2 p3 hx _ hv)
            clear hv HA HX hx hB HR
            go_wp2
            go_still_tail 7, (by kernel_rfl)
            change wpList _ _ _ _ _ wr.drew
            generalize wr.drew = W2 at bd0 ⊢
            have HD := Lib.hid bd0
            clear bd0
            go_wp2_with (refine (CE.out _ HD.out.b).mono ?_; rintro e w3 ⟨rfl, hb3⟩)
            go_ret
            exact ⟨by rw [← HR2.out]; rfl, (HD.out.below hb3).b⟩
        · obtain rfl : q = cn := by omega
          have HR2 : Hid (0 = r) := by show _ = _; rw [← HR.out, HA.out, List.drop_of_length_le (by rw [← HLN.out]; exact Nat.le_refl _)]; rfl
          clear hB HR HA
          go_wp2
          go_ret
          exact ⟨by rw [← HR2.out]; rfl, HB.out.b⟩
  · have HR : Hid (r1 = r) := by
      show _ = _
      rw [← hR]; unfold wrE; rw [if_neg (by rw [hr1]; exact h1), hr1]
    have e3 : (r1 != 0) = true := by simpa using h1
    clear HQ HI HF HT cw hc hi0 hin hR hT ht hTm hcl hC hX hr1 hy1 hbl hcn h1
    go_enter Tryz.func15, Tryz.ntmps15
    go_wp2_with (first
      | (go_at_call 31; refine (CR.out _ B0.out).mono ?_; rintro e w1 ⟨rfl, hb1⟩; have bb := keep_below B0.out hb1; have c6 := keep_cell hb1 (C0.out 6 _ rfl); have d0 : w1.cell? ⟨b, off + k * 7, none⟩ = some (.int .i64 pr) := keep_cell bb (HC.out 0 _ rfl); have d1 := keep_cell bb (HC.out 1 _ rfl); have d2 := keep_cell bb (HC.out 2 _ rfl); have d3 := keep_cell bb (HC.out 3 _ rfl); have d4 : w1.cell? ⟨b, off + k * 7 + 4, none⟩ = some (.slice xa xn xc) := keep_cell bb (HC.out 4 _ rfl); have d5 : w1.cell? ⟨b, off + k * 7 + 5, none⟩ = some (.slice oa on oc) := keep_cell bb (HC.out 5 _ rfl); have d6 : w1.cell? ⟨b, off + k * 7 + 6, none⟩ = some (.slice ca cn cc) := keep_cell bb (HC.out 6 _ rfl); have HY := By.new #[.int .i64 pr, .int .i64 pe, .int .i64 de, .int .i64 ji, .slice xa xn xc, .slice oa on oc, .slice ca cn cc] 72 bb (fun j v e => keep_cell hb1 (C0.out j v e)))
      | (go_at_call 26; refine (CW.out _ HY.b).mono ?_; rintro e w2 ⟨rfl, hb2⟩))
    go_ret
    exact ⟨by rw [← HR.out]; rfl, (HY.below hb2).b⟩
end Go.Proofs.YthncbnalnfbpnaaGreatDoor
