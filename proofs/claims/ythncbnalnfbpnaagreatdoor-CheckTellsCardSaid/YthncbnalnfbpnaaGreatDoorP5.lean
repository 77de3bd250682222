/- What is proved here: the contract of the document's own Right on images. Conditions: the image is not too heavy. -/
import Derived.Test.YthncbnalnfbpnaaGreatDoorP5a
import Derived.Test.YthncbnalnfbpnaaGreatDoorCc
import Derived.StillTailTactics
namespace Go.Proofs.YthncbnalnfbpnaaGreatDoor
open Go.ChangeShapes Go.WideShapes Go.RowKit

theorem outsT_snoc {l : List TkP} {k : Nat} {T : TkP} (h : l[k]? = some T) : outsT (l.take (k + 1)) = outsT (l.take k) ++ T.ou := by
  rw [take_cat h]; simp [outsT]
theorem ownI_row {w : World} {base : Nat} {v : Value} {n : Nat} {L : List Int} (h : w.ownsRow base 3 1 v n (L.map (Value.int .i64))) :
    ∃ a c, v = .slice a n c ∧ Row w a n L := by
  have hl := h.1
  rw [List.length_map] at hl
  rcases h.2 with ⟨h1, h2⟩ | ⟨g, cap, cur, h1, h2, h3, h4⟩
  · subst h2
    exact ⟨none, 0, h1, by omega, fun h => absurd h (by omega)⟩
  · subst h1
    have hlt := h.lt g rfl
    refine ⟨_, cap, rfl, by omega, fun _ => ⟨g, 0, rfl, hlt.2, fun i hi => ?_⟩⟩
    have := h.cellAt i (by omega)
    rw [Nat.zero_add, this, List.getElem?_map, List.getElem?_eq_getElem (by omega), List.getD_eq_getElem?_getD, List.getElem?_eq_getElem (by omega)]; rfl
set_option maxHeartbeats 16000000 in
set_option maxRecDepth 100000 in
theorem right12_any (x : ImV) (m : ImP) (w : World) (h : x.Is w m) (hlt : lightE m ≠ 0) (r : Bool) (hq : imE m = r) :
    Calls Tryz.prog 31 #[x.v] w fun e w' => e = .returned (.bool r) ∧ Below w.heap.size w w' := by
  obtain ⟨f1, f2, f3, f4⟩ := light_few hlt
  have HLT := Lib.hid hlt
  have HONE := Lib.hid (fun W (hb : Below w.heap.size w W) t T ht r hq => oneR_any x m t T W (h.below hb) ht r hq)
  have HT : Hid (∀ k, k < x.tasks.n → ∃ b off t T, x.tasks.a = some ⟨b, off, none⟩ ∧ b < w.heap.size ∧ m.tasks[k]? = some T ∧ TaV.Is w t T ∧ ∀ j v, t.cells[j]? = some v → w.cell? ⟨b, off + k * 7 + j, none⟩ = some v) := fun k hk => h.task hk
  obtain ⟨h1, h2, h3, h4, hs, ⟨hB, hBm⟩, ⟨hT, hTm⟩⟩ := h
  have hq' : ((inB x.sw 0 100 && (inB x.la 1 100 && (inB x.cm 1 100 && inB x.inp 0 16))) && (decide ((x.safe.n : Int) ≤ 16) && ((decide ((x.blocks.n : Int) ≤ 8) && (m.blocks.all fun b => inB b.length 1 8)) && (inB x.tasks.n 1 8 && (m.tasks.all (tkE m.blocks.length m.safe.length) && apE [] (outsT m.tasks)))))) = r := by
    rw [← hq, h1, h2, h3, h4, hs.1.1, hB.1, hT.1]; unfold imE numE blocksE tasksE
    rw [show decide ((m.safe.length : Int) ≤ 16) = decide (m.safe.length ≤ 16) by simp; omega, show decide ((m.blocks.length : Int) ≤ 8) = decide (m.blocks.length ≤ 8) by simp; omega]
  have hsn : x.safe.n ≤ 80 := by rw [hs.1.1]; exact f1
  have hbn : x.blocks.n ≤ 80 := by rw [hB.1]; exact f2
  have htn : x.tasks.n ≤ 80 := by rw [hT.1]; exact f3
  have HBL := Lib.hid hB.1
  have HTL := Lib.hid hT.1
  have HBR := Lib.hid hB
  have HQ := Lib.hid hq'
  clear hq hq' hlt h1 h2 h3 h4 hs hB hBm hT hTm f1 f2 f3 f4
  obtain ⟨sw, la, cm, inp, ⟨sa, sn, sc⟩, ⟨ba, bn, bc⟩, ⟨ta, tn, tc⟩⟩ := x
  simp only [ImV.v, Sl.v] at HONE HT HQ hsn hbn htn HBL HTL HBR ⊢
  have C0 := Lib.hid (cells_new w #[.int .i64 sw, .int .i64 la, .int .i64 cm, .int .i64 inp, .slice sa sn sc, .slice ba bn bc, .slice ta tn tc] 31)
  have B0 := Lib.hid (below_alloc w (.cells #[.int .i64 sw, .int .i64 la, .int .i64 cm, .int .i64 inp, .slice sa sn sc, .slice ba bn bc, .slice ta tn tc] 31))
  have hs0 : (w.alloc (.cells #[.int .i64 sw, .int .i64 la, .int .i64 cm, .int .i64 inp, .slice sa sn sc, .slice ba bn bc, .slice ta tn tc] 31)).heap.size = w.heap.size + 1 := Array.size_push _
  obtain ⟨i0, hi0, hz0, hz1, hz2⟩ := info_parts int_info
  go_enter Tryz.func31, Tryz.ntmps31
  go_wp2
  generalize w.alloc (.cells #[.int .i64 sw, .int .i64 la, .int .i64 cm, .int .i64 inp, .slice sa sn sc, .slice ba bn bc, .slice ta tn tc] 31) = W0 at C0 B0 hs0 ⊢
  have hbw := B0.out.size
  go_loopw [3] (fun i wr => ∃ k : Nat, k ≤ bn ∧ i = .int .i64 k ∧ Hid ((m.blocks.all fun b => inB b.length 1 8) = (m.blocks.drop k).all fun b => inB b.length 1 8) ∧ Below W0.heap.size W0 wr) (fun i _ => bn - (intOf i).toNat)
  case atStart => exact ⟨0, by omega, rfl, rfl, Below.refl _ _⟩
  case round =>
    obtain ⟨k, hk, rfl, HA, hbl⟩ := hrel
    have c5 := keep_cell hbl (C0.out 5 _ rfl)
    by_cases hk2 : k < bn
    · obtain ⟨b1, o1, a', n', c', l, rfl, hB1, hx, hc1, hr', hn'⟩ := (HBR.out.below (keep_below B0.out hbl)).item hk2
      have j1 : (0 : Int) ≤ (k : Int) := by omega
      have j2 : (k : Int) < (bn : Int) := by omega
      have HX := Lib.hid (all_step (f := fun b : List Int => inB b.length 1 8) hx)
      have hnl := hr'.1
      obtain ⟨z, hz⟩ : ∃ z, inB (n' : Int) 1 8 = z := ⟨_, rfl⟩
      have I1 := Lib.hid (fun W => inR_any n' 1 8 W z hz)
      cases z
      · have HR : Hid (r = false) := by
          show _ = _
          rw [← HQ.out, HA.out, HX.out, ← hnl, hz]; simp
        clear hz HX hx hr' hnl
        go_wp2_with (go_at_call 52; refine (I1.out _).mono ?_; rintro e w9 ⟨rfl, rfl⟩)
        go_ret
        exact ⟨by rw [HR.out]; rfl, keep_below B0.out hbl⟩
      · have HA2 : Hid ((m.blocks.all fun b => inB b.length 1 8) = (m.blocks.drop (k + 1)).all fun b => inB b.length 1 8) := by show _ = _; rw [HA.out, HX.out, ← hnl, hz]; rfl
        clear hz HX hx hr' hnl HA
        go_wp2_with (go_at_call 52; refine (I1.out _).mono ?_; rintro e w9 ⟨rfl, rfl⟩)
        go_roundw
        case rel => exact ⟨k + 1, by omega, by go_num, HA2, hbl⟩
        case measure => simp [intOf]; omega
    · obtain rfl : bn = k := by omega
      have HB1 : Hid ((m.blocks.all fun b => inB b.length 1 8) = true) := by show _ = _; rw [HA.out, List.drop_of_length_le (by rw [← HBL.out]; exact Nat.le_refl _)]; rfl
      have HBT := Lib.hid hbl
      clear HA hbl
      go_wp2
      go_loopw [4, 5] (fun s i wr => ∃ q : Nat, q ≤ tn ∧ i = .int .i64 q ∧ Hid (∀ t ∈ m.tasks.take q, tkE m.blocks.length m.safe.length t = true) ∧ wr.ownsRow W0.heap.size 3 1 s (outsT (m.tasks.take q)).length ((outsT (m.tasks.take q)).map (Value.int .i64)) ∧ Below W0.heap.size W0 wr) (fun _ i _ => tn - (intOf i).toNat)
      case atStart => exact ⟨0, by omega, rfl, fun t ht => by simp at ht, World.ownsRow_nil _ _ _ _, HBT.out⟩
      case round =>
        obtain ⟨q, hq, rfl, HA, hown, hbl⟩ := hrel
        have HBX := Lib.hid hbl
        have hxs := hbl.size
        have c0 := keep_cell hbl (C0.out 0 _ rfl); have c1 := keep_cell hbl (C0.out 1 _ rfl); have c2 := keep_cell hbl (C0.out 2 _ rfl); have c3 := keep_cell hbl (C0.out 3 _ rfl); have c4 := keep_cell hbl (C0.out 4 _ rfl); have c5 := keep_cell hbl (C0.out 5 _ rfl); have c6 := keep_cell hbl (C0.out 6 _ rfl)
        by_cases hq2 : q < tn
        · obtain ⟨b, off, ⟨pr, pe, de, ji, ⟨xa, xn, xc⟩, ⟨oa, on, oc⟩, ⟨ca, cn, cc⟩⟩, T, rfl, hB2, hT, ht, hc⟩ := HT.out q hq2
          have hbw2 := keep_below B0.out hbl
          have d0 : wr.cell? ⟨b, off + q * 7, none⟩ = some (.int .i64 pr) := keep_cell hbw2 (hc 0 _ rfl)
          have d1 : wr.cell? ⟨b, off + q * 7 + 1, none⟩ = some (.int .i64 pe) := keep_cell hbw2 (hc 1 _ rfl)
          have d2 : wr.cell? ⟨b, off + q * 7 + 2, none⟩ = some (.int .i64 de) := keep_cell hbw2 (hc 2 _ rfl)
          have d3 : wr.cell? ⟨b, off + q * 7 + 3, none⟩ = some (.int .i64 ji) := keep_cell hbw2 (hc 3 _ rfl)
          have d4 : wr.cell? ⟨b, off + q * 7 + 4, none⟩ = some (.slice xa xn xc) := keep_cell hbw2 (hc 4 _ rfl)
          have d5 : wr.cell? ⟨b, off + q * 7 + 5, none⟩ = some (.slice oa on oc) := keep_cell hbw2 (hc 5 _ rfl)
          have d6 : wr.cell? ⟨b, off + q * 7 + 6, none⟩ = some (.slice ca cn cc) := keep_cell hbw2 (hc 6 _ rfl)
          have j1 : (0 : Int) ≤ (q : Int) := by omega
          have j2 : (q : Int) < (tn : Int) := by omega
          obtain ⟨y, hy⟩ : ∃ y, tkE m.blocks.length m.safe.length T = y := ⟨_, rfl⟩
          have CO := Lib.hid (fun W (hb : Below w.heap.size w W) => HONE.out W hb ⟨pr, pe, de, ji, ⟨xa, xn, xc⟩, ⟨oa, on, oc⟩, ⟨ca, cn, cc⟩⟩ T (ht.below hb) y hy)
          simp only [TaV.v, Sl.v] at CO
          have hou := ht.2.2.2.2.2.1.1
          simp only at hou
          have HOU := Lib.hid hou
          have bd0 : Below W0.heap.size W0 wr.drew := hbl.drew
          have od0 : wr.drew.ownsRow W0.heap.size 3 1 u4 (outsT (m.tasks.take q)).length ((outsT (m.tasks.take q)).map (Value.int .i64)) := own1r_below hown (Below.refl _ _).drew
          cases y
          · have HR : Hid (r = false) := by
              have hf : m.tasks.all (tkE m.blocks.length m.safe.length) = false := by
                rw [List.all_eq_false]; exact ⟨T, List.mem_of_getElem? hT, by rw [hy]; decide⟩
              show _ = _
              rw [← HQ.out, hf]; simp
            clear hy hT ht hc hbw2 hou hown HA hbl od0
            go_wp2
            go_still_tail 6, (by kernel_rfl)
            change wpList _ _ _ _ _ wr.drew
            generalize wr.drew = W2 at bd0 ⊢
            have HD := Lib.hid (keep_below B0.out bd0)
            clear bd0
            go_wp2_with (go_at_call 53; refine (CO.out _ HD.out).mono ?_; rintro e w3 ⟨rfl, hb3⟩)
            go_ret
            exact ⟨by rw [HR.out]; rfl, keep_below HD.out hb3⟩
          · have hA2 : ∀ t ∈ m.tasks.take (q + 1), tkE m.blocks.length m.safe.length t = true := by
              intro t h
              rw [take_cat hT] at h
              rcases List.mem_append.1 h with h | h
              · exact HA.out t h
              · rw [List.mem_singleton.1 h]; exact hy
            have HA2 := Lib.hid hA2
            have hle := light_outs HLT.out (k := q + 1) (fun t h => (tkE_parts (hA2 t h)).2.2.1)
            have HE := Lib.hid (outsT_snoc hT)
            rw [HE.out, List.length_append] at hle
            have hol := Lib.hid hou.1
            have hle2 : (outsT (m.tasks.take q)).length + on ≤ 200 := by rw [hol.out]; exact hle
            have HLE := Lib.hid hle2
            clear hle hle2
            clear hy hT ht hbw2 hou hown HA hA2 hbl
            have HC := Lib.hid hc
            clear hc
            go_wp2
            go_still_tail 6, (by kernel_rfl)
            change wpList _ _ _ _ _ wr.drew
            generalize wr.drew = W2 at bd0 od0 ⊢
            have HD := Lib.hid (keep_below B0.out bd0)
            go_wp2_with (first
              | (go_at_call 53; refine (CO.out _ HD.out).mono ?_; rintro e w3 ⟨rfl, hb3⟩; have b3 := keep_below bd0 hb3; have o3 := own1r_below od0 hb3; have g6 := keep_cell b3 (C0.out 6 _ rfl); have g5 : w3.cell? ⟨b, off + q * 7 + 5, none⟩ = some (.slice oa on oc) := keep_cell (keep_below HD.out hb3) (HC.out 5 _ rfl))
              | (at_builtin; refine wpList_append_rowv _ (by rfl) (.tmp 38) (.tmp 44) 22 rfl W0.heap.size i0 Tryz.underlying22 hi0 hz0 hz1 hz2 u4 (outsT (m.tasks.take q)).length ((outsT (m.tasks.take q)).map (Value.int .i64)) (by simp [Act.eval]) o3 oa on oc T.ou (by simp [Act.eval]) (HOU.out.below (keep_below HD.out hb3)) ?c1 ?c2 ?_))
            case c1 => have := HLE.out; omega
            case c2 => exact b3.size
            intro v' w4 hown4 hgrow
            have hb4 : Below W0.heap.size W0 w4 := b3.grown hgrow b3.size (fun g hg => (o3.lt g hg).1)
            have hown5 : w4.ownsRow W0.heap.size 3 1 v' (outsT (m.tasks.take (q + 1))).length ((outsT (m.tasks.take (q + 1))).map (Value.int .i64)) := by
              rw [HE.out, List.map_append, List.length_append, ← hol.out]; rw [hs0]; exact hown4
            clear hown4 hgrow o3 od0 g5 g6 bd0
            go_wp2
            go_roundw
            case rel => exact ⟨q + 1, by omega, by go_num, HA2, hown5, hb4⟩
            case measure => simp [intOf]; omega
        · obtain rfl : tn = q := by omega
          obtain ⟨WA, rfl⟩ : ∃ WA, WA = wr := ⟨_, rfl⟩
          have hT1 : m.tasks.all (tkE m.blocks.length m.safe.length) = true := List.all_eq_true.2 fun t ht => HA.out t (by rw [List.take_of_length_le (by rw [← HTL.out]; exact Nat.le_refl _)]; exact ht)
          have hol := light_outs HLT.out (k := m.tasks.length) (fun t ht => (tkE_parts (HA.out t (by rw [HTL.out]; exact ht))).2.2.1)
          rw [List.take_length] at hol
          obtain ⟨O, hO⟩ : ∃ O, O = outsT m.tasks := ⟨_, rfl⟩
          rw [List.take_of_length_le (by rw [← HTL.out]; exact Nat.le_refl _), ← hO] at hown
          rw [← hO] at hol
          have HQ3 : Hid (((inB sw 0 100 && (inB la 1 100 && (inB cm 1 100 && inB inp 0 16))) && (decide ((sn : Int) ≤ 16) && (decide ((bn : Int) ≤ 8) && (inB tn 1 8 && apE [] O)))) = r) := by
            show _ = _
            rw [← HQ.out, HB1.out, hT1, hO]; simp only [Bool.and_true, Bool.true_and]
          obtain ⟨oa, oc, rfl, hrow⟩ := ownI_row hown
          obtain ⟨on, hon⟩ : ∃ on, on = O.length := ⟨_, rfl⟩
          rw [← hon] at hrow hol ⊢
          have HRW := Lib.hid hrow
          have HON := Lib.hid hon
          clear hown hrow hon hO hT1 HA c0 c1 c2 c3 c4 c5 c6 hbl
          have c6 := keep_cell HBX.out (C0.out 6 _ rfl)
          go_wp2
          clear c6
          go_loopw [6] (fun i wq => ∃ k : Nat, k ≤ on ∧ i = .int .i64 k ∧ Hid (∀ i, i < k → ∀ j, j < i → O[i]? ≠ O[j]?) ∧ Below WA.heap.size WA wq) (fun i _ => on - (intOf i).toNat)
          case atStart => exact ⟨0, by omega, rfl, fun i hi => absurd hi (by omega), Below.refl _ _⟩
          case round =>
            obtain ⟨k, hk, rfl, HN, hbq⟩ := hrel
            by_cases hk2 : k < on
            · obtain ⟨b1, o1, y1, rfl, hB1, hx1, hc1⟩ := (HRW.out.below hbq).item (k := k) hk2
              have HX1 := Lib.hid hx1
              have HBQ := Lib.hid hbq
              clear hx1 hc1 hbq hB1
              go_wp2
              go_loopw [7] (fun i wp => ∃ j : Nat, j ≤ k ∧ i = .int .i64 j ∧ Hid (∀ l, l < j → O[k]? ≠ O[l]?) ∧ Below WA.heap.size WA wp) (fun i _ => k - (intOf i).toNat)
              case atStart => exact ⟨0, by omega, rfl, fun l hl => absurd hl (by omega), HBQ.out⟩
              case round =>
                obtain ⟨j, hj, rfl, HM, hbp⟩ := hrel
                have HBP := Lib.hid hbp
                by_cases hj2 : j < k
                · obtain ⟨b2, o2, z1, e1, hB2, hy1, hc1⟩ := (HRW.out.below hbp).item (k := k) hk2
                  obtain ⟨b3, o3, z2, e2, hB3, hy2, hc2⟩ := (HRW.out.below hbp).item (k := j) (by omega)
                  obtain ⟨rfl, rfl⟩ : b1 = b2 ∧ o1 = o2 := by cases e1; exact ⟨rfl, rfl⟩
                  obtain ⟨rfl, rfl⟩ : b1 = b3 ∧ o1 = o3 := by cases e2; exact ⟨rfl, rfl⟩
                  have i1 : (0 : Int) ≤ (k : Int) := by omega
                  have i2 : (k : Int) < (on : Int) := by omega
                  have i3 : (0 : Int) ≤ (j : Int) := by omega
                  have i4 : (j : Int) < (on : Int) := by omega
                  by_cases h : z1 = z2
                  · subst h
                    have HR : Hid (r = false) := by
                      show _ = _
                      rw [← HQ3.out, ap_not hy1 hy2 hj2]; simp
                    have e5 : (z1 == z1) = true := beq_self_eq_true _
                    clear hy1 hy2 HM HN e1 e2 hbp
                    go_wp2
                    go_quiet (fail)
                    go_wp2
                    go_ret
                    exact ⟨by rw [HR.out]; rfl, keep_below B0.out (keep_below HBX.out (HBP.out.trans ⟨rfl, rfl, rfl, Nat.le_refl _, fun _ _ => rfl⟩))⟩
                  · have e5 : (z1 == z2) = false := by rw [beq_eq_false_iff_ne]; exact h
                    have HM2 : Hid (∀ l, l < j + 1 → O[k]? ≠ O[l]?) := by
                      intro l hl
                      by_cases e : l = j
                      · subst e; rw [hy1, hy2]; exact fun q => h (Option.some.inj q)
                      · exact HM.out l (by omega)
                    clear hy1 hy2 HM e1 e2 h hbp
                    go_wp2
                    go_quiet (fail)
                    go_wp2
                    go_roundw
                    case rel => exact ⟨j + 1, by omega, by go_num, HM2, HBP.out.trans ⟨rfl, rfl, rfl, Nat.le_refl _, fun _ _ => rfl⟩⟩
                    case measure => simp [intOf]; omega
                · obtain rfl : j = k := by omega
                  have HN2 : Hid (∀ i, i < j + 1 → ∀ l, l < i → O[i]? ≠ O[l]?) := by
                    intro i hi l hl
                    by_cases e : i = j
                    · subst e; exact HM.out l hl
                    · exact HN.out i (by omega) l hl
                  clear hbp
                  go_wp2
                  go_roundw
                  case rel => exact ⟨j + 1, by omega, by go_num, HN2, HBP.out⟩
                  case measure => simp [intOf]; omega
            · obtain rfl : on = k := by omega
              have hap : apE [] O = true := ap_all fun i hi j hj => HN.out i (by rw [HON.out]; exact hi) j hj
              have hbz := keep_below HBX.out hbq
              have BZ := Lib.hid (keep_below B0.out hbz)
              have g0 := keep_cell hbz (C0.out 0 _ rfl)
              have g1 := keep_cell hbz (C0.out 1 _ rfl)
              have g2 := keep_cell hbz (C0.out 2 _ rfl)
              have g3 := keep_cell hbz (C0.out 3 _ rfl)
              have g4 := keep_cell hbz (C0.out 4 _ rfl)
              have g5 := keep_cell hbz (C0.out 5 _ rfl)
              have g6 := keep_cell hbz (C0.out 6 _ rfl)
              obtain ⟨x1, e1⟩ : ∃ x, inB sw 0 100 = x := ⟨_, rfl⟩
              obtain ⟨x2, e2⟩ : ∃ x, inB la 1 100 = x := ⟨_, rfl⟩
              obtain ⟨x3, e3⟩ : ∃ x, inB cm 1 100 = x := ⟨_, rfl⟩
              obtain ⟨x4, e4⟩ : ∃ x, inB inp 0 16 = x := ⟨_, rfl⟩
              obtain ⟨x5, e5⟩ : ∃ x, decide ((sn : Int) ≤ 16) = x := ⟨_, rfl⟩
              obtain ⟨x6, e6⟩ : ∃ x, decide ((bn : Int) ≤ 8) = x := ⟨_, rfl⟩
              obtain ⟨x7, e7⟩ : ∃ x, inB tn 1 8 = x := ⟨_, rfl⟩
              have hF := HQ3.out
              rw [e1, e2, e3, e4, e5, e6, e7, hap] at hF
              have HF := Lib.hid hF
              have I1 := Lib.hid (fun W => inR_any sw 0 100 W x1 e1)
              have I2 := Lib.hid (fun W => inR_any la 1 100 W x2 e2)
              have I3 := Lib.hid (fun W => inR_any cm 1 100 W x3 e3)
              have I4 := Lib.hid (fun W => inR_any inp 0 16 W x4 e4)
              have I7 := Lib.hid (fun W => inR_any tn 1 8 W x7 e7)
              clear e1 e2 e3 e4 e7 hF hap HN HQ3 hbq hbz HONE HT HQ
              cases x1
              · (go_wp2_with (go_at_call 52; (first | (refine (I1.out _).mono ?_; clear I1) | (refine (I2.out _).mono ?_; clear I2) | (refine (I3.out _).mono ?_; clear I3) | (refine (I4.out _).mono ?_; clear I4) | (refine (I7.out _).mono ?_; clear I7)); rintro e w9 ⟨rfl, rfl⟩);
                 go_ret; exact ⟨by rw [← HF.out]; rfl, BZ.out⟩)
              cases x2
              · (go_wp2_with (go_at_call 52; (first | (refine (I1.out _).mono ?_; clear I1) | (refine (I2.out _).mono ?_; clear I2) | (refine (I3.out _).mono ?_; clear I3) | (refine (I4.out _).mono ?_; clear I4) | (refine (I7.out _).mono ?_; clear I7)); rintro e w9 ⟨rfl, rfl⟩);
                 go_ret; exact ⟨by rw [← HF.out]; rfl, BZ.out⟩)
              cases x3
              · (go_wp2_with (go_at_call 52; (first | (refine (I1.out _).mono ?_; clear I1) | (refine (I2.out _).mono ?_; clear I2) | (refine (I3.out _).mono ?_; clear I3) | (refine (I4.out _).mono ?_; clear I4) | (refine (I7.out _).mono ?_; clear I7)); rintro e w9 ⟨rfl, rfl⟩);
                 go_ret; exact ⟨by rw [← HF.out]; rfl, BZ.out⟩)
              cases x4
              · (go_wp2_with (go_at_call 52; (first | (refine (I1.out _).mono ?_; clear I1) | (refine (I2.out _).mono ?_; clear I2) | (refine (I3.out _).mono ?_; clear I3) | (refine (I4.out _).mono ?_; clear I4) | (refine (I7.out _).mono ?_; clear I7)); rintro e w9 ⟨rfl, rfl⟩);
                 go_ret; exact ⟨by rw [← HF.out]; rfl, BZ.out⟩)
              cases x5
              · (go_wp2_with (go_at_call 52; (first | (refine (I1.out _).mono ?_; clear I1) | (refine (I2.out _).mono ?_; clear I2) | (refine (I3.out _).mono ?_; clear I3) | (refine (I4.out _).mono ?_; clear I4) | (refine (I7.out _).mono ?_; clear I7)); rintro e w9 ⟨rfl, rfl⟩);
                 go_ret; exact ⟨by rw [← HF.out]; rfl, BZ.out⟩)
              cases x6
              · (go_wp2_with (go_at_call 52; (first | (refine (I1.out _).mono ?_; clear I1) | (refine (I2.out _).mono ?_; clear I2) | (refine (I3.out _).mono ?_; clear I3) | (refine (I4.out _).mono ?_; clear I4) | (refine (I7.out _).mono ?_; clear I7)); rintro e w9 ⟨rfl, rfl⟩);
                 go_ret; exact ⟨by rw [← HF.out]; rfl, BZ.out⟩)
              cases x7
              · (go_wp2_with (go_at_call 52; (first | (refine (I1.out _).mono ?_; clear I1) | (refine (I2.out _).mono ?_; clear I2) | (refine (I3.out _).mono ?_; clear I3) | (refine (I4.out _).mono ?_; clear I4) | (refine (I7.out _).mono ?_; clear I7)); rintro e w9 ⟨rfl, rfl⟩);
                 go_ret; exact ⟨by rw [← HF.out]; rfl, BZ.out⟩)
              (go_wp2_with (go_at_call 52; (first | (refine (I1.out _).mono ?_; clear I1) | (refine (I2.out _).mono ?_; clear I2) | (refine (I3.out _).mono ?_; clear I3) | (refine (I4.out _).mono ?_; clear I4) | (refine (I7.out _).mono ?_; clear I7)); rintro e w9 ⟨rfl, rfl⟩);
               go_ret; exact ⟨by rw [← HF.out]; rfl, BZ.out⟩)
end Go.Proofs.YthncbnalnfbpnaaGreatDoor
