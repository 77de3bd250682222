/- What is proved here: the walk of the law CheckMore. Condition: the table of names holds what its initialiser lays ('Nms'). -/
import Derived.Test.YthncbnalnfbpnaaDoorWn
namespace Go.Proofs.YthncbnalnfbpnaaDoor
open Go.ChangeShapes Go.WideShapes Go.RowKit

set_option maxHeartbeats 16000000 in
set_option maxRecDepth 100000 in
theorem more_walk (x : ImV) (m : ImP) (i v : Int) (w : World) (h : x.Is w m) (hN : Nms w) :
    Calls Tryd.prog 6 #[x.v, .int .i64 i, .int .i64 v] w fun e w' => e = .returned (.bool true) ∧ Below w.heap.size w w' := by
  have KN := Lib.hid (fun W (hb : Below w.heap.size w W) => known_any W (hN.below hb))
  obtain ⟨lg, hlg⟩ : ∃ lg, lightE m = lg := ⟨_, rfl⟩
  have LG := Lib.hid (fun W (hb : Below w.heap.size w W) => light_any x m W (h.below hb) lg hlg)
  obtain ⟨e0, he⟩ : ∃ e0, taskE m i = e0 := ⟨_, rfl⟩
  have TG := Lib.hid (fun W (hb : Below w.heap.size w W) => task_any x m i W (h.below hb) (hN.below hb) e0 he)
  have HI := Lib.hid h
  have HN := Lib.hid (fun W (hb : Below w.heap.size w W) => hN.below hb)
  clear hlg h hN
  obtain ⟨sw, la, cm, inp, ⟨sa, sn, sc⟩, ⟨ba, bn, bc⟩, ⟨ta, tn, tc⟩⟩ := x
  simp only [ImV.v, Sl.v] at LG TG ⊢
  have C0 := Lib.hid (cells_new w #[.int .i64 sw, .int .i64 la, .int .i64 cm, .int .i64 inp, .slice sa sn sc, .slice ba bn bc, .slice ta tn tc] 26)
  have B0 := Lib.hid (below_alloc w (.cells #[.int .i64 sw, .int .i64 la, .int .i64 cm, .int .i64 inp, .slice sa sn sc, .slice ba bn bc, .slice ta tn tc] 26))
  by_cases z : lg = 0
  · have e1 : (lg == 0) = true := by simpa using z
    clear z TG HI HN he
    go_enter Tryd.func6, Tryd.ntmps6
    go_wp2_with (first
      | (go_at_call 8; refine (LG.out _ B0.out).mono ?_; rintro e w1 ⟨rfl, hb1⟩; have b1 := keep_below B0.out hb1)
      | (go_at_call 10; refine (KN.out _ b1).mono ?_; rintro e w2 ⟨rfl, hb2⟩))
    go_ret
    exact ⟨rfl, keep_below b1 hb2⟩
  have e1 : (lg == 0) = false := by simpa using z
  clear z
  by_cases z0 : e0 ≠ 0
  · have e2 : (e0 == 0) = false := by simpa using z0
    have e3 : (e0 != 0) = true := by simpa using z0
    clear z0 HI HN he
    go_enter Tryd.func6, Tryd.ntmps6
    go_wp2_with (first
      | (go_at_call 8; refine (LG.out _ B0.out).mono ?_; rintro e w1 ⟨rfl, hb1⟩; have b1 := keep_below B0.out hb1; have c0 := keep_cell hb1 (C0.out 0 _ rfl); have c1 := keep_cell hb1 (C0.out 1 _ rfl); have c2 := keep_cell hb1 (C0.out 2 _ rfl); have c3 := keep_cell hb1 (C0.out 3 _ rfl); have c4 := keep_cell hb1 (C0.out 4 _ rfl); have c5 := keep_cell hb1 (C0.out 5 _ rfl); have c6 := keep_cell hb1 (C0.out 6 _ rfl))
      | (go_at_call 11; refine (TG.out _ b1).mono ?_; rintro e w2 ⟨rfl, hb2'⟩; have b2 := keep_below b1 hb2')
      | (go_at_call 10; refine (KN.out _ b2).mono ?_; rintro e w3 ⟨rfl, hb3⟩))
    go_ret
    exact ⟨rfl, keep_below b2 hb3⟩
  obtain rfl : e0 = 0 := by omega
  clear z0
  obtain ⟨h1, h2, h3, h4⟩ := taskE_zero he
  obtain ⟨n1, n2, n3, n4, n5⟩ := numE_parts (imE_parts h1).1
  obtain ⟨q1, q2, q3, q4, ⟨hs, -⟩, ⟨hbk, -⟩, -⟩ := HI.out
  simp only at q1 q2 q3 q4 hs hbk
  rw [← q4] at n4 n5
  have hs16 : sn ≤ 16 := by rw [hs.1]; exact (imE_parts h1).2.1
  have hb8 : bn ≤ 8 := by
    have := (imE_parts h1).2.2.1
    unfold blocksE at this
    simp only [Bool.and_eq_true, decide_eq_true_eq] at this
    rw [hbk.1]; exact this.1
  have s1 : IntKind.i64.wrap (inp + 1) = inp + 1 := IntWalk.i64_in _ (by omega)
  obtain ⟨ip, hip⟩ : ∃ ip, ip = min 16 (inp + 1) := ⟨_, rfl⟩
  have HIP := Lib.hid hip
  have hpi : m.inp ≤ ip ∧ 0 ≤ ip ∧ ip ≤ 16 := by rw [← q4, hip]; omega
  have HM : Hid (∀ (sf : List Int) (bl : List (List Int)), m.safe.length ≤ sf.length ∧ sf.length ≤ 16 → m.blocks.length ≤ bl.length ∧ blocksE bl = true → (∀ k, k < m.blocks.length → bl.getD k [] = m.blocks.getD k []) →
      taskE { m with inp := ip, safe := sf, blocks := bl } i = 0 ∧ slW { m with inp := ip, safe := sf, blocks := bl } i = slW m i) := by
    intro sf bl g1 g2 g3
    have hr := more_right h1 (inp := ip) (sf := sf) (bl := bl) hpi.2 g1 g2
    exact more_task he hpi.1 g3 hr
  have HBE : Hid (blocksE m.blocks = true) := (imE_parts h1).2.2.1
  obtain ⟨nn, hnn⟩ : ∃ nn, slW m i = nn := ⟨_, rfl⟩
  have SI := Lib.hid (fun W (hb : Below w.heap.size w W) => slots_any ⟨sw, la, cm, inp, ⟨sa, sn, sc⟩, ⟨ba, bn, bc⟩, ⟨ta, tn, tc⟩⟩ m i W (HI.out.below hb) (HN.out W hb) nn 0 he hnn)
  have HYthncbnalnfbpnaaDoor := Lib.hid hnn
  have RA := Lib.hid (row_app hs)
  have HSL := Lib.hid hs.1
  have HBL := Lib.hid hbk.1
  obtain ⟨SV, v1, v2, v3, v4⟩ := hbk.raw
  have V1 := Lib.hid v1
  have V2 := Lib.hid v2
  have V3 := Lib.hid v3
  have V4 := Lib.hid v4
  obtain ⟨ii, ii0, ii1, ii2, ii3⟩ := parts_info iint_info
  obtain ⟨ij, ij0, ij1, ij2, ij3⟩ := parts_info irow_info
  have HIS : Hid (∀ (W : World) (s b : Sl) (sf : List Int) (bl : List (List Int)), Below w.heap.size w W → SlI W s sf → RowR W b.a b.n bl → b.n ≤ 140737488355328 → ImV.Is W ⟨sw, la, cm, ip, s, b, ⟨ta, tn, tc⟩⟩ { m with inp := ip, safe := sf, blocks := bl }) := by
    intro W s b sf bl hb g1 g2 g3
    obtain ⟨k1, k2, k3, k4, k5, k6, k7⟩ := HI.out.below hb
    exact ⟨k1, k2, k3, rfl, g1, ⟨g2, g3⟩, k7⟩
  clear q1 q2 q3 q4 hs hbk n1 n2 n3 h2 h3 h4 h1 hip he hnn v1 v2 v3 v4 hpi
  go_enter Tryd.func6, Tryd.ntmps6
  go_upto_region 4 with (first
    | (go_at_call 8; refine (LG.out _ B0.out).mono ?_; rintro e w1 ⟨rfl, hb1⟩; have b1 := keep_below B0.out hb1; have c0 := keep_cell hb1 (C0.out 0 _ rfl); have c1 := keep_cell hb1 (C0.out 1 _ rfl); have c2 := keep_cell hb1 (C0.out 2 _ rfl); have c3 := keep_cell hb1 (C0.out 3 _ rfl); have c4 := keep_cell hb1 (C0.out 4 _ rfl); have c5 := keep_cell hb1 (C0.out 5 _ rfl); have c6 := keep_cell hb1 (C0.out 6 _ rfl))
    | (go_at_call 11; refine (TG.out _ b1).mono ?_; rintro e w2 ⟨rfl, hb2'⟩; have b2 := keep_below b1 hb2'; have hb2 := keep_below hb1 hb2'; have d0 := keep_cell hb2 (C0.out 0 _ rfl); have d1 := keep_cell hb2 (C0.out 1 _ rfl); have d2 := keep_cell hb2 (C0.out 2 _ rfl); have d3 := keep_cell hb2 (C0.out 3 _ rfl); have d4 := keep_cell hb2 (C0.out 4 _ rfl); have d5 := keep_cell hb2 (C0.out 5 _ rfl); have d6 := keep_cell hb2 (C0.out 6 _ rfl)))
  have K3 := copy_blk hb2 #[.int .i64 sw, .int .i64 la, .int .i64 cm, .int .i64 inp, .slice sa sn sc, .slice ba bn bc, .slice ta tn tc] rfl
  have hs3 : (w2.alloc (.cells #[.int .i64 sw, .int .i64 la, .int .i64 cm, .int .i64 inp, .slice sa sn sc, .slice ba bn bc, .slice ta tn tc] 26)).heap.size = w2.heap.size + 1 := Array.size_push _
  clear LG TG c0 c1 c2 c3 c4 c5 c6 d0 d1 d2 d3 d4 d5 d6 hb1 hb2' b1 b2 hb2
  generalize w2.alloc (.cells #[.int .i64 sw, .int .i64 la, .int .i64 cm, .int .i64 inp, .slice sa sn sc, .slice ba bn bc, .slice ta tn tc] 26) = W3 at K3 hs3 ⊢
  obtain ⟨B, hB⟩ : ∃ B, B = w2.heap.size := ⟨_, rfl⟩
  rw [← hB] at K3 hs3 ⊢
  clear hB
  have x3 := keep_cell K3.bel (C0.out 3 _ rfl)
  have o3 := K3.at_ 3 _ rfl
  have z3 := K3.row.frozen 3
  have KK3 := Lib.hid K3
  clear K3
  go_upto_region 5 with (fail)
  have K4 := KK3.out.set 3 (.int .i64 (min 16 (inp + 1)))
  have hs4 : (W3.setCell ⟨B, 3, none⟩ (.int .i64 (min 16 (inp + 1)))).heap.size = B + 1 := by rw [← hs3]; simp [World.setCell]
  clear x3 o3 z3 KK3 hs3
  generalize W3.setCell ⟨B, 3, none⟩ (.int .i64 (min 16 (inp + 1))) = W4 at K4 hs4 ⊢
  rw [← HIP.out] at K4
  have KK4 : Hid (Blk (w.alloc (.cells #[.int .i64 sw, .int .i64 la, .int .i64 cm, .int .i64 inp, .slice sa sn sc, .slice ba bn bc, .slice ta tn tc] 26)) W4 B [.int .i64 sw, .int .i64 la, .int .i64 cm, .int .i64 ip, .slice sa sn sc, .slice ba bn bc, .slice ta tn tc]) := K4
  have x4 := keep_cell (K4.alloc (.cells #[] 3)).bel (C0.out 4 _ rfl)
  have OW := Lib.hid (World.ownsRow_lit (base := W4.heap.size) (e := 3) (size := 1) W4 #[] 0 (Nat.le_refl _) (by unfold maxLen; omega) rfl)
  have BS := Lib.hid hs4
  clear K4 s1 hs4
  go_upto_region 6 with (refine wpList_append_gen _ (by rfl) (.tmp 28) (.tmp 30) 22 rfl W4.heap.size 3 ii (.int .i64 0) 1 8 Tryd.underlying22 ii0 ii1 ii2 ii3 rfl (by omega) (by omega) W4.heap.size 0 0 [] (by simp [Act.eval]) OW.out sa sn sc (m.safe.map (Value.int .i64)) (by simp [Act.eval]) RA.out.1 (RA.out.2.2 _ (keep_below B0.out (KK4.out.alloc _).bel)) RA.out.2.1 (ints_one _) (by omega) (by simp) ?_; rintro g1 cap1 w5 hown hgr; have KO := Lib.hid (app_ints (KK4.out.alloc (.cells #[] 3)) (by rw [BS.out]; omega) (by have h7 := KK4.out.lb; rw [BS.out]; omega) hown hgr); clear hown hgr; have o4 := KO.out.1.at_ 4 _ rfl; have z4 := KO.out.1.row.frozen 4)
  have K6 := KO.out.1.set 4 (.slice (some ⟨g1, 0, none⟩) sn cap1)
  have O6 := KO.out.2.setB 4 (.slice (some ⟨g1, 0, none⟩) sn cap1)
  clear x4 o4 z4 OW KK4 KO
  generalize w5.setCell ⟨B, 4, none⟩ (.slice (some ⟨g1, 0, none⟩) sn cap1) = W6 at K6 O6 ⊢
  have KK6 : Hid (Blk (w.alloc (.cells #[.int .i64 sw, .int .i64 la, .int .i64 cm, .int .i64 inp, .slice sa sn sc, .slice ba bn bc, .slice ta tn tc] 26)) W6 B [.int .i64 sw, .int .i64 la, .int .i64 cm, .int .i64 ip, .slice (some ⟨g1, 0, none⟩) sn cap1, .slice ba bn bc, .slice ta tn tc]) := K6
  have OO6 := Lib.hid O6
  have x4 : W6.cell? ⟨B, 4, none⟩ = some (.slice (some ⟨g1, 0, none⟩) sn cap1) := K6.at_ 4 _ rfl
  obtain ⟨bS, hbS⟩ : ∃ bS, bS = W4.heap.size := ⟨_, rfl⟩
  rw [← hbS] at OO6
  have hbB : bS = B + 1 := by rw [hbS]; exact BS.out
  clear K6 O6 hbS BS
  by_cases hsn : sn < 16
  · have e5 : decide ((sn : Int) < 16) = true := decide_eq_true (by omega)
    have e6 : decide (sn < 16) = true := decide_eq_true hsn
    have hgl := (OO6.out.own.lt g1 rfl)
    have LT := Lib.hid (one_lit W6 v)
    go_upto_region 8 with (refine wpList_append_gen _ (by rfl) (.tmp 38) (.tmp 40) 22 rfl bS 3 ii (.int .i64 0) 1 8 Tryd.underlying22 ii0 ii1 ii2 ii3 rfl (by omega) (by omega) g1 sn cap1 (m.safe.map (Value.int .i64)) (by simp [Act.eval]) (OO6.out.own.alloc _) (some ⟨W6.heap.size, 0, none⟩) 1 1 [.int .i64 v] (by simp [Act.eval]) rfl LT.out (fun e => by cases e) (fun u hu => by simp at hu; subst hu; rfl) (by omega) (by simp; omega) ?_; rintro g2 cap2 w7 hown hgr; have KO := Lib.hid (app_ints2 (KK6.out.alloc (.cells #[.int .i64 v] 3)) hown hgr (by omega) (by have h7 := KK6.out.lb; omega) (by omega)); clear hown hgr; have o4 := KO.out.1.at_ 4 _ rfl; have z4 := KO.out.1.row.frozen 4)
    have K8 := KO.out.1.set 4 (.slice (some ⟨g2, 0, none⟩) (sn + 1) cap2)
    have O8 := KO.out.2.setB 4 (.slice (some ⟨g2, 0, none⟩) (sn + 1) cap2)
    clear x4 o4 z4 KO KK6 OO6 LT hgl e5 e6
    generalize w7.setCell ⟨B, 4, none⟩ (.slice (some ⟨g2, 0, none⟩) (sn + 1) cap2) = W8 at K8 O8 ⊢
    have KK8 : Hid (Blk (w.alloc (.cells #[.int .i64 sw, .int .i64 la, .int .i64 cm, .int .i64 inp, .slice sa sn sc, .slice ba bn bc, .slice ta tn tc] 26)) W8 B [.int .i64 sw, .int .i64 la, .int .i64 cm, .int .i64 ip, .slice (some ⟨g2, 0, none⟩) (sn + 1) cap2, .slice ba bn bc, .slice ta tn tc]) := K8
    have OO8 := Lib.hid O8
    clear K8 O8
    have x5 := keep_cell (KK8.out.alloc (.cells #[] 22)).bel (C0.out 5 _ rfl)
    have OWB := Lib.hid (World.ownsRow_lit (base := W8.heap.size) (e := 22) (size := 1) W8 #[] 0 (Nat.le_refl _) (by unfold maxLen; omega) rfl)
    have hgS := (OO8.out.own.lt g2 rfl).2
    have hBW := KK8.out.row.lt
    go_upto_region 9 with (refine wpList_append_gen _ (by rfl) (.tmp 43) (.tmp 45) 23 rfl W8.heap.size 22 ij (.slice none 0 0) 1 24 Tryd.underlying23 ij0 ij1 ij2 ij3 rfl (by omega) (by omega) W8.heap.size 0 0 [] (by simp [Act.eval]) OWB.out ba bn bc (SV.map Sl.v) (by simp [Act.eval]) (by rw [List.length_map, V1.out]; omega) (V4.out _ (keep_below B0.out (KK8.out.alloc _).bel)) V2.out (sls_one _) (by omega) (by simp) ?_; rintro gB capB w9 hown hgr; have KO := Lib.hid (app_rows (KK8.out.alloc (.cells #[] 22)) (OO8.out.alloc (.cells #[] 22)) hBW hgS (by have h7 := KK8.out.lb; omega) hown hgr); clear hown hgr; have o5 := KO.out.1.at_ 5 _ rfl; have z5 := KO.out.1.row.frozen 5)
    have K9 := KO.out.1.set 5 (.slice (some ⟨gB, 0, none⟩) bn capB)
    have O9 := KO.out.2.1.setB 5 (.slice (some ⟨gB, 0, none⟩) bn capB)
    have R9 := ownsRow_setCell_other KO.out.2.2.1 (a := ⟨B, 5, none⟩) (by show some gB ≠ some B; intro e; have h7 := KO.out.2.2.2; have := Option.some.inj e; omega) (.slice (some ⟨gB, 0, none⟩) bn capB)
    have hgB := KO.out.2.2.2
    clear x5 o5 z5 OWB KO KK8 OO8
    generalize w9.setCell ⟨B, 5, none⟩ (.slice (some ⟨gB, 0, none⟩) bn capB) = W9 at K9 O9 R9 ⊢
    have KK9 : Hid (Blk (w.alloc (.cells #[.int .i64 sw, .int .i64 la, .int .i64 cm, .int .i64 inp, .slice sa sn sc, .slice ba bn bc, .slice ta tn tc] 26)) W9 B [.int .i64 sw, .int .i64 la, .int .i64 cm, .int .i64 ip, .slice (some ⟨g2, 0, none⟩) (sn + 1) cap2, .slice (some ⟨gB, 0, none⟩) bn capB, .slice ta tn tc]) := K9
    have OO9 := Lib.hid O9
    have RR9 := Lib.hid R9
    have x5 : W9.cell? ⟨B, 5, none⟩ = some (.slice (some ⟨gB, 0, none⟩) bn capB) := K9.at_ 5 _ rfl
    obtain ⟨bB, hbB2⟩ : ∃ bB, bB = W8.heap.size := ⟨_, rfl⟩
    rw [← hbB2] at RR9 hgB hgS hBW
    clear K9 O9 R9 hbB2
    by_cases hb : bn < 8
    · have e5 : decide ((bn : Int) < 8) = true := decide_eq_true (by omega)
      have e6 : decide (bn < 8) = true := decide_eq_true hb
      have hgl := (RR9.out.lt gB rfl).2
      have LT := Lib.hid (two_rows W9 v)
      go_upto_region 11 with (refine wpList_append_gen _ (by rfl) (.tmp 53) (.tmp 56) 23 rfl bB 22 ij (.slice none 0 0) 1 24 Tryd.underlying23 ij0 ij1 ij2 ij3 rfl (by omega) (by omega) gB bn capB (SV.map Sl.v) (by simp [Act.eval]) ((RR9.out.alloc _).alloc _) (some ⟨W9.heap.size + 1, 0, none⟩) 1 1 [.slice (some ⟨W9.heap.size, 0, none⟩) 1 1] (by simp [Act.eval]) rfl LT.out.1 (fun e => by cases e) (fun u hu => by simp at hu; subst hu; rfl) (by omega) (by have h7 := (RR9.out.lt gB rfl); simp; omega) ?_; rintro gC capC w11 hown hgr; have KO := Lib.hid (app_rows2 ((KK9.out.alloc (.cells #[.int .i64 v] 3)).alloc (.cells #[.slice (some ⟨W9.heap.size, 0, none⟩) 1 1] 22)) ((OO9.out.alloc (.cells #[.int .i64 v] 3)).alloc (.cells #[.slice (some ⟨W9.heap.size, 0, none⟩) 1 1] 22)) LT.out.2 hown hgr (by omega) (by omega) (by have h7 := KK9.out.lb; omega) (by omega) (by omega)); clear hown hgr; have o5 := KO.out.1.at_ 5 _ rfl; have z5 := KO.out.1.row.frozen 5)
      have K11 := KO.out.1.set 5 (.slice (some ⟨gC, 0, none⟩) (bn + 1) capC)
      have O11 := KO.out.2.1.setB 5 (.slice (some ⟨gC, 0, none⟩) (bn + 1) capC)
      have hgC := KO.out.2.2.2.2
      have R11 := ownsRow_setCell_other KO.out.2.2.1 (a := ⟨B, 5, none⟩) (by show some gC ≠ some B; intro e; have := Option.some.inj e; omega) (.slice (some ⟨gC, 0, none⟩) (bn + 1) capC)
      have Q11 := Row.setOther (g := B) (i := 5) (.slice (some ⟨gC, 0, none⟩) (bn + 1) capC) KO.out.2.2.2.1 (fun p hp => by cases hp; show W9.heap.size ≠ B; have h7 := KK9.out.row.lt; omega)
      clear x5 o5 z5 KO KK9 OO9 RR9 LT
      generalize w11.setCell ⟨B, 5, none⟩ (.slice (some ⟨gC, 0, none⟩) (bn + 1) capC) = W11 at K11 O11 R11 Q11 ⊢
      have KK11 : Hid (Blk (w.alloc (.cells #[.int .i64 sw, .int .i64 la, .int .i64 cm, .int .i64 inp, .slice sa sn sc, .slice ba bn bc, .slice ta tn tc] 26)) W11 B [.int .i64 sw, .int .i64 la, .int .i64 cm, .int .i64 ip, .slice (some ⟨g2, 0, none⟩) (sn + 1) cap2, .slice (some ⟨gC, 0, none⟩) (bn + 1) capC, .slice ta tn tc]) := K11
      have bb11 := keep_below B0.out K11.bel
      have IS := Lib.hid (HIS.out W11 ⟨some ⟨g2, 0, none⟩, sn + 1, cap2⟩ ⟨some ⟨gC, 0, none⟩, bn + 1, capC⟩ (m.safe ++ [v]) (m.blocks ++ [[v]]) bb11 ⟨O11.row, by dsimp only; omega⟩ (rows_more (s' := ⟨some ⟨W9.heap.size, 0, none⟩, 1, 1⟩) R11 V1.out HBL.out (fun i s h => (V3.out i s h).below bb11) ⟨Q11, by dsimp only; omega⟩) (by dsimp only; omega))
      have MM := HM.out (m.safe ++ [v]) (m.blocks ++ [[v]]) (by have h7 := HSL.out; simp; omega) ⟨by simp, blocks_more HBE.out (by rw [← HBL.out]; exact hb)⟩ (fun k hk => by rw [List.getD_eq_getElem?_getD, List.getElem?_append_left hk, List.getD_eq_getElem?_getD])
      have M1 := Lib.hid MM.1
      have M2 := Lib.hid (MM.2.trans HYthncbnalnfbpnaaDoor.out)
      clear MM O11 R11 Q11 K11
      have y0 := keep_cell KK11.out.bel (C0.out 0 _ rfl)
      have y1 := keep_cell KK11.out.bel (C0.out 1 _ rfl)
      have y2 := keep_cell KK11.out.bel (C0.out 2 _ rfl)
      have y3 := keep_cell KK11.out.bel (C0.out 3 _ rfl)
      have y4 := keep_cell KK11.out.bel (C0.out 4 _ rfl)
      have y5 := keep_cell KK11.out.bel (C0.out 5 _ rfl)
      have y6 := keep_cell KK11.out.bel (C0.out 6 _ rfl)
      go_wp2_with (first
        | (go_at_call 16; have zz := mk12; clear zz; refine (slots_any ⟨sw, la, cm, ip, ⟨some ⟨g2, 0, none⟩, sn + 1, cap2⟩, ⟨some ⟨gC, 0, none⟩, bn + 1, capC⟩, ⟨ta, tn, tc⟩⟩ { m with inp := ip, safe := m.safe ++ [v], blocks := m.blocks ++ [[v]] } i _ (IS.out.below hb12) (HN.out _ b12) nn 0 M1.out M2.out).mono ?_; rintro e w13 ⟨rfl, hb13⟩; have b13 := keep_below b12 hb13)
        | (go_at_call 16; refine (SI.out _ bb11).mono ?_; rintro e w12 ⟨rfl, hb12⟩; have b12 := keep_below bb11 hb12; have mk12 := True.intro; have u0 := (KK11.out.below hb12).at_ 0 _ rfl; have u1 := (KK11.out.below hb12).at_ 1 _ rfl; have u2 := (KK11.out.below hb12).at_ 2 _ rfl; have u3 := (KK11.out.below hb12).at_ 3 _ rfl; have u4 := (KK11.out.below hb12).at_ 4 _ rfl; have u5 := (KK11.out.below hb12).at_ 5 _ rfl; have u6 := (KK11.out.below hb12).at_ 6 _ rfl)
        | (go_at_call 10; refine (KN.out _ b13).mono ?_; rintro e w14 ⟨rfl, hb14⟩))
      go_ret
      exact ⟨rfl, keep_below b13 hb14⟩
    · have e5 : decide ((bn : Int) < 8) = false := decide_eq_false (by omega)
      have e6 : decide (bn < 8) = false := decide_eq_false hb
      go_upto_region 11 with (fail)
      have bb9 := keep_below B0.out KK9.out.bel
      have IS := Lib.hid (HIS.out W9 ⟨some ⟨g2, 0, none⟩, sn + 1, cap2⟩ ⟨some ⟨gB, 0, none⟩, bn, capB⟩ (m.safe ++ [v]) m.blocks bb9 ⟨OO9.out.row, by dsimp only; omega⟩ (rows_same RR9.out V1.out HBL.out (fun i s h => (V3.out i s h).below bb9)) (by dsimp only; omega))
      have MM := HM.out (m.safe ++ [v]) m.blocks (by have h7 := HSL.out; simp; omega) ⟨Nat.le_refl _, HBE.out⟩ (fun k hk => rfl)
      have M1 := Lib.hid MM.1
      have M2 := Lib.hid (MM.2.trans HYthncbnalnfbpnaaDoor.out)
      clear MM x5 OO9 RR9
      have y0 := keep_cell KK9.out.bel (C0.out 0 _ rfl)
      have y1 := keep_cell KK9.out.bel (C0.out 1 _ rfl)
      have y2 := keep_cell KK9.out.bel (C0.out 2 _ rfl)
      have y3 := keep_cell KK9.out.bel (C0.out 3 _ rfl)
      have y4 := keep_cell KK9.out.bel (C0.out 4 _ rfl)
      have y5 := keep_cell KK9.out.bel (C0.out 5 _ rfl)
      have y6 := keep_cell KK9.out.bel (C0.out 6 _ rfl)
      go_wp2_with (first
        | (go_at_call 16; have zz := mk12; clear zz; refine (slots_any ⟨sw, la, cm, ip, ⟨some ⟨g2, 0, none⟩, sn + 1, cap2⟩, ⟨some ⟨gB, 0, none⟩, bn, capB⟩, ⟨ta, tn, tc⟩⟩ { m with inp := ip, safe := m.safe ++ [v], blocks := m.blocks } i _ (IS.out.below hb12) (HN.out _ b12) nn 0 M1.out M2.out).mono ?_; rintro e w13 ⟨rfl, hb13⟩; have b13 := keep_below b12 hb13)
        | (go_at_call 16; refine (SI.out _ bb9).mono ?_; rintro e w12 ⟨rfl, hb12⟩; have b12 := keep_below bb9 hb12; have mk12 := True.intro; have u0 := (KK9.out.below hb12).at_ 0 _ rfl; have u1 := (KK9.out.below hb12).at_ 1 _ rfl; have u2 := (KK9.out.below hb12).at_ 2 _ rfl; have u3 := (KK9.out.below hb12).at_ 3 _ rfl; have u4 := (KK9.out.below hb12).at_ 4 _ rfl; have u5 := (KK9.out.below hb12).at_ 5 _ rfl; have u6 := (KK9.out.below hb12).at_ 6 _ rfl)
        | (go_at_call 10; refine (KN.out _ b13).mono ?_; rintro e w14 ⟨rfl, hb14⟩))
      go_ret
      exact ⟨rfl, keep_below b13 hb14⟩
  · have e5 : decide ((sn : Int) < 16) = false := decide_eq_false (by omega)
    have e6 : decide (sn < 16) = false := decide_eq_false hsn
    go_upto_region 8 with (fail)
    clear x4 e5 e6
    have x5 := keep_cell (KK6.out.alloc (.cells #[] 22)).bel (C0.out 5 _ rfl)
    have OWB := Lib.hid (World.ownsRow_lit (base := W6.heap.size) (e := 22) (size := 1) W6 #[] 0 (Nat.le_refl _) (by unfold maxLen; omega) rfl)
    have hgS := (OO6.out.own.lt g1 rfl).2
    have hBW := KK6.out.row.lt
    go_upto_region 9 with (refine wpList_append_gen _ (by rfl) (.tmp 43) (.tmp 45) 23 rfl W6.heap.size 22 ij (.slice none 0 0) 1 24 Tryd.underlying23 ij0 ij1 ij2 ij3 rfl (by omega) (by omega) W6.heap.size 0 0 [] (by simp [Act.eval]) OWB.out ba bn bc (SV.map Sl.v) (by simp [Act.eval]) (by rw [List.length_map, V1.out]; omega) (V4.out _ (keep_below B0.out (KK6.out.alloc _).bel)) V2.out (sls_one _) (by omega) (by simp) ?_; rintro gB capB w9 hown hgr; have KO := Lib.hid (app_rows (KK6.out.alloc (.cells #[] 22)) (OO6.out.alloc (.cells #[] 22)) hBW hgS (by have h7 := KK6.out.lb; omega) hown hgr); clear hown hgr; have o5 := KO.out.1.at_ 5 _ rfl; have z5 := KO.out.1.row.frozen 5)
    have K9 := KO.out.1.set 5 (.slice (some ⟨gB, 0, none⟩) bn capB)
    have O9 := KO.out.2.1.setB 5 (.slice (some ⟨gB, 0, none⟩) bn capB)
    have R9 := ownsRow_setCell_other KO.out.2.2.1 (a := ⟨B, 5, none⟩) (by show some gB ≠ some B; intro e; have h7 := KO.out.2.2.2; have := Option.some.inj e; omega) (.slice (some ⟨gB, 0, none⟩) bn capB)
    have hgB := KO.out.2.2.2
    clear x5 o5 z5 OWB KO KK6 OO6
    generalize w9.setCell ⟨B, 5, none⟩ (.slice (some ⟨gB, 0, none⟩) bn capB) = W9 at K9 O9 R9 ⊢
    have KK9 : Hid (Blk (w.alloc (.cells #[.int .i64 sw, .int .i64 la, .int .i64 cm, .int .i64 inp, .slice sa sn sc, .slice ba bn bc, .slice ta tn tc] 26)) W9 B [.int .i64 sw, .int .i64 la, .int .i64 cm, .int .i64 ip, .slice (some ⟨g1, 0, none⟩) sn cap1, .slice (some ⟨gB, 0, none⟩) bn capB, .slice ta tn tc]) := K9
    have OO9 := Lib.hid O9
    have RR9 := Lib.hid R9
    have x5 : W9.cell? ⟨B, 5, none⟩ = some (.slice (some ⟨gB, 0, none⟩) bn capB) := K9.at_ 5 _ rfl
    obtain ⟨bB, hbB2⟩ : ∃ bB, bB = W6.heap.size := ⟨_, rfl⟩
    rw [← hbB2] at RR9 hgB hgS hBW
    clear K9 O9 R9 hbB2
    by_cases hb : bn < 8
    · have e5 : decide ((bn : Int) < 8) = true := decide_eq_true (by omega)
      have e6 : decide (bn < 8) = true := decide_eq_true hb
      have hgl := (RR9.out.lt gB rfl).2
      have LT := Lib.hid (two_rows W9 v)
      go_upto_region 11 with (refine wpList_append_gen _ (by rfl) (.tmp 53) (.tmp 56) 23 rfl bB 22 ij (.slice none 0 0) 1 24 Tryd.underlying23 ij0 ij1 ij2 ij3 rfl (by omega) (by omega) gB bn capB (SV.map Sl.v) (by simp [Act.eval]) ((RR9.out.alloc _).alloc _) (some ⟨W9.heap.size + 1, 0, none⟩) 1 1 [.slice (some ⟨W9.heap.size, 0, none⟩) 1 1] (by simp [Act.eval]) rfl LT.out.1 (fun e => by cases e) (fun u hu => by simp at hu; subst hu; rfl) (by omega) (by have h7 := (RR9.out.lt gB rfl); simp; omega) ?_; rintro gC capC w11 hown hgr; have KO := Lib.hid (app_rows2 ((KK9.out.alloc (.cells #[.int .i64 v] 3)).alloc (.cells #[.slice (some ⟨W9.heap.size, 0, none⟩) 1 1] 22)) ((OO9.out.alloc (.cells #[.int .i64 v] 3)).alloc (.cells #[.slice (some ⟨W9.heap.size, 0, none⟩) 1 1] 22)) LT.out.2 hown hgr (by omega) (by omega) (by have h7 := KK9.out.lb; omega) (by omega) (by omega)); clear hown hgr; have o5 := KO.out.1.at_ 5 _ rfl; have z5 := KO.out.1.row.frozen 5)
      have K11 := KO.out.1.set 5 (.slice (some ⟨gC, 0, none⟩) (bn + 1) capC)
      have O11 := KO.out.2.1.setB 5 (.slice (some ⟨gC, 0, none⟩) (bn + 1) capC)
      have hgC := KO.out.2.2.2.2
      have R11 := ownsRow_setCell_other KO.out.2.2.1 (a := ⟨B, 5, none⟩) (by show some gC ≠ some B; intro e; have := Option.some.inj e; omega) (.slice (some ⟨gC, 0, none⟩) (bn + 1) capC)
      have Q11 := Row.setOther (g := B) (i := 5) (.slice (some ⟨gC, 0, none⟩) (bn + 1) capC) KO.out.2.2.2.1 (fun p hp => by cases hp; show W9.heap.size ≠ B; have h7 := KK9.out.row.lt; omega)
      clear x5 o5 z5 KO KK9 OO9 RR9 LT
      generalize w11.setCell ⟨B, 5, none⟩ (.slice (some ⟨gC, 0, none⟩) (bn + 1) capC) = W11 at K11 O11 R11 Q11 ⊢
      have KK11 : Hid (Blk (w.alloc (.cells #[.int .i64 sw, .int .i64 la, .int .i64 cm, .int .i64 inp, .slice sa sn sc, .slice ba bn bc, .slice ta tn tc] 26)) W11 B [.int .i64 sw, .int .i64 la, .int .i64 cm, .int .i64 ip, .slice (some ⟨g1, 0, none⟩) sn cap1, .slice (some ⟨gC, 0, none⟩) (bn + 1) capC, .slice ta tn tc]) := K11
      have bb11 := keep_below B0.out K11.bel
      have IS := Lib.hid (HIS.out W11 ⟨some ⟨g1, 0, none⟩, sn, cap1⟩ ⟨some ⟨gC, 0, none⟩, bn + 1, capC⟩ (m.safe) (m.blocks ++ [[v]]) bb11 ⟨O11.row, by dsimp only; omega⟩ (rows_more (s' := ⟨some ⟨W9.heap.size, 0, none⟩, 1, 1⟩) R11 V1.out HBL.out (fun i s h => (V3.out i s h).below bb11) ⟨Q11, by dsimp only; omega⟩) (by dsimp only; omega))
      have MM := HM.out (m.safe) (m.blocks ++ [[v]]) (by have h7 := HSL.out; omega) ⟨by simp, blocks_more HBE.out (by rw [← HBL.out]; exact hb)⟩ (fun k hk => by rw [List.getD_eq_getElem?_getD, List.getElem?_append_left hk, List.getD_eq_getElem?_getD])
      have M1 := Lib.hid MM.1
      have M2 := Lib.hid (MM.2.trans HYthncbnalnfbpnaaDoor.out)
      clear MM O11 R11 Q11 K11
      have y0 := keep_cell KK11.out.bel (C0.out 0 _ rfl)
      have y1 := keep_cell KK11.out.bel (C0.out 1 _ rfl)
      have y2 := keep_cell KK11.out.bel (C0.out 2 _ rfl)
      have y3 := keep_cell KK11.out.bel (C0.out 3 _ rfl)
      have y4 := keep_cell KK11.out.bel (C0.out 4 _ rfl)
      have y5 := keep_cell KK11.out.bel (C0.out 5 _ rfl)
      have y6 := keep_cell KK11.out.bel (C0.out 6 _ rfl)
      go_wp2_with (first
        | (go_at_call 16; have zz := mk12; clear zz; refine (slots_any ⟨sw, la, cm, ip, ⟨some ⟨g1, 0, none⟩, sn, cap1⟩, ⟨some ⟨gC, 0, none⟩, bn + 1, capC⟩, ⟨ta, tn, tc⟩⟩ { m with inp := ip, safe := m.safe, blocks := m.blocks ++ [[v]] } i _ (IS.out.below hb12) (HN.out _ b12) nn 0 M1.out M2.out).mono ?_; rintro e w13 ⟨rfl, hb13⟩; have b13 := keep_below b12 hb13)
        | (go_at_call 16; refine (SI.out _ bb11).mono ?_; rintro e w12 ⟨rfl, hb12⟩; have b12 := keep_below bb11 hb12; have mk12 := True.intro; have u0 := (KK11.out.below hb12).at_ 0 _ rfl; have u1 := (KK11.out.below hb12).at_ 1 _ rfl; have u2 := (KK11.out.below hb12).at_ 2 _ rfl; have u3 := (KK11.out.below hb12).at_ 3 _ rfl; have u4 := (KK11.out.below hb12).at_ 4 _ rfl; have u5 := (KK11.out.below hb12).at_ 5 _ rfl; have u6 := (KK11.out.below hb12).at_ 6 _ rfl)
        | (go_at_call 10; refine (KN.out _ b13).mono ?_; rintro e w14 ⟨rfl, hb14⟩))
      go_ret
      exact ⟨rfl, keep_below b13 hb14⟩
    · have e5 : decide ((bn : Int) < 8) = false := decide_eq_false (by omega)
      have e6 : decide (bn < 8) = false := decide_eq_false hb
      go_upto_region 11 with (fail)
      have bb9 := keep_below B0.out KK9.out.bel
      have IS := Lib.hid (HIS.out W9 ⟨some ⟨g1, 0, none⟩, sn, cap1⟩ ⟨some ⟨gB, 0, none⟩, bn, capB⟩ (m.safe) m.blocks bb9 ⟨OO9.out.row, by dsimp only; omega⟩ (rows_same RR9.out V1.out HBL.out (fun i s h => (V3.out i s h).below bb9)) (by dsimp only; omega))
      have MM := HM.out (m.safe) m.blocks (by have h7 := HSL.out; omega) ⟨Nat.le_refl _, HBE.out⟩ (fun k hk => rfl)
      have M1 := Lib.hid MM.1
      have M2 := Lib.hid (MM.2.trans HYthncbnalnfbpnaaDoor.out)
      clear MM x5 OO9 RR9
      have y0 := keep_cell KK9.out.bel (C0.out 0 _ rfl)
      have y1 := keep_cell KK9.out.bel (C0.out 1 _ rfl)
      have y2 := keep_cell KK9.out.bel (C0.out 2 _ rfl)
      have y3 := keep_cell KK9.out.bel (C0.out 3 _ rfl)
      have y4 := keep_cell KK9.out.bel (C0.out 4 _ rfl)
      have y5 := keep_cell KK9.out.bel (C0.out 5 _ rfl)
      have y6 := keep_cell KK9.out.bel (C0.out 6 _ rfl)
      go_wp2_with (first
        | (go_at_call 16; have zz := mk12; clear zz; refine (slots_any ⟨sw, la, cm, ip, ⟨some ⟨g1, 0, none⟩, sn, cap1⟩, ⟨some ⟨gB, 0, none⟩, bn, capB⟩, ⟨ta, tn, tc⟩⟩ { m with inp := ip, safe := m.safe, blocks := m.blocks } i _ (IS.out.below hb12) (HN.out _ b12) nn 0 M1.out M2.out).mono ?_; rintro e w13 ⟨rfl, hb13⟩; have b13 := keep_below b12 hb13)
        | (go_at_call 16; refine (SI.out _ bb9).mono ?_; rintro e w12 ⟨rfl, hb12⟩; have b12 := keep_below bb9 hb12; have mk12 := True.intro; have u0 := (KK9.out.below hb12).at_ 0 _ rfl; have u1 := (KK9.out.below hb12).at_ 1 _ rfl; have u2 := (KK9.out.below hb12).at_ 2 _ rfl; have u3 := (KK9.out.below hb12).at_ 3 _ rfl; have u4 := (KK9.out.below hb12).at_ 4 _ rfl; have u5 := (KK9.out.below hb12).at_ 5 _ rfl; have u6 := (KK9.out.below hb12).at_ 6 _ rfl)
        | (go_at_call 10; refine (KN.out _ b13).mono ?_; rintro e w14 ⟨rfl, hb14⟩))
      go_ret
      exact ⟨rfl, keep_below b13 hb14⟩
end Go.Proofs.YthncbnalnfbpnaaDoor
