/- What is proved here: the walk of the law CheckTells. Condition: the table of names holds what its initialiser lays ('Nms'). -/
import Derived.Test.YthncbnalnfbpnaaGreatDoorP5
import Derived.Test.YthncbnalnfbpnaaGreatDoorP7
import Derived.Test.YthncbnalnfbpnaaGreatDoorP8
import Derived.Test.YthncbnalnfbpnaaGreatDoorCg
import Derived.Test.YthncbnalnfbpnaaGreatDoorRg
namespace Go.Proofs.YthncbnalnfbpnaaGreatDoor
open Go.ChangeShapes Go.WideShapes Go.RowKit

theorem lkA_room (m : ImP) (i : Int) : (lkA m i).length ≤ 200 := by
  unfold lkA
  split
  · rename_i h
    rw [List.length_map]
    have hc := (wrE_zero (taskE_zero h).2.2.2).1
    unfold sA
    rw [if_pos hc]
    have h5 := sec_len (tkAt m i).co (tkAt m i).co.length
    have := (wE_len (lE_zero (rE_zero (cE_zero hc).1).1).1).2
    omega
  · simp
set_option maxHeartbeats 8000000 in
set_option maxRecDepth 100000 in
theorem tells_walk (x : ImV) (m : ImP) (pi : Int) (w : World) (h : x.Is w m) (hN : Nms w) :
    Calls Tryz.prog 3 #[x.v, .int .i64 pi] w fun e w' => e = .returned (.bool true) ∧ Below w.heap.size w w' := by
  have KN := Lib.hid (fun W (hb : Below w.heap.size w W) => known_any W (hN.below hb))
  obtain ⟨lg, hlg⟩ : ∃ lg, lightE m = lg := ⟨_, rfl⟩
  have LG := Lib.hid (fun W (hb : Below w.heap.size w W) => light_any x m W (h.below hb) lg hlg)
  have HLG := Lib.hid hlg
  obtain ⟨er, he⟩ : ∃ er, taskE m pi = er := ⟨_, rfl⟩
  obtain ⟨l, hl⟩ : ∃ l, lkA m pi = l := ⟨_, rfl⟩
  obtain ⟨ns, hn⟩ : ∃ ns, slW m pi = ns := ⟨_, rfl⟩
  obtain ⟨⟨r1, r2⟩, hr⟩ : ∃ r, allE m = r := ⟨_, rfl⟩
  have CL := Lib.hid (fun W (hb : Below w.heap.size w W) => locked_any x m pi W (h.below hb) (hN.below hb) er l he hl)
  have CS := Lib.hid (fun W (hb : Below w.heap.size w W) => slots_any x m pi W (h.below hb) (hN.below hb) ns er he hn)
  have CTI := Lib.hid (fun W (hb : Below w.heap.size w W) => task_any x m pi W (h.below hb) (hN.below hb) er he)
  have CA := Lib.hid (fun W (hb : Below w.heap.size w W) => all_any x m W (h.below hb) (hN.below hb) (r1, r2) hr)
  unfold GotLk at CL
  have hl200 := lkA_room m pi
  rw [hl] at hl200
  have HE := Lib.hid he; have HL := Lib.hid hl; have HNS := Lib.hid hn; have HR := Lib.hid hr
  by_cases z : lg = 0
  · have e1 : (lg == 0) = true := by simpa using z
    obtain ⟨sw, la, cm, inp, ⟨sa, sn, sc⟩, ⟨ba, bn, bc⟩, ⟨ta, tn, tc⟩⟩ := x
    simp only [ImV.v, Sl.v] at LG ⊢
    have B0 := Lib.hid (below_alloc w (.cells #[.int .i64 sw, .int .i64 la, .int .i64 cm, .int .i64 inp, .slice sa sn sc, .slice ba bn bc, .slice ta tn tc] 26))
    clear z CL CS CTI CA HE HL HNS HR HLG hlg he hl hn hr h hN hl200
    go_enter Tryz.func3, Tryz.ntmps3
    go_wp2_with (first
      | (go_at_call 5; refine (LG.out _ B0.out).mono ?_; rintro e w1 ⟨rfl, hb1⟩; have b1 := keep_below B0.out hb1)
      | (go_at_call 6; refine (KN.out _ b1).mono ?_; rintro e w2 ⟨rfl, hb2⟩))
    go_ret
    exact ⟨rfl, keep_below b1 hb2⟩
  have hne : lightE m ≠ 0 := by rw [hlg]; exact z
  have HNE := Lib.hid hne
  have PL := Lib.hid (fun W (hb : Below w.heap.size w W) => plain_any x m W (h.below hb) (light_few hne).2.2.1)
  have e1 : (lg == 0) = false := by simpa using z
  clear z hlg hne h hN he hl hn hr
  obtain ⟨sw, la, cm, inp, ⟨sa, sn, sc⟩, ⟨ba, bn, bc⟩, ⟨ta, tn, tc⟩⟩ := x
  simp only [ImV.v, Sl.v] at LG CL CS CTI CA PL ⊢
  have C0 := Lib.hid (cells_new w #[.int .i64 sw, .int .i64 la, .int .i64 cm, .int .i64 inp, .slice sa sn sc, .slice ba bn bc, .slice ta tn tc] 26)
  have B0 := Lib.hid (below_alloc w (.cells #[.int .i64 sw, .int .i64 la, .int .i64 cm, .int .i64 inp, .slice sa sn sc, .slice ba bn bc, .slice ta tn tc] 26))
  go_enter Tryz.func3, Tryz.ntmps3
  go_upto_region 4 with (first
    | (go_at_call 7; refine (PL.out _ b1).mono ?_; rintro e w2 ⟨⟨sw', la', cm', inp', ⟨sa', sn', sc'⟩, ⟨ba', bn', bc'⟩, ⟨ta', tn', tc'⟩⟩, rfl, hy, hb2⟩; have HY := Lib.hid hy; clear hy)
    | (go_at_call 5; refine (LG.out _ B0.out).mono ?_; rintro e w1 ⟨rfl, hb1⟩; have b1 := keep_below B0.out hb1; have c0 := keep_cell hb1 (C0.out 0 _ rfl); have c1 := keep_cell hb1 (C0.out 1 _ rfl); have c2 := keep_cell hb1 (C0.out 2 _ rfl); have c3 := keep_cell hb1 (C0.out 3 _ rfl); have c4 := keep_cell hb1 (C0.out 4 _ rfl); have c5 := keep_cell hb1 (C0.out 5 _ rfl); have c6 := keep_cell hb1 (C0.out 6 _ rfl)))
  have b2 := keep_below b1 hb2
  have HB2 := Lib.hid b2
  have BY := Lib.hid (By.new #[.int .i64 sw', .int .i64 la', .int .i64 cm', .int .i64 inp', .slice sa' sn' sc', .slice ba' bn' bc', .slice ta' tn' tc'] 31 b2 (fun j v e => keep_cell (keep_below hb1 hb2) (C0.out j v e)))
  have BW := Lib.hid (below_alloc w2 (.cells #[.int .i64 sw', .int .i64 la', .int .i64 cm', .int .i64 inp', .slice sa' sn' sc', .slice ba' bn' bc', .slice ta' tn' tc'] 31))
  obtain ⟨B, hB⟩ : ∃ B, B = w2.heap.size := ⟨_, rfl⟩
  have HIY : Hid (∀ W, Below w2.heap.size w2 W → ImV.Is W (⟨sw', la', cm', inp', ⟨sa', sn', sc'⟩, ⟨ba', bn', bc'⟩, ⟨ta', tn', tc'⟩⟩ : ImV) m) := fun W hb => HY.out.below hb
  have RT : Hid (∀ W, Below w2.heap.size w2 W → RightTold (⟨sw', la', cm', inp', ⟨sa', sn', sc'⟩, ⟨ba', bn', bc'⟩, ⟨ta', tn', tc'⟩⟩ : ImV) m W) := fun W hb W' hb' => right12_any _ m W' ((HY.out.below hb).below hb') HNE.out _ rfl
  have CSY := Lib.hid (fun W (hb : Below w2.heap.size w2 W) => slots12_any _ m pi W (HIY.out W hb) (RT.out W hb) ns er HE.out HNS.out)
  have CLY := Lib.hid (fun W (hb : Below w2.heap.size w2 W) => locked12_any _ m pi W (HIY.out W hb) (RT.out W hb) er l HE.out HL.out)
  have CTY0 := Lib.hid (fun W (hb : Below w2.heap.size w2 W) => task12_any _ m pi W (HIY.out W hb) (RT.out W hb) er HE.out)
  have CAY := Lib.hid (fun W (hb : Below w2.heap.size w2 W) => all12_any _ m W (HIY.out W hb) (RT.out W hb) (r1, r2) HR.out)
  unfold GotLk at CLY
  simp only [ImV.v, Sl.v] at CSY CLY CTY0 CAY
  rw [← hB] at BY ⊢
  generalize w2.alloc (.cells #[.int .i64 sw', .int .i64 la', .int .i64 cm', .int .i64 inp', .slice sa' sn' sc', .slice ba' bn' bc', .slice ta' tn' tc'] 31) = W3 at BY BW ⊢
  clear c0 c1 c2 c3 c4 c5 c6 hb1 hb2 b1 b2 hB HY LG PL RT
  have HY3 := BY.out
  have k3 := BW.out
  have c0 := HY3.c 0 _ rfl; have c1 := HY3.c 1 _ rfl; have c2 := HY3.c 2 _ rfl; have c3 := HY3.c 3 _ rfl; have c4 := HY3.c 4 _ rfl; have c5 := HY3.c 5 _ rfl; have c6 := HY3.c 6 _ rfl
  have g0 := HY3.d 0 _ rfl; have g1 := HY3.d 1 _ rfl; have g2 := HY3.d 2 _ rfl; have g3 := HY3.d 3 _ rfl; have g4 := HY3.d 4 _ rfl; have g5 := HY3.d 5 _ rfl; have g6 := HY3.d 6 _ rfl
  go_upto_region 10 with (first
    | (go_at_call 8; refine (CS.out _ HY3.b).mono ?_; rintro e w4 ⟨rfl, hb4⟩; have HY4 := HY3.below hb4; have k4 := keep_below k3 hb4; clear c0 c1 c2 c3 c4 c5 c6 g0 g1 g2 g3 g4 g5 g6; have c0 := HY4.c 0 _ rfl; have c1 := HY4.c 1 _ rfl; have c2 := HY4.c 2 _ rfl; have c3 := HY4.c 3 _ rfl; have c4 := HY4.c 4 _ rfl; have c5 := HY4.c 5 _ rfl; have c6 := HY4.c 6 _ rfl; have g0 := HY4.d 0 _ rfl; have g1 := HY4.d 1 _ rfl; have g2 := HY4.d 2 _ rfl; have g3 := HY4.d 3 _ rfl; have g4 := HY4.d 4 _ rfl; have g5 := HY4.d 5 _ rfl; have g6 := HY4.d 6 _ rfl)
    | (go_at_call 9; refine (CSY.out _ k4).mono ?_; rintro e w5 ⟨rfl, hb5⟩; have HY5 := HY4.below hb5; have k5 := keep_below k4 hb5; clear c0 c1 c2 c3 c4 c5 c6 g0 g1 g2 g3 g4 g5 g6; have c0 := HY5.c 0 _ rfl; have c1 := HY5.c 1 _ rfl; have c2 := HY5.c 2 _ rfl; have c3 := HY5.c 3 _ rfl; have c4 := HY5.c 4 _ rfl; have c5 := HY5.c 5 _ rfl; have c6 := HY5.c 6 _ rfl; have g0 := HY5.d 0 _ rfl; have g1 := HY5.d 1 _ rfl; have g2 := HY5.d 2 _ rfl; have g3 := HY5.d 3 _ rfl; have g4 := HY5.d 4 _ rfl; have g5 := HY5.d 5 _ rfl; have g6 := HY5.d 6 _ rfl)
    | (go_at_call 10; refine (CL.out _ HY5.b).mono ?_; rintro e w6 ⟨aL, nL, cL, rfl, rL, hb6, -⟩; have RL6 := Lib.hid rL; clear rL; have HY6 := HY5.below hb6; have k6 := keep_below k5 hb6; clear c0 c1 c2 c3 c4 c5 c6 g0 g1 g2 g3 g4 g5 g6; have c0 := HY6.c 0 _ rfl; have c1 := HY6.c 1 _ rfl; have c2 := HY6.c 2 _ rfl; have c3 := HY6.c 3 _ rfl; have c4 := HY6.c 4 _ rfl; have c5 := HY6.c 5 _ rfl; have c6 := HY6.c 6 _ rfl; have g0 := HY6.d 0 _ rfl; have g1 := HY6.d 1 _ rfl; have g2 := HY6.d 2 _ rfl; have g3 := HY6.d 3 _ rfl; have g4 := HY6.d 4 _ rfl; have g5 := HY6.d 5 _ rfl; have g6 := HY6.d 6 _ rfl)
    | (go_at_call 11; refine (CLY.out _ k6).mono ?_; rintro e w7 ⟨aM, nM, cM, rfl, rM, hb7, -⟩; have RL7 := Lib.hid (RL6.out.below hb7); have RM7 := Lib.hid rM; clear rM; have HY7 := HY6.below hb7; have k7 := keep_below k6 hb7; clear c0 c1 c2 c3 c4 c5 c6 g0 g1 g2 g3 g4 g5 g6; have c0 := HY7.c 0 _ rfl; have c1 := HY7.c 1 _ rfl; have c2 := HY7.c 2 _ rfl; have c3 := HY7.c 3 _ rfl; have c4 := HY7.c 4 _ rfl; have c5 := HY7.c 5 _ rfl; have c6 := HY7.c 6 _ rfl; have g0 := HY7.d 0 _ rfl; have g1 := HY7.d 1 _ rfl; have g2 := HY7.d 2 _ rfl; have g3 := HY7.d 3 _ rfl; have g4 := HY7.d 4 _ rfl; have g5 := HY7.d 5 _ rfl; have g6 := HY7.d 6 _ rfl)
    | (go_at_call 12; refine (CA.out _ HY7.b).mono ?_; rintro e w8 ⟨rfl, hb8⟩; have HY8 := HY7.below hb8; have k8 := keep_below k7 hb8; clear c0 c1 c2 c3 c4 c5 c6 g0 g1 g2 g3 g4 g5 g6; have c0 := HY8.c 0 _ rfl; have c1 := HY8.c 1 _ rfl; have c2 := HY8.c 2 _ rfl; have c3 := HY8.c 3 _ rfl; have c4 := HY8.c 4 _ rfl; have c5 := HY8.c 5 _ rfl; have c6 := HY8.c 6 _ rfl; have g0 := HY8.d 0 _ rfl; have g1 := HY8.d 1 _ rfl; have g2 := HY8.d 2 _ rfl; have g3 := HY8.d 3 _ rfl; have g4 := HY8.d 4 _ rfl; have g5 := HY8.d 5 _ rfl; have g6 := HY8.d 6 _ rfl)
    | (go_at_call 13; refine (CAY.out _ k8).mono ?_; rintro e w9 ⟨rfl, hb9⟩; have HY9 := Lib.hid (HY8.below hb9); have k9 := Lib.hid (keep_below k8 hb9); have RL9 := Lib.hid ((RL7.out.below hb8).below hb9); have RM9 := Lib.hid ((RM7.out.below hb8).below hb9)))
  clear c0 c1 c2 c3 c4 c5 c6 g0 g1 g2 g3 g4 g5 g6 HY3 HY4 HY5 HY6 HY7 HY8 k3 k4 k5 k6 k7 k8 hb4 hb5 hb6 hb7 hb8 hb9 RL6 RL7 RM7 CS CSY CL CLY CA CAY
  have I0 := Lib.hid (HY9.out.c 0 _ rfl)
  have I1 := Lib.hid (HY9.out.c 1 _ rfl)
  have I2 := Lib.hid (HY9.out.c 2 _ rfl)
  have I3 := Lib.hid (HY9.out.c 3 _ rfl)
  have I4 := Lib.hid (HY9.out.c 4 _ rfl)
  have I5 := Lib.hid (HY9.out.c 5 _ rfl)
  have I6 := Lib.hid (HY9.out.c 6 _ rfl)
  have Y0 := Lib.hid (HY9.out.d 0 _ rfl)
  have Y1 := Lib.hid (HY9.out.d 1 _ rfl)
  have Y2 := Lib.hid (HY9.out.d 2 _ rfl)
  have Y3 := Lib.hid (HY9.out.d 3 _ rfl)
  have Y4 := Lib.hid (HY9.out.d 4 _ rfl)
  have Y5 := Lib.hid (HY9.out.d 5 _ rfl)
  have Y6 := Lib.hid (HY9.out.d 6 _ rfl)
  have CTJ := Lib.hid (fun W (hb : Below w9.heap.size w9 W) => CTI.out W (keep_below HY9.out.b hb))
  have CTY := Lib.hid (fun W (hb : Below w9.heap.size w9 W) => CTY0.out W (keep_below k9.out hb))
  have CKN := Lib.hid (fun W (hb : Below w9.heap.size w9 W) => KN.out W (keep_below HY9.out.b hb))
  have hnL : nL ≤ 140737488355328 := by rw [RL9.out.1]; omega
  have hnM : nM ≤ 140737488355328 := by rw [RM9.out.1]; omega
  have CSM := Lib.hid (fun W (hb : Below w9.heap.size w9 W) => sameI_any aL aM nL nM cL cM l l W (RL9.out.below hb) (RM9.out.below hb) hnL hnM true (by simp))
  have HB9 := Lib.hid HY9.out.b
  clear CTI CTY0 KN RL9 RM9 hnL hnM HY9 k9 BY BW HIY HE HL HNS HR HNE HLG HB2 C0 B0 hl200
  refine region_ok 98 41 (fun i => if i = 40 then 4 else 58 + i) (fun i => ([[], [], [0, 1], [], [], [3, 4], [2, 5], [6], [7], [7], [7, 8, 9], [7, 10], [11], [12], [12], [12, 13, 14], [12, 15], [16], [17], [17], [17, 18, 19], [17, 20], [21], [22], [22], [22, 23, 24], [22, 25], [26], [27], [27], [27, 28, 29], [27, 30], [31], [32], [32], [32, 33, 34], [32, 35], [36], [37], [37, 38], [39]] : List (List Nat)).getD i []) (fun i v => ([(fun v : Value => v = .agg #[.int .i64 sw, .int .i64 la, .int .i64 cm, .int .i64 inp, .slice sa sn sc, .slice ba bn bc, .slice ta tn tc]), (fun v : Value => v = .int .i64 pi), (fun v : Value => v = .int .i64 er), (fun v : Value => v = .agg #[.int .i64 sw', .int .i64 la', .int .i64 cm', .int .i64 inp', .slice sa' sn' sc', .slice ba' bn' bc', .slice ta' tn' tc']), (fun v : Value => v = .int .i64 pi), (fun v : Value => v = .int .i64 er), (fun v : Value => v = .bool true), (fun v : Value => v = .bool true), (fun v : Value => v = .int .i64 ns), (fun v : Value => v = .int .i64 ns), (fun v : Value => v = .bool true), (fun v : Value => v = .bool true), (fun v : Value => v = .bool true), (fun v : Value => v = .int .i64 er), (fun v : Value => v = .int .i64 er), (fun v : Value => v = .bool true), (fun v : Value => v = .bool true), (fun v : Value => v = .bool true), (fun v : Value => v = .slice aL nL cL), (fun v : Value => v = .slice aM nM cM), (fun v : Value => v = .bool true), (fun v : Value => v = .bool true), (fun v : Value => v = .bool true), (fun v : Value => v = .int .i64 er), (fun v : Value => v = .int .i64 er), (fun v : Value => v = .bool true), (fun v : Value => v = .bool true), (fun v : Value => v = .bool true), (fun v : Value => v = .int .i64 r1), (fun v : Value => v = .int .i64 r1), (fun v : Value => v = .bool true), (fun v : Value => v = .bool true), (fun v : Value => v = .bool true), (fun v : Value => v = .int .i64 r2), (fun v : Value => v = .int .i64 r2), (fun v : Value => v = .bool true), (fun v : Value => v = .bool true), (fun v : Value => v = .bool true), (fun v : Value => v = .bool true), (fun v : Value => v = .bool true), (fun v : Value => v = .bool true)] : List (Value → Prop)).getD i (fun _ => True) v) (fun W => Below w9.heap.size w9 W) (by kernel_rfl) rfl (fun i j hi hj h => by (try dsimp only at h); split at h <;> split at h <;> omega) (fun i hi => by (try dsimp only); split <;> omega) rfl ?_ ?_ (Below.refl _ _).drew ?_
  · intro i o ho
    match i, ho with
    | 0, ho => obtain rfl := Option.some.inj ho; exact ⟨rfl, by decide, by decide⟩
    | 1, ho => obtain rfl := Option.some.inj ho; exact ⟨rfl, by decide, by decide⟩
    | 2, ho => obtain rfl := Option.some.inj ho; exact ⟨rfl, by decide, by decide⟩
    | 3, ho => obtain rfl := Option.some.inj ho; exact ⟨rfl, by decide, by decide⟩
    | 4, ho => obtain rfl := Option.some.inj ho; exact ⟨rfl, by decide, by decide⟩
    | 5, ho => obtain rfl := Option.some.inj ho; exact ⟨rfl, by decide, by decide⟩
    | 6, ho => obtain rfl := Option.some.inj ho; exact ⟨rfl, by decide, by decide⟩
    | 7, ho => obtain rfl := Option.some.inj ho; exact ⟨rfl, by decide, by decide⟩
    | 8, ho => obtain rfl := Option.some.inj ho; exact ⟨rfl, by decide, by decide⟩
    | 9, ho => obtain rfl := Option.some.inj ho; exact ⟨rfl, by decide, by decide⟩
    | 10, ho => obtain rfl := Option.some.inj ho; exact ⟨rfl, by decide, by decide⟩
    | 11, ho => obtain rfl := Option.some.inj ho; exact ⟨rfl, by decide, by decide⟩
    | 12, ho => obtain rfl := Option.some.inj ho; exact ⟨rfl, by decide, by decide⟩
    | 13, ho => obtain rfl := Option.some.inj ho; exact ⟨rfl, by decide, by decide⟩
    | 14, ho => obtain rfl := Option.some.inj ho; exact ⟨rfl, by decide, by decide⟩
    | 15, ho => obtain rfl := Option.some.inj ho; exact ⟨rfl, by decide, by decide⟩
    | 16, ho => obtain rfl := Option.some.inj ho; exact ⟨rfl, by decide, by decide⟩
    | 17, ho => obtain rfl := Option.some.inj ho; exact ⟨rfl, by decide, by decide⟩
    | 18, ho => obtain rfl := Option.some.inj ho; exact ⟨rfl, by decide, by decide⟩
    | 19, ho => obtain rfl := Option.some.inj ho; exact ⟨rfl, by decide, by decide⟩
    | 20, ho => obtain rfl := Option.some.inj ho; exact ⟨rfl, by decide, by decide⟩
    | 21, ho => obtain rfl := Option.some.inj ho; exact ⟨rfl, by decide, by decide⟩
    | 22, ho => obtain rfl := Option.some.inj ho; exact ⟨rfl, by decide, by decide⟩
    | 23, ho => obtain rfl := Option.some.inj ho; exact ⟨rfl, by decide, by decide⟩
    | 24, ho => obtain rfl := Option.some.inj ho; exact ⟨rfl, by decide, by decide⟩
    | 25, ho => obtain rfl := Option.some.inj ho; exact ⟨rfl, by decide, by decide⟩
    | 26, ho => obtain rfl := Option.some.inj ho; exact ⟨rfl, by decide, by decide⟩
    | 27, ho => obtain rfl := Option.some.inj ho; exact ⟨rfl, by decide, by decide⟩
    | 28, ho => obtain rfl := Option.some.inj ho; exact ⟨rfl, by decide, by decide⟩
    | 29, ho => obtain rfl := Option.some.inj ho; exact ⟨rfl, by decide, by decide⟩
    | 30, ho => obtain rfl := Option.some.inj ho; exact ⟨rfl, by decide, by decide⟩
    | 31, ho => obtain rfl := Option.some.inj ho; exact ⟨rfl, by decide, by decide⟩
    | 32, ho => obtain rfl := Option.some.inj ho; exact ⟨rfl, by decide, by decide⟩
    | 33, ho => obtain rfl := Option.some.inj ho; exact ⟨rfl, by decide, by decide⟩
    | 34, ho => obtain rfl := Option.some.inj ho; exact ⟨rfl, by decide, by decide⟩
    | 35, ho => obtain rfl := Option.some.inj ho; exact ⟨rfl, by decide, by decide⟩
    | 36, ho => obtain rfl := Option.some.inj ho; exact ⟨rfl, by decide, by decide⟩
    | 37, ho => obtain rfl := Option.some.inj ho; exact ⟨rfl, by decide, by decide⟩
    | 38, ho => obtain rfl := Option.some.inj ho; exact ⟨rfl, by decide, by decide⟩
    | 39, ho => obtain rfl := Option.some.inj ho; exact ⟨rfl, by decide, by decide⟩
    | 40, ho => obtain rfl := Option.some.inj ho; exact ⟨rfl, by decide, by decide⟩
    | n + 41, ho => simp at ho
  · intro i o ho a' W hS hoth hd
    have o1 : a'.eval (.tmp 1) = .int .i64 pi := hoth 1 (fun i hi => by (try dsimp only); split <;> omega)
    have o2 : a'.eval (.tmp 2) = .pointer (some ⟨w.heap.size, 0, none⟩) := hoth 2 (fun i hi => by (try dsimp only); split <;> omega)
    have o5 : a'.eval (.tmp 5) = .pointer (some ⟨B, 0, none⟩) := hoth 5 (fun i hi => by (try dsimp only); split <;> omega)
    have o6 : a'.eval (.tmp 6) = .int .i64 ns := hoth 6 (fun i hi => by (try dsimp only); split <;> omega)
    have o8 : a'.eval (.tmp 8) = .int .i64 ns := hoth 8 (fun i hi => by (try dsimp only); split <;> omega)
    have o7 : a'.eval (.tmp 7) = .int .i64 er := hoth 7 (fun i hi => by (try dsimp only); split <;> omega)
    have o9 : a'.eval (.tmp 9) = .int .i64 er := hoth 9 (fun i hi => by (try dsimp only); split <;> omega)
    have o10 : a'.eval (.tmp 10) = .slice aL nL cL := hoth 10 (fun i hi => by (try dsimp only); split <;> omega)
    have o12 : a'.eval (.tmp 12) = .slice aM nM cM := hoth 12 (fun i hi => by (try dsimp only); split <;> omega)
    have o11 : a'.eval (.tmp 11) = .int .i64 er := hoth 11 (fun i hi => by (try dsimp only); split <;> omega)
    have o13 : a'.eval (.tmp 13) = .int .i64 er := hoth 13 (fun i hi => by (try dsimp only); split <;> omega)
    have o14 : a'.eval (.tmp 14) = .int .i64 r1 := hoth 14 (fun i hi => by (try dsimp only); split <;> omega)
    have o16 : a'.eval (.tmp 16) = .int .i64 r1 := hoth 16 (fun i hi => by (try dsimp only); split <;> omega)
    have o15 : a'.eval (.tmp 15) = .int .i64 r2 := hoth 15 (fun i hi => by (try dsimp only); split <;> omega)
    have o17 : a'.eval (.tmp 17) = .int .i64 r2 := hoth 17 (fun i hi => by (try dsimp only); split <;> omega)
    obtain ⟨ρ, hρ⟩ : ∃ ρ, ρ = a'.eval := ⟨_, rfl⟩
    have hc : ∀ v, ρ (.const v) = v := fun v => by rw [hρ]; rfl
    have hfn : ∀ f, ρ (.func f) = .func (.func f) #[] #[] := fun f => by rw [hρ]; rfl
    simp only [← hρ] at hd ⊢
    rw [← hρ] at o1
    rw [← hρ] at o2
    rw [← hρ] at o5
    rw [← hρ] at o6
    rw [← hρ] at o8
    rw [← hρ] at o7
    rw [← hρ] at o9
    rw [← hρ] at o10
    rw [← hρ] at o12
    rw [← hρ] at o11
    rw [← hρ] at o13
    rw [← hρ] at o14
    rw [← hρ] at o16
    rw [← hρ] at o15
    rw [← hρ] at o17
    clear hρ hoth
    match i, ho with
    | 0, ho =>
      obtain rfl := Option.some.inj ho
      clear hd
      have x0 := keep_cell hS I0.out
      have x1 := keep_cell hS I1.out
      have x2 := keep_cell hS I2.out
      have x3 := keep_cell hS I3.out
      have x4 := keep_cell hS I4.out
      have x5 := keep_cell hS I5.out
      have x6 := keep_cell hS I6.out
      exact Or.inl ⟨rfl, Gives.val (v := .agg #[.int .i64 sw, .int .i64 la, .int .i64 cm, .int .i64 inp, .slice sa sn sc, .slice ba bn bc, .slice ta tn tc]) (w' := W) (by simp only [execOp]; go_simp) ⟨rfl, hS⟩⟩
    | 1, ho =>
      obtain rfl := Option.some.inj ho
      clear hd
      exact Or.inl ⟨rfl, Gives.val (v := .int .i64 pi) (w' := W) (by simp only [execOp]; go_simp) ⟨rfl, hS⟩⟩
    | 2, ho =>
      obtain rfl := Option.some.inj ho
      have e0 : ρ (.tmp 58) = .agg #[.int .i64 sw, .int .i64 la, .int .i64 cm, .int .i64 inp, .slice sa sn sc, .slice ba bn bc, .slice ta tn tc] := hd 0 (by decide)
      have e1 : ρ (.tmp 59) = .int .i64 pi := hd 1 (by decide)
      clear hd
      refine Or.inl ⟨rfl, Gives.enter (f := 14) (args := #[.agg #[.int .i64 sw, .int .i64 la, .int .i64 cm, .int .i64 inp, .slice sa sn sc, .slice ba bn bc, .slice ta tn tc], .int .i64 pi]) (by simp only [execOp]; go_simp) ((CTJ.out W hS).mono ?_)⟩
      rintro e w8 ⟨rfl, b8⟩
      exact ⟨_, rfl, rfl, keep_below hS b8⟩
    | 3, ho =>
      obtain rfl := Option.some.inj ho
      clear hd
      have y0 := keep_cell hS Y0.out
      have y1 := keep_cell hS Y1.out
      have y2 := keep_cell hS Y2.out
      have y3 := keep_cell hS Y3.out
      have y4 := keep_cell hS Y4.out
      have y5 := keep_cell hS Y5.out
      have y6 := keep_cell hS Y6.out
      exact Or.inl ⟨rfl, Gives.val (v := .agg #[.int .i64 sw', .int .i64 la', .int .i64 cm', .int .i64 inp', .slice sa' sn' sc', .slice ba' bn' bc', .slice ta' tn' tc']) (w' := W) (by simp only [execOp]; go_simp) ⟨rfl, hS⟩⟩
    | 4, ho =>
      obtain rfl := Option.some.inj ho
      clear hd
      exact Or.inl ⟨rfl, Gives.val (v := .int .i64 pi) (w' := W) (by simp only [execOp]; go_simp) ⟨rfl, hS⟩⟩
    | 5, ho =>
      obtain rfl := Option.some.inj ho
      have e3 : ρ (.tmp 61) = .agg #[.int .i64 sw', .int .i64 la', .int .i64 cm', .int .i64 inp', .slice sa' sn' sc', .slice ba' bn' bc', .slice ta' tn' tc'] := hd 3 (by decide)
      have e4 : ρ (.tmp 62) = .int .i64 pi := hd 4 (by decide)
      clear hd
      refine Or.inl ⟨rfl, Gives.enter (f := 15) (args := #[.agg #[.int .i64 sw', .int .i64 la', .int .i64 cm', .int .i64 inp', .slice sa' sn' sc', .slice ba' bn' bc', .slice ta' tn' tc'], .int .i64 pi]) (by simp only [execOp]; go_simp) ((CTY.out W hS).mono ?_)⟩
      rintro e w8 ⟨rfl, b8⟩
      exact ⟨_, rfl, rfl, keep_below hS b8⟩
    | 6, ho =>
      obtain rfl := Option.some.inj ho
      have e2 : ρ (.tmp 60) = .int .i64 er := hd 2 (by decide)
      have e5 : ρ (.tmp 63) = .int .i64 er := hd 5 (by decide)
      clear hd
      exact Or.inl ⟨rfl, Gives.val (v := .bool true) (w' := W) (by simp only [execOp]; go_simp) ⟨rfl, hS⟩⟩
    | 7, ho =>
      obtain rfl := Option.some.inj ho
      have e6 : ρ (.tmp 64) = .bool true := hd 6 (by decide)
      clear hd
      exact Or.inl ⟨rfl, Gives.val (v := .bool true) (w' := W) (by simp only [execOp]; go_simp) ⟨rfl, hS⟩⟩
    | 8, ho =>
      obtain rfl := Option.some.inj ho
      have e7 : ρ (.tmp 65) = .bool true := hd 7 (by decide)
      clear hd
      exact Or.inr ⟨7, true, true, rfl, by decide, e7, fun _ => Gives.val (v := .int .i64 ns) (w' := W) (by simp only [execOp]; go_simp) ⟨rfl, hS⟩, fun h => absurd rfl h⟩
    | 9, ho =>
      obtain rfl := Option.some.inj ho
      have e7 : ρ (.tmp 65) = .bool true := hd 7 (by decide)
      clear hd
      exact Or.inr ⟨7, true, true, rfl, by decide, e7, fun _ => Gives.val (v := .int .i64 ns) (w' := W) (by simp only [execOp]; go_simp) ⟨rfl, hS⟩, fun h => absurd rfl h⟩
    | 10, ho =>
      obtain rfl := Option.some.inj ho
      have e7 : ρ (.tmp 65) = .bool true := hd 7 (by decide)
      have e8 : ρ (.tmp 66) = .int .i64 ns := hd 8 (by decide)
      have e9 : ρ (.tmp 67) = .int .i64 ns := hd 9 (by decide)
      clear hd
      exact Or.inr ⟨7, true, true, rfl, by decide, e7, fun _ => Gives.val (v := .bool true) (w' := W) (by simp only [execOp]; go_simp) ⟨rfl, hS⟩, fun h => absurd rfl h⟩
    | 11, ho =>
      obtain rfl := Option.some.inj ho
      have e7 : ρ (.tmp 65) = .bool true := hd 7 (by decide)
      have e10 : ρ (.tmp 68) = .bool true := hd 10 (by decide)
      clear hd
      exact Or.inl ⟨rfl, Gives.val (v := .bool true) (w' := W) (by simp only [execOp]; go_simp) ⟨rfl, hS⟩⟩
    | 12, ho =>
      obtain rfl := Option.some.inj ho
      have e11 : ρ (.tmp 69) = .bool true := hd 11 (by decide)
      clear hd
      exact Or.inl ⟨rfl, Gives.val (v := .bool true) (w' := W) (by simp only [execOp]; go_simp) ⟨rfl, hS⟩⟩
    | 13, ho =>
      obtain rfl := Option.some.inj ho
      have e12 : ρ (.tmp 70) = .bool true := hd 12 (by decide)
      clear hd
      exact Or.inr ⟨12, true, true, rfl, by decide, e12, fun _ => Gives.val (v := .int .i64 er) (w' := W) (by simp only [execOp]; go_simp) ⟨rfl, hS⟩, fun h => absurd rfl h⟩
    | 14, ho =>
      obtain rfl := Option.some.inj ho
      have e12 : ρ (.tmp 70) = .bool true := hd 12 (by decide)
      clear hd
      exact Or.inr ⟨12, true, true, rfl, by decide, e12, fun _ => Gives.val (v := .int .i64 er) (w' := W) (by simp only [execOp]; go_simp) ⟨rfl, hS⟩, fun h => absurd rfl h⟩
    | 15, ho =>
      obtain rfl := Option.some.inj ho
      have e12 : ρ (.tmp 70) = .bool true := hd 12 (by decide)
      have e13 : ρ (.tmp 71) = .int .i64 er := hd 13 (by decide)
      have e14 : ρ (.tmp 72) = .int .i64 er := hd 14 (by decide)
      clear hd
      exact Or.inr ⟨12, true, true, rfl, by decide, e12, fun _ => Gives.val (v := .bool true) (w' := W) (by simp only [execOp]; go_simp) ⟨rfl, hS⟩, fun h => absurd rfl h⟩
    | 16, ho =>
      obtain rfl := Option.some.inj ho
      have e12 : ρ (.tmp 70) = .bool true := hd 12 (by decide)
      have e15 : ρ (.tmp 73) = .bool true := hd 15 (by decide)
      clear hd
      exact Or.inl ⟨rfl, Gives.val (v := .bool true) (w' := W) (by simp only [execOp]; go_simp) ⟨rfl, hS⟩⟩
    | 17, ho =>
      obtain rfl := Option.some.inj ho
      have e16 : ρ (.tmp 74) = .bool true := hd 16 (by decide)
      clear hd
      exact Or.inl ⟨rfl, Gives.val (v := .bool true) (w' := W) (by simp only [execOp]; go_simp) ⟨rfl, hS⟩⟩
    | 18, ho =>
      obtain rfl := Option.some.inj ho
      have e17 : ρ (.tmp 75) = .bool true := hd 17 (by decide)
      clear hd
      exact Or.inr ⟨17, true, true, rfl, by decide, e17, fun _ => Gives.val (v := .slice aL nL cL) (w' := W) (by simp only [execOp]; go_simp) ⟨rfl, hS⟩, fun h => absurd rfl h⟩
    | 19, ho =>
      obtain rfl := Option.some.inj ho
      have e17 : ρ (.tmp 75) = .bool true := hd 17 (by decide)
      clear hd
      exact Or.inr ⟨17, true, true, rfl, by decide, e17, fun _ => Gives.val (v := .slice aM nM cM) (w' := W) (by simp only [execOp]; go_simp) ⟨rfl, hS⟩, fun h => absurd rfl h⟩
    | 20, ho =>
      obtain rfl := Option.some.inj ho
      have e17 : ρ (.tmp 75) = .bool true := hd 17 (by decide)
      have e18 : ρ (.tmp 76) = .slice aL nL cL := hd 18 (by decide)
      have e19 : ρ (.tmp 77) = .slice aM nM cM := hd 19 (by decide)
      clear hd
      refine Or.inr ⟨17, true, true, rfl, by decide, e17, fun _ => Gives.enter (f := 16) (args := #[.slice aL nL cL, .slice aM nM cM]) (by simp only [execOp]; go_simp) ((CSM.out W hS).mono ?_), fun h => absurd rfl h⟩
      rintro e w8 ⟨rfl, b8⟩
      exact ⟨_, rfl, rfl, keep_below hS b8⟩
    | 21, ho =>
      obtain rfl := Option.some.inj ho
      have e17 : ρ (.tmp 75) = .bool true := hd 17 (by decide)
      have e20 : ρ (.tmp 78) = .bool true := hd 20 (by decide)
      clear hd
      exact Or.inl ⟨rfl, Gives.val (v := .bool true) (w' := W) (by simp only [execOp]; go_simp) ⟨rfl, hS⟩⟩
    | 22, ho =>
      obtain rfl := Option.some.inj ho
      have e21 : ρ (.tmp 79) = .bool true := hd 21 (by decide)
      clear hd
      exact Or.inl ⟨rfl, Gives.val (v := .bool true) (w' := W) (by simp only [execOp]; go_simp) ⟨rfl, hS⟩⟩
    | 23, ho =>
      obtain rfl := Option.some.inj ho
      have e22 : ρ (.tmp 80) = .bool true := hd 22 (by decide)
      clear hd
      exact Or.inr ⟨22, true, true, rfl, by decide, e22, fun _ => Gives.val (v := .int .i64 er) (w' := W) (by simp only [execOp]; go_simp) ⟨rfl, hS⟩, fun h => absurd rfl h⟩
    | 24, ho =>
      obtain rfl := Option.some.inj ho
      have e22 : ρ (.tmp 80) = .bool true := hd 22 (by decide)
      clear hd
      exact Or.inr ⟨22, true, true, rfl, by decide, e22, fun _ => Gives.val (v := .int .i64 er) (w' := W) (by simp only [execOp]; go_simp) ⟨rfl, hS⟩, fun h => absurd rfl h⟩
    | 25, ho =>
      obtain rfl := Option.some.inj ho
      have e22 : ρ (.tmp 80) = .bool true := hd 22 (by decide)
      have e23 : ρ (.tmp 81) = .int .i64 er := hd 23 (by decide)
      have e24 : ρ (.tmp 82) = .int .i64 er := hd 24 (by decide)
      clear hd
      exact Or.inr ⟨22, true, true, rfl, by decide, e22, fun _ => Gives.val (v := .bool true) (w' := W) (by simp only [execOp]; go_simp) ⟨rfl, hS⟩, fun h => absurd rfl h⟩
    | 26, ho =>
      obtain rfl := Option.some.inj ho
      have e22 : ρ (.tmp 80) = .bool true := hd 22 (by decide)
      have e25 : ρ (.tmp 83) = .bool true := hd 25 (by decide)
      clear hd
      exact Or.inl ⟨rfl, Gives.val (v := .bool true) (w' := W) (by simp only [execOp]; go_simp) ⟨rfl, hS⟩⟩
    | 27, ho =>
      obtain rfl := Option.some.inj ho
      have e26 : ρ (.tmp 84) = .bool true := hd 26 (by decide)
      clear hd
      exact Or.inl ⟨rfl, Gives.val (v := .bool true) (w' := W) (by simp only [execOp]; go_simp) ⟨rfl, hS⟩⟩
    | 28, ho =>
      obtain rfl := Option.some.inj ho
      have e27 : ρ (.tmp 85) = .bool true := hd 27 (by decide)
      clear hd
      exact Or.inr ⟨27, true, true, rfl, by decide, e27, fun _ => Gives.val (v := .int .i64 r1) (w' := W) (by simp only [execOp]; go_simp) ⟨rfl, hS⟩, fun h => absurd rfl h⟩
    | 29, ho =>
      obtain rfl := Option.some.inj ho
      have e27 : ρ (.tmp 85) = .bool true := hd 27 (by decide)
      clear hd
      exact Or.inr ⟨27, true, true, rfl, by decide, e27, fun _ => Gives.val (v := .int .i64 r1) (w' := W) (by simp only [execOp]; go_simp) ⟨rfl, hS⟩, fun h => absurd rfl h⟩
    | 30, ho =>
      obtain rfl := Option.some.inj ho
      have e27 : ρ (.tmp 85) = .bool true := hd 27 (by decide)
      have e28 : ρ (.tmp 86) = .int .i64 r1 := hd 28 (by decide)
      have e29 : ρ (.tmp 87) = .int .i64 r1 := hd 29 (by decide)
      clear hd
      exact Or.inr ⟨27, true, true, rfl, by decide, e27, fun _ => Gives.val (v := .bool true) (w' := W) (by simp only [execOp]; go_simp) ⟨rfl, hS⟩, fun h => absurd rfl h⟩
    | 31, ho =>
      obtain rfl := Option.some.inj ho
      have e27 : ρ (.tmp 85) = .bool true := hd 27 (by decide)
      have e30 : ρ (.tmp 88) = .bool true := hd 30 (by decide)
      clear hd
      exact Or.inl ⟨rfl, Gives.val (v := .bool true) (w' := W) (by simp only [execOp]; go_simp) ⟨rfl, hS⟩⟩
    | 32, ho =>
      obtain rfl := Option.some.inj ho
      have e31 : ρ (.tmp 89) = .bool true := hd 31 (by decide)
      clear hd
      exact Or.inl ⟨rfl, Gives.val (v := .bool true) (w' := W) (by simp only [execOp]; go_simp) ⟨rfl, hS⟩⟩
    | 33, ho =>
      obtain rfl := Option.some.inj ho
      have e32 : ρ (.tmp 90) = .bool true := hd 32 (by decide)
      clear hd
      exact Or.inr ⟨32, true, true, rfl, by decide, e32, fun _ => Gives.val (v := .int .i64 r2) (w' := W) (by simp only [execOp]; go_simp) ⟨rfl, hS⟩, fun h => absurd rfl h⟩
    | 34, ho =>
      obtain rfl := Option.some.inj ho
      have e32 : ρ (.tmp 90) = .bool true := hd 32 (by decide)
      clear hd
      exact Or.inr ⟨32, true, true, rfl, by decide, e32, fun _ => Gives.val (v := .int .i64 r2) (w' := W) (by simp only [execOp]; go_simp) ⟨rfl, hS⟩, fun h => absurd rfl h⟩
    | 35, ho =>
      obtain rfl := Option.some.inj ho
      have e32 : ρ (.tmp 90) = .bool true := hd 32 (by decide)
      have e33 : ρ (.tmp 91) = .int .i64 r2 := hd 33 (by decide)
      have e34 : ρ (.tmp 92) = .int .i64 r2 := hd 34 (by decide)
      clear hd
      exact Or.inr ⟨32, true, true, rfl, by decide, e32, fun _ => Gives.val (v := .bool true) (w' := W) (by simp only [execOp]; go_simp) ⟨rfl, hS⟩, fun h => absurd rfl h⟩
    | 36, ho =>
      obtain rfl := Option.some.inj ho
      have e32 : ρ (.tmp 90) = .bool true := hd 32 (by decide)
      have e35 : ρ (.tmp 93) = .bool true := hd 35 (by decide)
      clear hd
      exact Or.inl ⟨rfl, Gives.val (v := .bool true) (w' := W) (by simp only [execOp]; go_simp) ⟨rfl, hS⟩⟩
    | 37, ho =>
      obtain rfl := Option.some.inj ho
      have e36 : ρ (.tmp 94) = .bool true := hd 36 (by decide)
      clear hd
      exact Or.inl ⟨rfl, Gives.val (v := .bool true) (w' := W) (by simp only [execOp]; go_simp) ⟨rfl, hS⟩⟩
    | 38, ho =>
      obtain rfl := Option.some.inj ho
      have e37 : ρ (.tmp 95) = .bool true := hd 37 (by decide)
      clear hd
      refine Or.inr ⟨37, true, true, rfl, by decide, e37, fun _ => Gives.enter (f := 6) (args := #[]) (by simp only [execOp]; go_simp) ((CKN.out W hS).mono ?_), fun h => absurd rfl h⟩
      rintro e w8 ⟨rfl, b8⟩
      exact ⟨_, rfl, rfl, keep_below hS b8⟩
    | 39, ho =>
      obtain rfl := Option.some.inj ho
      have e37 : ρ (.tmp 95) = .bool true := hd 37 (by decide)
      have e38 : ρ (.tmp 96) = .bool true := hd 38 (by decide)
      clear hd
      exact Or.inl ⟨rfl, Gives.val (v := .bool true) (w' := W) (by simp only [execOp]; go_simp) ⟨rfl, hS⟩⟩
    | 40, ho =>
      obtain rfl := Option.some.inj ho
      have e39 : ρ (.tmp 97) = .bool true := hd 39 (by decide)
      clear hd
      exact Or.inl ⟨rfl, Gives.val (v := .bool true) (w' := W) (by simp only [execOp]; go_simp) ⟨rfl, hS⟩⟩
    | n + 41, ho => simp at ho
  · intro a' W hsz hdef hoth hok hS
    have e40 : a'.eval (.tmp 4) = .bool true := hok 40 (by decide)
    have e40' : a'.tmps.getD 4 undef = .bool true := e40
    simp only [Exit.then]
    rename_i Q1 K1 hK1
    refine hK1 a' W (wp_ret ?_)
    refine bodyPost_ret (results_tmp rfl _ _ _) hdef ?_
    rw [e40']
    exact ⟨rfl, keep_below HB9.out hS⟩
end Go.Proofs.YthncbnalnfbpnaaGreatDoor
