/- What is proved here: the walk of the law RtaLeast. Conditions: the row is not too long, and what RtaC says of the program. -/
import Derived.Test.YtiibbeigkopkeaaW1
import Derived.RegionTactic
import Derived.ChangeAlike
import Derived.Deep.QuietTactic
import Derived.BigQuiet
namespace Go.Proofs.Ytiibbeigkopkeaa
open Go.ChangeShapes Go.WideShapes Go.RowKit

theorem nxO_one {x : RtR} {o : List RtR} (hx : okR x = true) (ho : ∀ y ∈ o, okR y = true) {w m : Int} (hw : 0 ≤ w) (h : nxO x o w = some m) : 1 ≤ m := by
  obtain ⟨⟨p1, p2⟩, ⟨p3, p4⟩, _⟩ := okR_parts hx
  obtain ⟨_, _, rfl⟩ := nxO_some.1 h
  have := suV_pos ho x.P hw
  omega
set_option maxHeartbeats 4000000 in
set_option maxRecDepth 100000 in
theorem least_walk (H : RtaC) (a : Option Addr) (n c : Nat) (L : List RtR) (i : Int) (w : World) (hr : RowS w a n L) (hn : n ≤ 140737488355328) :
    Calls Try.prog 4 #[.slice a n c, .int .i64 i] w fun e w' => e = .returned (.bool true) ∧ Below w.heap.size w w' := by
  obtain ⟨lt, hlt⟩ : ∃ r, litE L = r := ⟨_, rfl⟩
  have CL := Lib.hid (light_any a n c L w hr hn lt hlt)
  have H1 := Lib.hid H
  clear H
  cases lt
  · clear hr hlt
    go_enter Try.func4, Try.ntmps4
    go_wp2_with (first
      | (go_at_call 9; refine CL.out.mono ?_; rintro e w1 ⟨rfl, hw1⟩; have hw1 := hw1.symm; subst hw1)
      | (go_at_call 10; refine (known_any H1.out _).mono ?_; rintro e w2 ⟨rfl, hb2⟩))
    go_ret
    exact ⟨rfl, hb2⟩
  obtain ⟨g, hg⟩ : ∃ p, rgR L = p := ⟨_, rfl⟩
  have C4 := Lib.hid (H1.out.right a n c L w hr hn g hg)
  have HL := Lib.hid hr.1
  cases g
  · clear hr hlt hg
    go_enter Try.func4, Try.ntmps4
    go_wp2_with (first
      | (go_at_call 9; refine CL.out.mono ?_; rintro e w1 ⟨rfl, hw1⟩; have hw1 := hw1.symm; subst hw1)
      | (go_at_call 18; refine C4.out.mono ?_; rintro e w3 ⟨rfl, hb3⟩)
      | (go_at_call 10; refine (known_any H1.out _).mono ?_; rintro e w2 ⟨rfl, hb2⟩))
    go_ret
    exact ⟨rfl, keep_below hb3 hb2⟩
  by_cases z1 : i < 0
  · have q1 : decide (i < 0) = true := decide_eq_true z1
    clear hr hlt hg
    go_enter Try.func4, Try.ntmps4
    go_wp2_with (first
      | (go_at_call 9; refine CL.out.mono ?_; rintro e w1 ⟨rfl, hw1⟩; have hw1 := hw1.symm; subst hw1)
      | (go_at_call 18; refine C4.out.mono ?_; rintro e w3 ⟨rfl, hb3⟩)
      | (go_at_call 10; refine (known_any H1.out _).mono ?_; rintro e w2 ⟨rfl, hb2⟩))
    go_ret
    exact ⟨rfl, keep_below hb3 hb2⟩
  by_cases z2 : (n : Int) ≤ i
  · have q1 : decide (i < 0) = false := decide_eq_false z1
    have q2 : decide ((n : Int) ≤ i) = true := decide_eq_true z2
    clear hr hlt hg
    go_enter Try.func4, Try.ntmps4
    go_wp2_with (first
      | (go_at_call 9; refine CL.out.mono ?_; rintro e w1 ⟨rfl, hw1⟩; have hw1 := hw1.symm; subst hw1)
      | (go_at_call 18; refine C4.out.mono ?_; rintro e w3 ⟨rfl, hb3⟩)
      | (go_at_call 10; refine (known_any H1.out _).mono ?_; rintro e w2 ⟨rfl, hb2⟩))
    go_ret
    exact ⟨rfl, keep_below hb3 hb2⟩
  obtain ⟨i0, rfl⟩ := Int.eq_ofNat_of_zero_le (by omega : 0 ≤ i)
  have hi0 : i0 < n := by omega
  have q1 : decide ((i0 : Int) < 0) = false := decide_eq_false (by omega)
  have q2 : decide ((n : Int) ≤ (i0 : Int)) = false := decide_eq_false (by omega)
  have q3 : decide (n ≤ i0) = false := decide_eq_false (by omega)
  have i1 : (0 : Int) ≤ (i0 : Int) := by omega
  have i2 : (i0 : Int) < (n : Int) := by omega
  obtain ⟨b1, o1, x, e1, hB1, hx, f0, f1, f2, f3, f4, f5⟩ := hr.item (Below.refl _ _) hi0
  have hxo := rgR_mem hg (List.mem_of_getElem? hx)
  have hoo : ∀ y ∈ oth L x.P i0, okR y = true := fun y hy => rgR_mem hg (oth_mem hy).1
  have CN := Lib.hid (fun (wv : Int) (hw : rtI wv = true) (p : Int × Int) (hp : (match nxO x (oth L x.P i0) wv with | some m => (m, (0 : Int)) | none => (0, 4)) = p) W (hb : Below w.heap.size w W) => H1.out.next a n c L i0 wv W (hr.below hb) hn p.1 p.2 ((nxR_at hg hx hw).trans hp))
  obtain ⟨⟨rv, re⟩, hp⟩ : ∃ p, rsp (nxO x (oth L x.P i0)) x.D x.J 13 = p := ⟨_, rfl⟩
  have CR := Lib.hid (fun W (hb : Below w.heap.size w W) => H1.out.resp a n c L i0 W (hr.below hb) hn rv re ((rspR_at hg hx).trans hp))
  have hgr := Lib.hid (nxO_grows (r := x) (o := oth L x.P i0) hxo hoo)
  have hone := Lib.hid (fun w m => nxO_one (x := x) (o := oth L x.P i0) hxo hoo (w := w) (m := m))
  obtain ⟨⟨p1, p2⟩, _, _, ⟨p7, p8⟩, ⟨p9, p10⟩, _, _⟩ := okR_parts hxo
  obtain ⟨f, hf⟩ : ∃ f, nxO x (oth L x.P i0) = f := ⟨_, rfl⟩
  rw [hf] at CN hgr hone hp
  have HP := Lib.hid hp
  have HF := Lib.hid (And.intro f3 f4)
  subst e1
  clear hr hlt hg hx z1 z2 f0 f1 f2 f3 f4 f5 hf hxo hoo hp
  by_cases hre : re = 0
  · subst hre
    obtain ⟨m, rfl, s2, s3, s4, s5⟩ := rsp_sound (by decide) hgr.out HP.out
    have hm1 := hone.out m m s5 s2
    have C2 := Lib.hid (CN.out m (rtI_iff.2 (by omega)) (m, 0) (by rw [s2]))
    have HLE : Hid (∀ u, 0 ≤ u → u < m → f u ≠ some u) := fun u h0 hu he => by
      have := rsp_least (by decide) hgr.out HP.out h0 he
      omega
    have S2 := Lib.hid s2
    have g1 : decide (x.D < m + x.J) = false := decide_eq_false (by omega)
    have g2 : decide (m + x.J ≤ x.J) = false := decide_eq_false (by omega)
    have g3 : m + x.J - x.J = m := by omega
    clear s2
    go_enter Try.func4, Try.ntmps4
    go_wp2_with (first
      | (go_at_call 9; refine CL.out.mono ?_; rintro e w1 ⟨rfl, hw1⟩; have hw1 := hw1.symm; subst hw1)
      | (go_at_call 18; refine C4.out.mono ?_; rintro e w3 ⟨rfl, hb3⟩; have B3 := Lib.hid hb3; clear hb3)
      | (go_at_call 14; refine (CR.out _ B3.out).mono ?_; rintro e w4 ⟨rfl, hb4⟩; have B4 := Lib.hid (keep_below B3.out hb4); have x3 := keep_cell B4.out HF.out.1; have x4 := keep_cell B4.out HF.out.2; clear hb4)
      | (go_at_call 12; refine (C2.out _ B4.out).mono ?_; rintro e w5 ⟨rfl, hb5⟩; have B5 := Lib.hid (keep_below B4.out hb5); have y3 := keep_cell B5.out HF.out.1; have y4 := keep_cell B5.out HF.out.2; clear hb5))
    have hM1 : min m 3000 ≤ m := Int.min_le_left _ _
    have hM2 : min m 3000 ≤ 3000 := Int.min_le_right _ _
    have hM0 : 0 ≤ min m 3000 := by omega
    generalize min m 3000 = M at hM0 hM1 hM2 ⊢
    replace HLE : Hid (∀ u, 0 ≤ u → u < M → f u ≠ some u) := fun u h0 hu => HLE.out u h0 (by omega)
    go_loopw [10] (fun j wr => ∃ u : Int, j = .int .i64 u ∧ 0 ≤ u ∧ u ≤ M ∧ Hid (Below w.heap.size w wr)) (fun j _ => (M - intOf j).toNat)
    case atStart => exact ⟨0, rfl, Int.le_refl _, hM0, B5⟩
    case round =>
      obtain ⟨u, rfl, u0, uM, HBL⟩ := hrel
      by_cases hlt : u < M
      · cases hfu : f u with
        | none =>
          have C := Lib.hid (CN.out u (rtI_iff.2 (by omega)) (0, 4) (by rw [hfu]) wr HBL.out)
          clear hfu
          go_wp2_with (go_at_call 12; refine C.out.mono ?_; rintro e w8 ⟨rfl, hb8⟩)
          go_roundw
          case rel => exact ⟨u + 1, by go_num, by omega, by omega, keep_below HBL.out hb8⟩
          case measure => simp [intOf]; omega
        | some z =>
          have C := Lib.hid (CN.out u (rtI_iff.2 (by omega)) (z, 0) (by rw [hfu]) wr HBL.out)
          have hzu : z ≠ u := fun h => HLE.out u u0 hlt (by rw [hfu, h])
          have d8 : (z == u) = false := beq_eq_false_iff_ne.2 hzu
          clear hfu
          go_wp2_with (go_at_call 12; refine C.out.mono ?_; rintro e w8 ⟨rfl, hb8⟩)
          go_roundw
          case rel => exact ⟨u + 1, by go_num, by omega, by omega, keep_below HBL.out hb8⟩
          case measure => simp [intOf]; omega
      · go_wp2_with (go_at_call 10; refine (known_any H1.out _).mono ?_; rintro e w9 ⟨rfl, hb9⟩)
        go_ret
        exact ⟨rfl, keep_below HBL.out hb9⟩
  · have hMM : Hid (∀ u, 0 ≤ u → u < min x.D (min 3000 (x.D - min x.J x.D + 1)) → f u ≠ some u) := by
      intro u h0 hu he
      have h1 := rsp_none hgr.out (by rw [HP.out]; exact hre) h0 he
      have h2 := hone.out u u h0 he
      omega
    have g1 : (re == 0) = false := beq_eq_false_iff_ne.2 hre
    go_enter Try.func4, Try.ntmps4
    go_wp2_with (first
      | (go_at_call 9; refine CL.out.mono ?_; rintro e w1 ⟨rfl, hw1⟩; have hw1 := hw1.symm; subst hw1)
      | (go_at_call 18; refine C4.out.mono ?_; rintro e w3 ⟨rfl, hb3⟩; have B3 := Lib.hid hb3; clear hb3)
      | (go_at_call 14; refine (CR.out _ B3.out).mono ?_; rintro e w4 ⟨rfl, hb4⟩; have B4 := Lib.hid (keep_below B3.out hb4); have x3 := keep_cell B4.out HF.out.1; have x4 := keep_cell B4.out HF.out.2; clear hb4))
    go_region
    go_wp2
    have hM1 : min x.D (min 3000 (x.D - min x.J x.D + 1)) ≤ 3000 := by omega
    have hM0 : 0 ≤ min x.D (min 3000 (x.D - min x.J x.D + 1)) := by omega
    generalize min x.D (min 3000 (x.D - min x.J x.D + 1)) = M at hM0 hM1 hMM ⊢
    have HLE := hMM
    clear hMM
    go_loopw [10] (fun j wr => ∃ u : Int, j = .int .i64 u ∧ 0 ≤ u ∧ u ≤ M ∧ Hid (Below w.heap.size w wr)) (fun j _ => (M - intOf j).toNat)
    case atStart => exact ⟨0, rfl, Int.le_refl _, hM0, B4.out.trans ⟨rfl, rfl, rfl, Nat.le_refl _, fun _ _ => rfl⟩⟩
    case round =>
      obtain ⟨u, rfl, u0, uM, HBL⟩ := hrel
      by_cases hlt : u < M
      · cases hfu : f u with
        | none =>
          have C := Lib.hid (CN.out u (rtI_iff.2 (by omega)) (0, 4) (by rw [hfu]) wr HBL.out)
          clear hfu
          go_wp2_with (go_at_call 12; refine C.out.mono ?_; rintro e w8 ⟨rfl, hb8⟩)
          go_roundw
          case rel => exact ⟨u + 1, by go_num, by omega, by omega, keep_below HBL.out hb8⟩
          case measure => simp [intOf]; omega
        | some z =>
          have C := Lib.hid (CN.out u (rtI_iff.2 (by omega)) (z, 0) (by rw [hfu]) wr HBL.out)
          have hzu : z ≠ u := fun h => HLE.out u u0 hlt (by rw [hfu, h])
          have d8 : (z == u) = false := beq_eq_false_iff_ne.2 hzu
          clear hfu
          go_wp2_with (go_at_call 12; refine C.out.mono ?_; rintro e w8 ⟨rfl, hb8⟩)
          go_roundw
          case rel => exact ⟨u + 1, by go_num, by omega, by omega, keep_below HBL.out hb8⟩
          case measure => simp [intOf]; omega
      · go_wp2_with (go_at_call 10; refine (known_any H1.out _).mono ?_; rintro e w9 ⟨rfl, hb9⟩)
        go_ret
        exact ⟨rfl, keep_below HBL.out hb9⟩
end Go.Proofs.Ytiibbeigkopkeaa
