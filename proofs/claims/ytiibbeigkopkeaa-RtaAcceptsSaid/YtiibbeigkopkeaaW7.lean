/- What is proved here: the walk of the law RtaAccepts. Conditions: the row is not too long, the number is a byte's, and what RtaC says of the program. -/
import Derived.Test.YtiibbeigkopkeaaAc
import Derived.Deep.CutRange
import Derived.Deep.CutBlock
namespace Go.Proofs.Ytiibbeigkopkeaa
open Go.ChangeShapes Go.WideShapes Go.RowKit

set_option maxHeartbeats 4000000 in
set_option maxRecDepth 100000 in
theorem accepts_walk (H : RtaC) (a : Option Addr) (n c : Nat) (L : List RtR) (i mv : Int) (w : World) (hr : RowS w a n L) (hn : n ≤ 140737488355328) (hmv : 0 ≤ mv ∧ mv ≤ 255) :
    Calls Try.prog 7 #[.slice a n c, .int .i64 i, .int .u8 mv] w fun e w' => e = .returned (.bool true) ∧ Below w.heap.size w w' := by
  obtain ⟨lt, hlt⟩ : ∃ r, litE L = r := ⟨_, rfl⟩
  have CL := Lib.hid (light_any a n c L w hr hn lt hlt)
  have H1 := Lib.hid H
  have HR := Lib.hid hr
  clear H
  cases lt
  · clear hr hlt
    go_enter Try.func7, Try.ntmps7
    go_wp2_with (first | (go_at_call 9; refine CL.out.mono ?_; rintro e w1 ⟨rfl, hw1⟩; have hw1 := hw1.symm; subst hw1) | (go_at_call 10; refine (known_any H1.out _).mono ?_; rintro e w2 ⟨rfl, hb2⟩))
    go_ret
    exact ⟨rfl, hb2⟩
  obtain ⟨g, hg⟩ : ∃ p, rgR L = p := ⟨_, rfl⟩
  have C4 := Lib.hid (H1.out.right a n c L w hr hn g hg)
  have HL := Lib.hid hr.1
  cases g
  · clear hr hlt hg
    go_enter Try.func7, Try.ntmps7
    go_wp2_with (first | (go_at_call 9; refine CL.out.mono ?_; rintro e w1 ⟨rfl, hw1⟩; have hw1 := hw1.symm; subst hw1) | (go_at_call 18; refine C4.out.mono ?_; rintro e w3 ⟨rfl, hb3⟩) | (go_at_call 10; refine (known_any H1.out _).mono ?_; rintro e w2 ⟨rfl, hb2⟩))
    go_ret
    exact ⟨rfl, keep_below hb3 hb2⟩
  by_cases z1 : i < 0
  · have q1 : decide (i < 0) = true := decide_eq_true z1
    clear hr hlt hg
    go_enter Try.func7, Try.ntmps7
    go_wp2_with (first | (go_at_call 9; refine CL.out.mono ?_; rintro e w1 ⟨rfl, hw1⟩; have hw1 := hw1.symm; subst hw1) | (go_at_call 18; refine C4.out.mono ?_; rintro e w3 ⟨rfl, hb3⟩) | (go_at_call 10; refine (known_any H1.out _).mono ?_; rintro e w2 ⟨rfl, hb2⟩))
    go_ret
    exact ⟨rfl, keep_below hb3 hb2⟩
  by_cases z2 : (n : Int) ≤ i
  · have q1 : decide (i < 0) = false := decide_eq_false z1
    have q2 : decide ((n : Int) ≤ i) = true := decide_eq_true z2
    clear hr hlt hg
    go_enter Try.func7, Try.ntmps7
    go_wp2_with (first | (go_at_call 9; refine CL.out.mono ?_; rintro e w1 ⟨rfl, hw1⟩; have hw1 := hw1.symm; subst hw1) | (go_at_call 18; refine C4.out.mono ?_; rintro e w3 ⟨rfl, hb3⟩) | (go_at_call 10; refine (known_any H1.out _).mono ?_; rintro e w2 ⟨rfl, hb2⟩))
    go_ret
    exact ⟨rfl, keep_below hb3 hb2⟩
  obtain ⟨i0, rfl⟩ := Int.eq_ofNat_of_zero_le (by omega : 0 ≤ i)
  have hi0 : i0 < n := by omega
  have hn8 : n ≤ 8 := by have h1 := hr.1; unfold rgR at hg; simp only [Bool.and_eq_true, decide_eq_true_eq] at hg; omega
  have q1 : decide ((i0 : Int) < 0) = false := decide_eq_false (by omega)
  have q2 : decide ((n : Int) ≤ (i0 : Int)) = false := decide_eq_false (by omega)
  have q3 : decide (n ≤ i0) = false := decide_eq_false (by omega)
  have i1 : (0 : Int) ≤ (i0 : Int) := by omega
  have i2 : (i0 : Int) < (n : Int) := by omega
  obtain ⟨b1, o1, x, rfl, hB1, hx, -, -, -, -, -, -⟩ := hr.item (Below.refl _ _) hi0
  obtain ⟨-, -, -, -, ⟨p9, p10⟩, -, -⟩ := okR_parts (rgR_mem hg (List.mem_of_getElem? hx))
  obtain ⟨m1, m2⟩ := hmv
  have HX := Lib.hid hx
  have HG := Lib.hid hg
  have CR := Lib.hid (fun (k : Nat) (p : Int × Int) (hp : rspR L k = p) W (hb : Below w.heap.size w W) => H1.out.resp (some ⟨b1, o1, none⟩) n c L k W (hr.below hb) hn p.1 p.2 hp)
  obtain ⟨⟨l3, p3, e3⟩, hp3⟩ : ∃ p, accR L = p := ⟨_, rfl⟩
  have CA := Lib.hid (fun W (hb : Below w.heap.size w W) => H1.out.accept (some ⟨b1, o1, none⟩) n c L W (hr.below hb) hn l3 p3 e3 hp3)
  unfold accR at hp3
  rw [if_pos hg] at hp3
  cases hk : accK L L.length with
  | none =>
    rw [hk] at hp3
    have hl3 : l3 = accV L L.length := by cases hp3; rfl
    have h3 : p3 = -1 ∧ e3 = 0 := by cases hp3; exact ⟨rfl, rfl⟩
    obtain ⟨rfl, rfl⟩ := h3
    have HNO := Lib.hid (accK_no hk)
    have HL3 := Lib.hid hl3
    have HWD := Lib.hid (fun d (hd : x.D ≤ d) (hd2 : d ≤ 1048576) => acc_wide hg hx hd hd2 hk)
    clear hr hlt hg z1 z2 hx hp3 hk hl3
    go_enter Try.func7, Try.ntmps7
    go_wp2_with (first
      | (go_at_call 9; refine CL.out.mono ?_; rintro e w1 ⟨rfl, hw1⟩; have hw1 := hw1.symm; subst hw1)
      | (go_at_call 18; refine C4.out.mono ?_; rintro e w3 ⟨rfl, hb3⟩; have B3 := Lib.hid hb3; clear hb3)
      | (go_at_call 16; refine (CA.out _ B3.out).mono ?_; rintro e w4 ⟨xa, xn, xc, rfl, hXR, hb4⟩; have B4 := Lib.hid (keep_below B3.out hb4); have XR := Lib.hid hXR; clear hb4 hXR))
    have hxn : xn = n := by have h1 := XR.out.1; rw [HL3.out] at h1; rw [h1, HL.out]; simp [accV]
    subst hxn
    obtain ⟨b3, o3, rfl, hb3lt, -⟩ := XR.out.2 (by omega)
    go_loopw [10, 11] (fun f j wr => ∃ (kk : Nat) (J : Int), kk ≤ xn ∧ f = .int .i64 (-1) ∧ j = .int .i64 J ∧ Hid (J + 1 = (kk : Int)) ∧ Hid (Row wr (some ⟨b3, o3, none⟩) xn l3) ∧ Hid (Below w.heap.size w wr)) (fun _ j _ => (intOf j + 1).toNat)
    case atStart => exact ⟨xn, (xn : Int) - 1, Nat.le_refl _, rfl, rfl, (by show _ = _; omega), XR, B4⟩
    case round =>
      obtain ⟨kk, J, hk, rfl, rfl, HJ, HXR, HBL⟩ := hrel
      rcases kk with _ | k
      · have hJ : J = -1 := by have := HJ.out; omega
        subst hJ
        have RC := Lib.hid (HR.out.below HBL.out)
        obtain ⟨ri, ri0, ri1, ri2, ri3⟩ := info_parts row_info
        go_upto_region 14 with (refine wpList_append_new w wr HBL.out (by rfl) (.tmp 75) (.tmp 76) 22 rfl 41 ri (.agg #[.int .i64 0, .int .i64 0, .int .i64 0, .int .i64 0, .int .i64 0, .int .i64 0]) 6 48 Try.underlying22 ri0 ri1 ri2 ri3 rfl (by omega) (by omega) (by simp [Act.eval]) ⟨b1, o1, none⟩ xn c (rsC L) (by simp [Act.eval]) RC.out.clen RC.out.cells (rsC_cell _) (by omega) ?_; rintro gm cm w9 hown9 hb9; have O9 := Lib.hid hown9; have B9 := Lib.hid hb9; clear hown9 hb9)
        have y3 : w9.cell? ⟨gm, i0 * 6 + 3, none⟩ = some (.int .i64 x.D) := by
          rw [O9.out.cellAt (i0 * 6 + 3) (by omega)]
          exact rsC_at _ i0 3 x HX.out (by omega)
        have fz := O9.out.frozenAt (i0 * 6 + 3)
        have HS : Hid ((w9.setCell ⟨gm, i0 * 6 + 3, none⟩ (.int .i64 (min 1048576 (x.D + mv)))).ownsRow w.heap.size 41 6 (.slice (some ⟨gm, 0, none⟩) xn cm) xn (rsC (L.set i0 { x with D := min 1048576 (x.D + mv) }))) := by
          have h := (O9.out.stored (i0 * 6 + 3) (.int .i64 (min 1048576 (x.D + mv)))).1
          rw [rsC_set (r := x) (r' := { x with D := min 1048576 (x.D + mv) }) 3 (.int .i64 (min 1048576 (x.D + mv))) rfl (by omega) _ i0 HX.out] at h
          exact h
        have HB2 := Lib.hid (B9.out.grown (O9.out.stored (i0 * 6 + 3) (.int .i64 (min 1048576 (x.D + mv)))).2 B9.out.size (fun g hg => by cases hg; exact (O9.out.lt gm rfl).1))
        go_upto_region 15 with fail
        have hO := HS.out
        obtain ⟨af, cf', ef, -, RM⟩ := RowS.own hO
        cases ef
        obtain ⟨lw, hpw⟩ := HWD.out (min 1048576 (x.D + mv)) (by omega) (by omega)
        have CW := Lib.hid (H1.out.accept _ xn cm _ _ RM hn _ _ _ hpw)
        clear RM hO hpw y3 fz O9 B9 HS
        generalize w9.setCell ⟨gm, i0 * 6 + 3, none⟩ (.int .i64 (min 1048576 (x.D + mv))) = W10 at HB2 CW ⊢
        go_wp2_with (first
          | (go_at_call 16; refine CW.out.mono ?_; rintro e w10 ⟨ya, yn, yc, rfl, -, hb10⟩; have B10 := Lib.hid (keep_below HB2.out hb10); clear hb10)
          | (go_at_call 10; refine (known_any H1.out _).mono ?_; rintro e w11 ⟨rfl, hb11⟩))
        go_ret
        exact ⟨rfl, keep_below B10.out hb11⟩
      · have hJ : J = (k : Int) := by have := HJ.out; omega
        subst hJ
        clear HJ
        have j1 : (0 : Int) ≤ (k : Int) := by omega
        have j2 : (k : Int) < (xn : Int) := by omega
        have j3 : decide (xn ≤ k) = false := decide_eq_false (by omega)
        have j4 : decide ((xn : Int) ≤ (k : Int)) = false := decide_eq_false (by omega)
        obtain ⟨⟨rv, re⟩, hp⟩ : ∃ p, rspR L k = p := ⟨_, rfl⟩
        have hre : re = 0 := by have := HNO.out k (by rw [← HL.out]; omega); rw [hp] at this; exact this
        subst hre
        have C := Lib.hid (CR.out k (rv, 0) hp wr HBL.out)
        have HV : Hid (l3[k]? = some rv) := by
          show _ = _
          rw [HL3.out]
          unfold accV
          rw [List.getElem?_map, List.getElem?_range (by rw [← HL.out]; omega)]
          show some (rspR L (k : Int)).1 = _
          rw [hp]
        clear hp
        go_wp2_with (go_at_call 14; refine C.out.mono ?_; rintro e w5 ⟨rfl, hb5⟩; have X5 := Lib.hid (HXR.out.below hb5); have B5 := Lib.hid (keep_below HBL.out hb5); obtain ⟨_, _, v5, e5, _, e6, d5⟩ := X5.out.item (by omega : k < xn); cases e5; have e7 := HV.out.symm.trans e6; cases e7; clear e6 hb5)
        go_roundw
        case rel => exact ⟨k, (k : Int) - 1, by omega, rfl, by go_num, (by show _ = _; omega), X5, B5⟩
        case measure => first | (simp [intOf]; done) | (simp [intOf]; omega)
  | some z =>
    obtain ⟨k0, e0⟩ := z
    rw [hk] at hp3
    have hl3 : l3 = [] := by cases hp3; rfl
    have h3 : p3 = (k0 : Int) ∧ e3 = e0 := by cases hp3; exact ⟨rfl, rfl⟩
    obtain ⟨rfl, rfl⟩ := h3
    obtain ⟨k1, k2, k3, k4⟩ := accK_yes hk
    have HNO := Lib.hid k4
    have HK2 := Lib.hid k2
    obtain ⟨⟨lw, pw, ew⟩, hpw⟩ : ∃ p, accR (L.set i0 { x with D := min 1048576 (x.D + mv) }) = p := ⟨_, rfl⟩
    have HPW := Lib.hid hpw
    have g1 : (e3 == 0) = false := beq_eq_false_iff_ne.2 k3
    have g2 : decide ((k0 : Int) < 0) = false := decide_eq_false (by omega)
    have hk0 : k0 < n := by have := HL.out; omega
    subst hl3
    clear hr hlt hg z1 z2 hx hp3 hk k1 k2 k4 hpw
    go_enter Try.func7, Try.ntmps7
    go_wp2_with (first
      | (go_at_call 9; refine CL.out.mono ?_; rintro e w1 ⟨rfl, hw1⟩; have hw1 := hw1.symm; subst hw1)
      | (go_at_call 18; refine C4.out.mono ?_; rintro e w3 ⟨rfl, hb3⟩; have B3 := Lib.hid hb3; clear hb3)
      | (go_at_call 16; refine (CA.out _ B3.out).mono ?_; rintro e w4 ⟨xa, xn, xc, rfl, hXR, hb4⟩; have B4 := Lib.hid (keep_below B3.out hb4); have hxn : xn = 0 := hXR.1; clear hb4 hXR))
    subst hxn
    go_loopw [10, 11] (fun f j wr => ∃ (kk : Nat) (J F : Int), kk ≤ n ∧ f = .int .i64 F ∧ j = .int .i64 J ∧ Hid (J + 1 = (kk : Int)) ∧ Hid (kk ≤ k0 → F = (k0 : Int)) ∧ Hid (Below w.heap.size w wr)) (fun _ j _ => (intOf j + 1).toNat)
    case atStart => exact ⟨n, (n : Int) - 1, -1, Nat.le_refl _, rfl, rfl, (by show _ = _; omega), (fun h => by omega), B4⟩
    case round =>
      obtain ⟨kk, J, F, hk, rfl, rfl, HJ, HFF, HBL⟩ := hrel
      rcases kk with _ | k
      · have hJ : J = -1 := by have := HJ.out; omega
        subst hJ
        have hF : F = (k0 : Int) := HFF.out (by omega)
        subst hF
        have RC := Lib.hid (HR.out.below HBL.out)
        obtain ⟨ri, ri0, ri1, ri2, ri3⟩ := info_parts row_info
        go_upto_region 14 with (refine wpList_append_new w wr HBL.out (by rfl) (.tmp 75) (.tmp 76) 22 rfl 41 ri (.agg #[.int .i64 0, .int .i64 0, .int .i64 0, .int .i64 0, .int .i64 0, .int .i64 0]) 6 48 Try.underlying22 ri0 ri1 ri2 ri3 rfl (by omega) (by omega) (by simp [Act.eval]) ⟨b1, o1, none⟩ n c (rsC L) (by simp [Act.eval]) RC.out.clen RC.out.cells (rsC_cell _) (by omega) ?_; rintro gm cm w9 hown9 hb9; have O9 := Lib.hid hown9; have B9 := Lib.hid hb9; clear hown9 hb9)
        have y3 : w9.cell? ⟨gm, i0 * 6 + 3, none⟩ = some (.int .i64 x.D) := by
          rw [O9.out.cellAt (i0 * 6 + 3) (by omega)]
          exact rsC_at _ i0 3 x HX.out (by omega)
        have fz := O9.out.frozenAt (i0 * 6 + 3)
        have HS : Hid ((w9.setCell ⟨gm, i0 * 6 + 3, none⟩ (.int .i64 (min 1048576 (x.D + mv)))).ownsRow w.heap.size 41 6 (.slice (some ⟨gm, 0, none⟩) n cm) n (rsC (L.set i0 { x with D := min 1048576 (x.D + mv) }))) := by
          have h := (O9.out.stored (i0 * 6 + 3) (.int .i64 (min 1048576 (x.D + mv)))).1
          rw [rsC_set (r := x) (r' := { x with D := min 1048576 (x.D + mv) }) 3 (.int .i64 (min 1048576 (x.D + mv))) rfl (by omega) _ i0 HX.out] at h
          exact h
        have HB2 := Lib.hid (B9.out.grown (O9.out.stored (i0 * 6 + 3) (.int .i64 (min 1048576 (x.D + mv)))).2 B9.out.size (fun g hg => by cases hg; exact (O9.out.lt gm rfl).1))
        go_upto_region 15 with fail
        have hO := HS.out
        obtain ⟨af, cf', ef, -, RM⟩ := RowS.own hO
        cases ef
        have hpw := HPW.out
        have CW := Lib.hid (H1.out.accept _ n cm _ _ RM hn _ _ _ hpw)
        clear RM hO hpw y3 fz O9 B9 HS
        generalize w9.setCell ⟨gm, i0 * 6 + 3, none⟩ (.int .i64 (min 1048576 (x.D + mv))) = W10 at HB2 CW ⊢
        go_wp2_with (first
          | (go_at_call 16; refine CW.out.mono ?_; rintro e w10 ⟨ya, yn, yc, rfl, -, hb10⟩; have B10 := Lib.hid (keep_below HB2.out hb10); clear hb10)
          | (go_at_call 10; refine (known_any H1.out _).mono ?_; rintro e w11 ⟨rfl, hb11⟩))
        go_ret
        exact ⟨rfl, keep_below B10.out hb11⟩
      · have hJ : J = (k : Int) := by have := HJ.out; omega
        subst hJ
        clear HJ
        have j1 : (0 : Int) ≤ (k : Int) := by omega
        have j2 : (k : Int) < (n : Int) := by omega
        obtain ⟨⟨rv, re⟩, hp⟩ : ∃ p, rspR L k = p := ⟨_, rfl⟩
        have C := Lib.hid (CR.out k (rv, re) hp wr HBL.out)
        by_cases hre : re = 0
        · have HF2 : Hid (k ≤ k0 → F = (k0 : Int)) := fun h => by
            by_cases e : k = k0
            · subst e
              have := HK2.out
              rw [hp] at this
              exact absurd (this.symm.trans hre) k3
            · exact HFF.out (by omega)
          subst hre
          clear hp
          go_wp2_with (go_at_call 14; refine C.out.mono ?_; rintro e w5 ⟨rfl, hb5⟩; have B5 := Lib.hid (keep_below HBL.out hb5); clear hb5)
          go_roundw
          case rel => exact ⟨k, (k : Int) - 1, F, by omega, rfl, by go_num, (by show _ = _; omega), HF2, B5⟩
          case measure => first | (simp [intOf]; done) | (simp [intOf]; omega)
        · have HF2 : Hid (k ≤ k0 → (k : Int) = (k0 : Int)) := fun h => by
            by_cases e : k = k0
            · rw [e]
            · have := HNO.out k (by omega)
              rw [hp] at this
              exact absurd this hre
          have d5 : (re == 0) = false := beq_eq_false_iff_ne.2 hre
          clear hp
          go_wp2_with (go_at_call 14; refine C.out.mono ?_; rintro e w5 ⟨rfl, hb5⟩; have B5 := Lib.hid (keep_below HBL.out hb5); clear hb5)
          go_roundw
          case rel => exact ⟨k, (k : Int) - 1, (k : Int), by omega, rfl, by go_num, (by show _ = _; omega), HF2, B5⟩
          case measure => first | (simp [intOf]; done) | (simp [intOf]; omega)
end Go.Proofs.Ytiibbeigkopkeaa
