/- What is proved here: the walk of the law CostRounds. Condition: the table of names holds what its initialiser lays (Nms). -/
import Derived.Test.YtacgnofmccennaaDoorW2
import Derived.Test.YtacgnofmccennaaDoorCv
import Derived.OpenShut
namespace Go.Proofs.YtacgnofmccennaaDoor
open Go.ChangeShapes Go.WideShapes Go.RowKit

theorem own_addr {w : World} {base : Nat} {v : Value} {n : Nat} {xs : List Value} (h : w.ownsRow base 37 3 v n xs) (h0 : 0 < n) : ∃ g cap, v = .slice (some ⟨g, 0, none⟩) n cap := by
  rcases h.2 with ⟨_, e⟩ | ⟨g, cap, cur, e, _⟩
  · omega
  · exact ⟨g, cap, e⟩
theorem own_base {w w' : World} {v : Value} {n : Nat} {xs : List Value} (h : w.ownsRow w'.heap.size 37 3 v n xs) : ∀ g, v.ownBlock = some g → w'.heap.size ≤ g := fun g hg => (h.lt g hg).1
set_option maxHeartbeats 2000000 in
set_option maxRecDepth 100000 in
theorem rounds_main (b off n c k : Nat) (L : List (Int × Int × Int)) (r x y : Int) (hr0 : 0 ≤ r ∧ r ≤ 255) (h200 : n ≤ 200) (hkn : k < n) (hkr : Int.tmod r n = k) (w : World) (hr : RowI w (some ⟨b, off, none⟩) n L) (hN : Nms w) (hk : L[k]? = some (21, x, y)) (hx : 1 ≤ x ∧ x ≤ 998) :
    Calls Tryd.prog 7 #[.slice (some ⟨b, off, none⟩) n c, .int .u8 r] w fun e w' => e = .returned (.bool true) ∧ Below w.heap.size w w' := by
  obtain ⟨i0, hi, hz0, hz1, hz2⟩ := info_parts' ins_info
  have HNm := Lib.hid hN
  have KN := Lib.hid (fun W (h : Below w.heap.size w W) => known9_any W (HNm.out.below h))
  have HR := Lib.hid hr
  have HK := Lib.hid hk
  have HL := Lib.hid hr.1
  obtain ⟨b1, o1, o', x', y', e1, hB1, hx', hc1, hc2, hc3⟩ := hr.at_ hkn
  rw [hk] at hx'
  simp only [Option.some.injEq, Prod.mk.injEq, Addr.mk.injEq] at hx' e1
  obtain ⟨rfl, rfl, rfl⟩ := hx'
  obtain ⟨rfl, rfl, _⟩ := e1
  have d1 : decide ((200 : Int) < (n : Int)) = false := by rw [decide_eq_false_iff_not]; omega
  have d2 : decide ((n : Int) < 1) = false := by rw [decide_eq_false_iff_not]; omega
  have d3 : decide (x < 1) = false := by rw [decide_eq_false_iff_not]; omega
  have d4 : decide (998 < x) = false := by rw [decide_eq_false_iff_not]; omega
  have v1 : IntKind.i64.wrap r = r := IntWalk.i64_in _ (by omega)
  have v2 : IntKind.i64.wrap (x + 1) = x + 1 := IntWalk.i64_in _ (by omega)
  have v3 : IntKind.i64.wrap (x + 2) = x + 2 := IntWalk.i64_in _ (by omega)
  have n0 : ((n : Int) == 0) = false := by rw [beq_eq_false_iff_ne]; omega
  have hLl : (cellsI L).length = n * 3 := by rw [cellsI_length, ← hr.1]
  have HcA : Hid (∀ (W : World), Below w.heap.size w W → ∀ j u, (cellsI L)[j]? = some u → W.cell? ((⟨b, off, none⟩ : Addr).add j) = some u) := fun W hW => (HR.out.below hW).cells rfl
  have HO : Hid ((w.alloc (.cells #[] 37)).ownsRow w.heap.size 37 3 (.slice (some ⟨w.heap.size, 0, none⟩) 0 0) 0 []) := by
    refine ⟨by simp, Or.inr ⟨w.heap.size, 0, #[], rfl, Nat.le_refl _, new_block _ _, by omega, by unfold maxLen; omega, rfl, rfl⟩⟩
  have B0 := below_alloc w (.cells #[] 37)
  clear hr hN hk
  go_enter Tryd.func7, Tryd.ntmps7
  go_wp2_with (at_builtin; refine wpList_append_own _ rfl _ _ 22 rfl w.heap.size 37 i0 (.agg #[.int .i64 0, .int .i64 0, .int .i64 0]) 3 24 Tryd.underlying22 hi hz0 hz1 hz2 rfl (by decide) _ _ _ rfl HO.out ⟨b, off, none⟩ n c (cellsI L) rfl hLl (HcA.out _ B0) (cellsI_one L) ?c3 ?c4 ?c5 ?_)
  case c3 => unfold maxLen; omega
  case c4 => omega
  case c5 => simp
  intro v1 w4 hown1 hgrow1 _
  have B1 : Below w.heap.size w w4 := B0.grown hgrow1 (by simp) (fun g hg => by simp [Value.ownBlock] at hg; omega)
  have hown1' : w4.ownsRow w.heap.size 37 3 v1 n (cellsI L) := by have := hown1; simpa using this
  obtain ⟨g1, q1, rfl⟩ := own_addr hown1' (by omega)
  obtain ⟨s1, s2, s3, s4, s5, s6, s7⟩ := own_set hown1' HK.out (x + 1)
  have A1 := alk_set (by rw [← HL.out]; exact hkn) (at_some HK.out) (x + 1)
  obtain ⟨M, hM⟩ : ∃ M, M = L.set k (21, x + 1, y) := ⟨_, rfl⟩
  rw [← hM] at s7 A1
  have HR1 := Lib.hid s7
  have HA1 := Lib.hid A1
  have j0 : (0 : Int) ≤ (k : Int) := by omega
  have j1 : (k : Int) < (n : Int) := by omega
  have sg1 : (w4.setCell ⟨g1, k * 3 + 1, none⟩ (.int .i64 (x + 1))).heap.size = w4.heap.size := by simp [World.setCell]
  have B2 : Below w.heap.size w (w4.setCell ⟨g1, k * 3 + 1, none⟩ (.int .i64 (x + 1))) := B1.setCell (p := ⟨g1, k * 3 + 1, none⟩) s4 _
  have B3 := below_alloc (w4.setCell ⟨g1, k * 3 + 1, none⟩ (.int .i64 (x + 1))) (.cells #[] 37)
  have HO2 : Hid (((w4.setCell ⟨g1, k * 3 + 1, none⟩ (.int .i64 (x + 1))).alloc (.cells #[] 37)).ownsRow w4.heap.size 37 3 (.slice (some ⟨w4.heap.size, 0, none⟩) 0 0) 0 []) := by
    refine ⟨by simp, Or.inr ⟨w4.heap.size, 0, #[], rfl, Nat.le_refl _, ?_, by omega, by unfold maxLen; omega, rfl, rfl⟩⟩
    have := new_block (w4.setCell ⟨g1, k * 3 + 1, none⟩ (.int .i64 (x + 1))) (.cells #[] 37)
    rw [sg1] at this; exact this
  have hcc := HcA.out _ (keep_below B2 B3)
  clear hown1 hown1' hgrow1 s7 hM A1 HO B0
  go_wp2_with (at_builtin; refine wpList_append_own _ rfl _ _ 22 rfl w4.heap.size 37 i0 (.agg #[.int .i64 0, .int .i64 0, .int .i64 0]) 3 24 Tryd.underlying22 hi hz0 hz1 hz2 rfl (by decide) _ _ _ rfl HO2.out ⟨b, off, none⟩ n c (cellsI L) rfl hLl hcc (cellsI_one L) ?c3 ?c4 ?c5 ?_)
  case c3 => unfold maxLen; omega
  case c4 => omega
  case c5 => simp [World.setCell]
  generalize hW1 : w4.setCell ⟨g1, k * 3 + 1, none⟩ (.int .i64 (x + 1)) = W1 at *
  rw [← sg1] at *
  intro v2 w5 hown2 hgrow2 _
  have B4 : Below W1.heap.size W1 w5 := B3.grown hgrow2 (by simp) (fun g hg => by simp [Value.ownBlock] at hg; omega)
  have hown2' : w5.ownsRow W1.heap.size 37 3 v2 n (cellsI L) := by have := hown2; simpa using this
  obtain ⟨g2, q2, rfl⟩ := own_addr hown2' (by omega)
  obtain ⟨t1, t2, t3, t4, t5, t6, t7⟩ := own_set hown2' HK.out (x + 2)
  have A2 := alk_set (by rw [← HL.out]; exact hkn) (at_some HK.out) (x + 2)
  have e0 : (at_ L k).2.1 = ((x.toNat : Nat) : Int) := by rw [at_some HK.out]; show x = _; omega
  have hxn : ((x.toNat : Nat) : Int) = x := by omega
  obtain ⟨N, hNN⟩ : ∃ N, N = L.set k (21, x + 2, y) := ⟨_, rfl⟩
  rw [← hNN] at t7 A2
  have HF := Lib.hid (fun z0 z1 z2 z3 z4 => rounds_facts HA1.out.1 A2.1 e0 (by rw [hxn]; exact HA1.out.2) (by rw [hxn]; exact A2.2) z0 z1 z2 z3 z4)
  have B5 : Below W1.heap.size W1 (w5.setCell ⟨g2, k * 3 + 1, none⟩ (.int .i64 (x + 2))) := B4.setCell (p := ⟨g2, k * 3 + 1, none⟩) t4 _
  have G2 := keep_below B2 B5
  have HR2 := Lib.hid t7
  clear hown2 hown2' hgrow2 t7 hNN A2 e0 hxn HO2 hcc B3 B4 hLl HcA
  generalize hW2 : w5.setCell ⟨g2, k * 3 + 1, none⟩ (.int .i64 (x + 2)) = W2 at HR2 B5 G2
  have CL := Lib.hid (fun W (h : Below W2.heap.size W2 W) => best_any (some ⟨b, off, none⟩) n c L W ((HR.out.below G2).below h) ((HNm.out.below G2).below h))
  have CM := Lib.hid (fun W (h : Below W2.heap.size W2 W) => best_any (some ⟨g1, 0, none⟩) n q1 M W ((HR1.out.below B5).below h) ((HNm.out.below G2).below h))
  have CN := Lib.hid (fun W (h : Below W2.heap.size W2 W) => best_any (some ⟨g2, 0, none⟩) n q2 N W (HR2.out.below h) ((HNm.out.below G2).below h))
  have WL := Lib.hid (fun W (h : Below W2.heap.size W2 W) => worst_any (some ⟨b, off, none⟩) n c L W ((HR.out.below G2).below h) ((HNm.out.below G2).below h))
  have WM := Lib.hid (fun W (h : Below W2.heap.size W2 W) => worst_any (some ⟨g1, 0, none⟩) n q1 M W ((HR1.out.below B5).below h) ((HNm.out.below G2).below h))
  have CS := Lib.hid (fun W (h : Below W2.heap.size W2 W) => straight_any (some ⟨b, off, none⟩) n c L W ((HR.out.below G2).below h) (by omega))
  generalize cE false L = f0 at HF CL
  generalize cE false M = f1 at HF CM
  generalize cE false N = f2 at HF CN
  generalize cE true L = f3 at HF WL
  generalize cE true M = f4 at HF WM
  generalize cW false L = u0 at HF CL
  generalize cW false M = u1 at HF CM
  generalize cW false N = u2 at HF CN
  generalize cW true L = u3 at HF WL
  generalize cW true M = u4 at HF WM
  generalize strt L = z at HF CS
  have K2 := Lib.hid (fun W (h : Below W2.heap.size W2 W) => KN.out W (keep_below G2 h))
  have HG2 := Lib.hid G2
  clear HR1 HR2 HR HA1 G2 B5 B1 B2 KN HNm
  go_upto_region 15 with (first
    | (go_at_call 11; have q := b2; clear q; refine (CN.out _ b2).mono ?_; rintro e w8 ⟨rfl, c3⟩; have b3 := keep_below b2 c3)
    | (go_at_call 11; have q := b1; clear q; refine (CM.out _ b1).mono ?_; rintro e w8 ⟨rfl, c2⟩; have b2 := keep_below b1 c2)
    | (go_at_call 11; refine (CL.out _ (Below.refl _ _)).mono ?_; rintro e w8 ⟨rfl, b1⟩)
    | (go_at_call 9; have q := b4; clear q; refine (WM.out _ b4).mono ?_; rintro e w8 ⟨rfl, c5⟩; have b5 := keep_below b4 c5)
    | (go_at_call 9; refine (WL.out _ b3).mono ?_; rintro e w8 ⟨rfl, c4⟩; have b4 := keep_below b3 c4))
  clear CL CM CN WL WM
  cases z0 : (f0 == 0)
  · have y0 : (f0 != 0) = true := by simp [bne, z0]
    clear HF
    go_wp2_with (first | (go_at_call 8; refine (K2.out _ b5).mono ?_; rintro e w7 ⟨rfl, hb7⟩))
    go_ret
    exact ⟨rfl, keep_below HG2.out (keep_below b5 hb7)⟩
  have y0 : (f0 != 0) = false := by simp [bne, z0]
  cases z1 : (f1 == 0)
  · have y1 : (f1 != 0) = true := by simp [bne, z1]
    clear HF
    go_wp2_with (first | (go_at_call 8; refine (K2.out _ b5).mono ?_; rintro e w7 ⟨rfl, hb7⟩))
    go_ret
    exact ⟨rfl, keep_below HG2.out (keep_below b5 hb7)⟩
  have y1 : (f1 != 0) = false := by simp [bne, z1]
  cases z2 : (f2 == 0)
  · have y2 : (f2 != 0) = true := by simp [bne, z2]
    clear HF
    go_wp2_with (first | (go_at_call 8; refine (K2.out _ b5).mono ?_; rintro e w7 ⟨rfl, hb7⟩))
    go_ret
    exact ⟨rfl, keep_below HG2.out (keep_below b5 hb7)⟩
  have y2 : (f2 != 0) = false := by simp [bne, z2]
  cases z3 : (f3 == 0)
  · have y3 : (f3 != 0) = true := by simp [bne, z3]
    clear HF
    go_wp2_with (first | (go_at_call 8; refine (K2.out _ b5).mono ?_; rintro e w7 ⟨rfl, hb7⟩))
    go_ret
    exact ⟨rfl, keep_below HG2.out (keep_below b5 hb7)⟩
  have y3 : (f3 != 0) = false := by simp [bne, z3]
  cases z4 : (f4 == 0)
  · have y4 : (f4 != 0) = true := by simp [bne, z4]
    clear HF
    go_wp2_with (first | (go_at_call 8; refine (K2.out _ b5).mono ?_; rintro e w7 ⟨rfl, hb7⟩))
    go_ret
    exact ⟨rfl, keep_below HG2.out (keep_below b5 hb7)⟩
  have y4 : (f4 != 0) = false := by simp [bne, z4]
  obtain ⟨m1, m2, m3, m4, m5, m6, m7, m8⟩ := HF.out (by simpa using z0) (by simpa using z1) (by simpa using z2) (by simpa using z3) (by simpa using z4)
  have p1 : decide (u0 ≤ u1) = true := by rw [decide_eq_true_iff]; exact m1
  have p2 : decide (u1 ≤ u2) = true := by rw [decide_eq_true_iff]; exact m2
  have p3 : decide (u3 ≤ u4) = true := by rw [decide_eq_true_iff]; exact m3
  clear HF
  cases z
  · clear m4
    go_wp2_with (first | (go_at_call 8; refine (K2.out _ b6).mono ?_; rintro e w7 ⟨rfl, hb7⟩) | (go_at_call 17; refine (CS.out _ b5).mono ?_; rintro e w8 ⟨rfl, c6⟩; have b6 := keep_below b5 c6))
    go_ret
    exact ⟨rfl, keep_below HG2.out (keep_below b6 hb7)⟩
  · obtain ⟨k1, k2⟩ := m4 rfl
    obtain ⟨D, hD⟩ : ∃ D, D = u1 - u0 := ⟨_, rfl⟩
    have r1 : IntKind.i64.wrap (u1 - u0) = D := by rw [IntWalk.i64_in _ (by omega)]; omega
    have r2 : IntKind.i64.wrap (u2 - u1) = D := by rw [IntWalk.i64_in _ (by omega)]; omega
    have r3 : IntKind.i64.wrap (u4 - u3) = D := by rw [IntWalk.i64_in _ (by omega)]; omega
    have r4 : (D == D) = true := by simp
    clear m4 k1 k2 hD
    go_wp2_with (first | (go_at_call 8; refine (K2.out _ b6).mono ?_; rintro e w7 ⟨rfl, hb7⟩) | (go_at_call 17; refine (CS.out _ b5).mono ?_; rintro e w8 ⟨rfl, c6⟩; have b6 := keep_below b5 c6))
    go_ret
    exact ⟨rfl, keep_below HG2.out (keep_below b6 hb7)⟩
set_option maxHeartbeats 2000000 in
set_option maxRecDepth 100000 in
theorem rounds_walk (a : Option Addr) (n c : Nat) (L : List (Int × Int × Int)) (r : Int) (hnc : n ≤ c) (hcm : c ≤ maxLen) (hr8 : (Lit.int .u8 r).wf = true) (w : World) (hr : RowI w a n L) (hN : Nms w) :
    Calls Tryd.prog 7 #[.slice a n c, .int .u8 r] w fun e w' => e = .returned (.bool true) ∧ Below w.heap.size w w' := by
  have hm63 : n ≤ 9223372036854775807 := Nat.le_trans hnc hcm
  have hr0 : 0 ≤ r ∧ r ≤ 255 := by
    have := bounds_u8 hr8
    omega
  have HNm := Lib.hid hN
  have KN := Lib.hid (fun W (h : Below w.heap.size w W) => known9_any W (HNm.out.below h))
  by_cases h200 : 200 < n
  · have e1 : decide ((200 : Int) < (n : Int)) = true := by rw [decide_eq_true_iff]; omega
    clear hr hN
    go_enter Tryd.func7, Tryd.ntmps7
    go_wp2_with (go_at_call 8; refine (KN.out _ (Below.refl _ _)).mono ?_; rintro e w1 ⟨rfl, hb1⟩)
    go_ret
    exact ⟨rfl, hb1⟩
  have e1 : decide ((200 : Int) < (n : Int)) = false := by rw [decide_eq_false_iff_not]; omega
  by_cases h1 : n < 1
  · have e2 : decide ((n : Int) < 1) = true := by rw [decide_eq_true_iff]; omega
    clear hr hN
    go_enter Tryd.func7, Tryd.ntmps7
    go_wp2_with (go_at_call 8; refine (KN.out _ (Below.refl _ _)).mono ?_; rintro e w1 ⟨rfl, hb1⟩)
    go_ret
    exact ⟨rfl, hb1⟩
  have e2 : decide ((n : Int) < 1) = false := by rw [decide_eq_false_iff_not]; omega
  obtain ⟨k, hk⟩ : ∃ k : Nat, Int.tmod r n = k := ⟨(Int.tmod r n).toNat, by have := Int.tmod_nonneg (n : Int) hr0.1; omega⟩
  have hkn : k < n := by
    have := Int.tmod_lt_of_pos r (show (0 : Int) < n by omega)
    omega
  obtain ⟨b, off, o, x, y, rfl, hB1, hx, hc1, hc2, hc3⟩ := hr.at_ hkn
  have v1 : IntKind.i64.wrap r = r := IntWalk.i64_in _ (by omega)
  have n0 : ((n : Int) == 0) = false := by rw [beq_eq_false_iff_ne]; omega
  have j0 : (0 : Int) ≤ (k : Int) := by omega
  have j1 : (k : Int) < (n : Int) := by omega
  by_cases h21 : o = 21
  · subst h21
    by_cases hx1 : x < 1
    · have e3 : decide (x < 1) = true := by rw [decide_eq_true_iff]; exact hx1
      clear hr hN hx
      go_enter Tryd.func7, Tryd.ntmps7
      go_wp2_with (go_at_call 8; refine (KN.out _ (Below.refl _ _)).mono ?_; rintro e w1 ⟨rfl, hb1⟩)
      go_ret
      exact ⟨rfl, hb1⟩
    by_cases hx2 : 998 < x
    · have e3 : decide (x < 1) = false := by rw [decide_eq_false_iff_not]; exact hx1
      have e4 : decide (998 < x) = true := by rw [decide_eq_true_iff]; exact hx2
      clear hr hN hx
      go_enter Tryd.func7, Tryd.ntmps7
      go_wp2_with (go_at_call 8; refine (KN.out _ (Below.refl _ _)).mono ?_; rintro e w1 ⟨rfl, hb1⟩)
      go_ret
      exact ⟨rfl, hb1⟩
    exact rounds_main b off n c k L r x y hr0 (by omega) hkn hk w hr hN hx (by omega)
  · have e3 : (o != 21) = true := by simpa using h21
    clear hr hN hx h21
    go_enter Tryd.func7, Tryd.ntmps7
    go_wp2_with (go_at_call 8; refine (KN.out _ (Below.refl _ _)).mono ?_; rintro e w1 ⟨rfl, hb1⟩)
    go_ret
    exact ⟨rfl, hb1⟩
end Go.Proofs.YtacgnofmccennaaDoor
