/- What is proved here: the walk of the law CostSums. Condition: the table of names holds what its initialiser lays (Nms). -/
import Derived.Test.YtacgnofmccennaaDoorW3
import Derived.Test.YtacgnofmccennaaDoorCz
namespace Go.Proofs.YtacgnofmccennaaDoor
open Go.ChangeShapes Go.WideShapes Go.RowKit

theorem two_at' {A B : List (Int × Int × Int)} {k : Nat} (h : k + 1 = A.length) : two A B = A.take k ++ B := by
  unfold two; rw [← h]; rfl
theorem lp_at' {A : List (Int × Int × Int)} {x : Int} {k : Nat} (h : k + 1 = A.length) : lp x A = [(21, x, 0)] ++ A.take k ++ [(22, 0, 0), (25, 0, 0)] := by
  unfold lp; rw [← h]; rfl
set_option maxHeartbeats 8000000 in
set_option maxRecDepth 100000 in
theorem sums_main (a b : Option Addr) (k m c d : Nat) (A B : List (Int × Int × Int)) (r nn t : Int) (hr0 : 0 ≤ r ∧ r ≤ 255) (ht : Int.tmod r 9 = t) (ht9 : 0 ≤ t ∧ t < 9) (hnn : nn = 1 + t) (hn : k + 1 + m ≤ 190) (hkc : k + 1 ≤ c) (w : World) (hN : Nms w) (hA : RowI w a (k + 1) A) (hB : RowI w b m B) :
    Calls Tryd.prog 4 #[.slice a (k + 1) c, .slice b m d, .int .u8 r] w fun e w' => e = .returned (.bool true) ∧ Below w.heap.size w w' := by
  obtain ⟨i0, hi, hz0, hz1, hz2⟩ := info_parts' ins_info
  have HNm := Lib.hid hN
  have KN := Lib.hid (fun W (h : Below w.heap.size w W) => known9_any W (HNm.out.below h))
  have CA := Lib.hid (worst_any a (k + 1) c A w hA hN)
  have CB := Lib.hid (fun W (h : Below w.heap.size w W) => worst_any b m d B W (hB.below h) (HNm.out.below h))
  have HA := Lib.hid hA
  have HB := Lib.hid hB
  have HL := Lib.hid hA.1
  have HM := Lib.hid hB.1
  have HF := Lib.hid (sums_facts (A := A) (B := B) (by rw [← hA.1, ← hB.1]; exact hn) nn (by omega))
  have HT := Lib.hid (two_at' (B := B) hA.1)
  have HP := Lib.hid (lp_at' (x := nn) hA.1)
  have d0 : decide ((k : Int) + 1 < 1) = false := by rw [decide_eq_false_iff_not]; omega
  have hsm : IntKind.i64.wrap ((k : Int) + 1 + (m : Int)) = (k : Int) + 1 + (m : Int) := IntWalk.i64_in _ (by omega)
  have d1 : decide ((190 : Int) < (k : Int) + 1 + (m : Int)) = false := by rw [decide_eq_false_iff_not]; omega
  have hkc' : (k : Int) ≤ (c : Int) := by omega
  have hw1 : IntKind.i64.wrap ((k : Int) + 1 - 1) = (k : Int) := by rw [IntWalk.i64_in _ (by omega)]; omega
  have hcv : IntKind.i64.wrap r = r := IntWalk.i64_in _ (by omega)
  have hcw : IntKind.i64.wrap (1 + t) = nn := by rw [IntWalk.i64_in _ (by omega)]; exact hnn.symm
  have hnb : 1 ≤ nn ∧ nn ≤ 9 := by omega
  clear hA hB hN hnn
  go_enter Tryd.func4, Tryd.ntmps4
  go_wp2_with fail
  refine CA.out.mono ?_
  rintro e w1 ⟨rfl, hb1⟩
  go_wp2_with fail
  refine (CB.out _ hb1).mono ?_
  rintro e w2 ⟨rfl, hb2⟩
  have G := keep_below hb1 hb2
  have HRA := Lib.hid (HA.out.below G)
  have HRB := Lib.hid (HB.out.below G)
  obtain ⟨b3, o3, rfl, hadl, _⟩ := HRA.out.2 (by omega)
  have hLl : (cellsI (A.take k)).length = k * 3 := by rw [cellsI_length, List.length_take, ← HL.out]; omega
  have HO : Hid ((w2.alloc (.cells #[] 37)).ownsRow w2.heap.size 37 3 (.slice (some ⟨w2.heap.size, 0, none⟩) 0 0) 0 []) := by
    refine ⟨by simp, Or.inr ⟨w2.heap.size, 0, #[], rfl, Nat.le_refl _, new_block _ _, by omega, by unfold maxLen; omega, rfl, rfl⟩⟩
  have HcA : Hid (∀ (W : World), Below w2.heap.size w2 W → ∀ j u, (cellsI (A.take k))[j]? = some u → W.cell? ((⟨b3, o3, none⟩ : Addr).add j) = some u) := fun W hW => ((HRA.out.take (m := k) (by omega)).below hW).cells rfl
  have B0 := below_alloc w2 (.cells #[] 37)
  clear CA CB HA HB hb1 hb2
  go_wp2_with (at_builtin; refine wpList_append_own _ rfl _ _ 22 rfl w2.heap.size 37 i0 (.agg #[.int .i64 0, .int .i64 0, .int .i64 0]) 3 24 Tryd.underlying22 hi hz0 hz1 hz2 rfl (by decide) _ _ _ rfl HO.out ⟨b3, o3, none⟩ k c (cellsI (A.take k)) rfl hLl (HcA.out _ B0) (cellsI_one (A.take k)) ?c3 ?c4 ?c5 ?_)
  case c3 => unfold maxLen; omega
  case c4 => omega
  case c5 => simp
  intro v1 w4 hown1 hgrow1 _
  have B1 : Below w2.heap.size w2 w4 := B0.grown hgrow1 (by simp) (fun g hg => by simp [Value.ownBlock] at hg; omega)
  have hown1' : w4.ownsRow w2.heap.size 37 3 v1 k (cellsI (A.take k)) := by have := hown1; simpa using this
  obtain ⟨g1, q1, rfl⟩ : ∃ g cap, v1 = .slice (some ⟨g, 0, none⟩) k cap := by
    rcases hown1'.2 with ⟨e, h0⟩ | ⟨g, cap, cur, e, _⟩
    · rcases hown1.2 with ⟨e1, h1⟩ | ⟨g, cap, cur, e1, _⟩
      · exact absurd e (by assumption)
      · subst h0; rw [e] at e1; cases e1
    · exact ⟨g, cap, e⟩
  have HRB4 := Lib.hid (HRB.out.below B1)
  have s4 := B1.size
  have HO1 := Lib.hid hown1'
  clear hown1 hown1' hgrow1 HO B0
  go_wp2_with (at_builtin; refine wpList_append_rowI _ (by rfl) _ _ 22 rfl w2.heap.size i0 Tryd.underlying22 hi hz0 hz1 hz2 g1 k q1 _ rfl HO1.out b m d B rfl HRB4.out (by omega) s4 ?_)
  intro g2 q2 w5 hown2 hgrow2
  have B2 : Below w2.heap.size w2 w5 := B1.grown hgrow2 s4 (fun g hg => by cases hg; exact (HO1.out.lt g1 rfl).1)
  have hown3 : w5.ownsRow w2.heap.size 37 3 (.slice (some ⟨g2, 0, none⟩) (k + m) q2) (k + m) (cellsI (two A B)) := by
    rw [HT.out, cellsI_append]; exact hown2
  obtain ⟨A5, c5, e5, hR5⟩ := RowI.own hown3
  cases e5
  have G5 := keep_below G B2
  have CT := Lib.hid (worst_any (some ⟨g2, 0, none⟩) (k + m) q2 (two A B) w5 hR5 (HNm.out.below G5))
  clear hown2 hown3 hgrow2 B1 hR5 HO1 HRB4 s4 HRB
  go_wp2_with fail
  refine CT.out.mono ?_
  rintro e w6 ⟨rfl, hb6⟩
  have B6 := keep_below B2 hb6
  have G6 := keep_below G5 hb6
  have HO3 : Hid ((w6.alloc (.cells #[.int .i64 21, .int .i64 nn, .int .i64 0] 37)).ownsRow w6.heap.size 37 3 (.slice (some ⟨w6.heap.size, 0, none⟩) 1 1) 1 [.int .i64 21, .int .i64 nn, .int .i64 0]) :=
    World.ownsRow_lit (base := w6.heap.size) (e := 37) (size := 3) w6 _ 1 (Nat.le_refl _) (by unfold maxLen; omega) rfl
  have E0 := below_alloc w6 (.cells #[.int .i64 21, .int .i64 nn, .int .i64 0] 37)
  have hcc := HcA.out _ (keep_below B6 E0)
  clear CT hb6 G5
  go_wp2_with (at_builtin; refine wpList_append_own _ rfl _ _ 22 rfl w6.heap.size 37 i0 (.agg #[.int .i64 0, .int .i64 0, .int .i64 0]) 3 24 Tryd.underlying22 hi hz0 hz1 hz2 rfl (by decide) _ _ _ rfl HO3.out ⟨b3, o3, none⟩ k c (cellsI (A.take k)) rfl hLl hcc (cellsI_one (A.take k)) ?c3 ?c4 ?c5 ?_)
  case c3 => unfold maxLen; omega
  case c4 => omega
  case c5 => simp
  intro v3 w7 hown4 hgrow4 _
  have E1 : Below w6.heap.size w6 w7 := E0.grown hgrow4 (by simp) (fun g hg => by simp [Value.ownBlock] at hg; omega)
  have hv3 : ∀ g, v3.ownBlock = some g → w6.heap.size ≤ g := fun g hg => (hown4.lt g hg).1
  have hown5 : w7.ownsRow w6.heap.size 37 3 v3 (1 + k) (cellsI ([(21, nn, 0)] ++ A.take k)) := by rw [cellsI_append]; exact hown4
  obtain ⟨g3, q3, rfl⟩ := own_addr hown5 (by omega)
  clear hgrow4 HO3 hown4 E0 hcc
  have E1s := E1.size
  have HC4 : Hid (∀ j u, ([.int .i64 22, .int .i64 0, .int .i64 0, .int .i64 25, .int .i64 0, .int .i64 0] : List Value)[j]? = some u → (w7.alloc (.cells #[.int .i64 22, .int .i64 0, .int .i64 0, .int .i64 25, .int .i64 0, .int .i64 0] 37)).cell? ((⟨w7.heap.size, 0, none⟩ : Addr).add j) = some u) := by
    intro j u hj
    rw [add_plain', Nat.zero_add, Lib.cell_of_heap (new_block w7 _) j]
    simpa using hj
  have HC5 : Hid (∀ u ∈ ([.int .i64 22, .int .i64 0, .int .i64 0, .int .i64 25, .int .i64 0, .int .i64 0] : List Value), u.oneCell' = true) := by
    intro u hu
    simp at hu
    rcases hu with rfl | rfl | rfl | rfl <;> rfl
  have HO6 := Lib.hid (hown5.alloc (.cells #[.int .i64 22, .int .i64 0, .int .i64 0, .int .i64 25, .int .i64 0, .int .i64 0] 37))
  clear hown5
  go_wp2_with (at_builtin; refine wpList_append_own _ rfl _ _ 22 rfl w6.heap.size 37 i0 (.agg #[.int .i64 0, .int .i64 0, .int .i64 0]) 3 24 Tryd.underlying22 hi hz0 hz1 hz2 rfl (by decide) _ _ _ rfl HO6.out ⟨w7.heap.size, 0, none⟩ 2 2 [.int .i64 22, .int .i64 0, .int .i64 0, .int .i64 25, .int .i64 0, .int .i64 0] rfl rfl HC4.out HC5.out ?c3 ?c4 ?c5 ?_)
  case c3 => unfold maxLen; omega
  case c4 => omega
  case c5 => simp; omega
  intro v4 w8 hown7 hgrow7 _
  have E2 : Below w6.heap.size w6 w8 := (E1.alloc E1s _).grown hgrow7 (by simp; omega) hv3
  have hown8 : w8.ownsRow w6.heap.size 37 3 v4 (k + 3) (cellsI (lp nn A)) := by
    rw [HP.out, cellsI_append, show k + 3 = 1 + k + 2 by omega]; exact hown7
  obtain ⟨g4, q4, rfl⟩ := own_addr hown8 (by omega)
  obtain ⟨A8, c8, e8, hR8⟩ := RowI.own hown8
  cases e8
  have G8 := keep_below G6 E2
  have CP := Lib.hid (worst_any (some ⟨g4, 0, none⟩) (k + 3) q4 (lp nn A) w8 hR8 (HNm.out.below G8))
  clear hown7 hown8 hgrow7 E1 E2 hR8 HO6 HC4 HC5 E1s hv3 B6 B2 G6 HcA hLl hadl HRA G HT HP HNm
  go_upto_region 11 with (first | (go_at_call 9; refine CP.out.mono ?_; rintro e w9 ⟨rfl, hb9⟩))
  have G9 := keep_below G8 hb9
  clear CP G8 hb9
  generalize cE true A = f0 at HF ⊢
  generalize cE true B = f1 at HF ⊢
  generalize cE true (two A B) = f2 at HF ⊢
  generalize cE true (lp nn A) = f3 at HF ⊢
  generalize cW true A = u0 at HF ⊢
  generalize cW true B = u1 at HF ⊢
  generalize cW true (two A B) = u2 at HF ⊢
  generalize cW true (lp nn A) = u3 at HF ⊢
  cases z0 : (f0 == 0)
  · have y0 : (f0 != 0) = true := by simp [bne, z0]
    clear HF
    go_wp2_with (first | (go_at_call 8; refine (KN.out _ G9).mono ?_; rintro e w7 ⟨rfl, hb7⟩))
    go_ret
    exact ⟨rfl, keep_below G9 hb7⟩
  have y0 : (f0 != 0) = false := by simp [bne, z0]
  cases z1 : (f1 == 0)
  · have y1 : (f1 != 0) = true := by simp [bne, z1]
    clear HF
    go_wp2_with (first | (go_at_call 8; refine (KN.out _ G9).mono ?_; rintro e w7 ⟨rfl, hb7⟩))
    go_ret
    exact ⟨rfl, keep_below G9 hb7⟩
  have y1 : (f1 != 0) = false := by simp [bne, z1]
  obtain ⟨⟨m1, m2, m3, m4⟩, m5, m6⟩ := HF.out (by simpa using z0) (by simpa using z1)
  have hP0 : 1 * 1 ≤ nn * u0 := Int.mul_le_mul (by omega) (by omega) (by omega) (by omega)
  have hP1 : nn * u0 ≤ 9 * 1048576 := Int.mul_le_mul (by omega) (by omega) (by omega) (by omega)
  have r1 : IntKind.i64.wrap (u0 + u1) = u0 + u1 := IntWalk.i64_in _ (by omega)
  have r2 : decide (1073741824 < u0 + u1) = false := by rw [decide_eq_false_iff_not]; omega
  have r3 : IntKind.i64.wrap (u0 + u1 - 1) = u0 + u1 - 1 := IntWalk.i64_in _ (by omega)
  obtain ⟨P, hP⟩ : ∃ P, P = nn * u0 := ⟨_, rfl⟩
  rw [← hP] at m6 hP0 hP1
  have r4 : IntKind.i64.wrap (nn * u0) = P := by rw [← hP]; exact IntWalk.i64_in _ (by omega)
  have r5 : IntKind.i64.wrap (P + 2) = P + 2 := IntWalk.i64_in _ (by omega)
  clear HF hP
  cases z2 : (f2 == 0)
  · have y2 : (f2 != 0) = true := by simp [bne, z2]
    clear m5
    cases z3 : (f3 == 0)
    · have y3 : (f3 != 0) = true := by simp [bne, z3]
      clear m6
      go_wp2_with (first | (go_at_call 8; refine (KN.out _ G9).mono ?_; rintro e w7 ⟨rfl, hb7⟩))
      go_ret
      exact ⟨rfl, keep_below G9 hb7⟩
    · have y3 : (f3 != 0) = false := by simp [bne, z3]
      obtain rfl := m6 (by simpa using z3)
      have y4 : (P + 2 == P + 2) = true := by simp
      clear m6
      go_wp2_with (first | (go_at_call 8; refine (KN.out _ G9).mono ?_; rintro e w7 ⟨rfl, hb7⟩))
      go_ret
      exact ⟨rfl, keep_below G9 hb7⟩
  · have y2 : (f2 != 0) = false := by simp [bne, z2]
    obtain rfl := m5 (by simpa using z2)
    have y5 : (u0 + u1 - 1 == u0 + u1 - 1) = true := by simp
    clear m5
    cases z3 : (f3 == 0)
    · have y3 : (f3 != 0) = true := by simp [bne, z3]
      clear m6
      go_wp2_with (first | (go_at_call 8; refine (KN.out _ G9).mono ?_; rintro e w7 ⟨rfl, hb7⟩))
      go_ret
      exact ⟨rfl, keep_below G9 hb7⟩
    · have y3 : (f3 != 0) = false := by simp [bne, z3]
      obtain rfl := m6 (by simpa using z3)
      have y4 : (P + 2 == P + 2) = true := by simp
      clear m6
      go_wp2_with (first | (go_at_call 8; refine (KN.out _ G9).mono ?_; rintro e w7 ⟨rfl, hb7⟩))
      go_ret
      exact ⟨rfl, keep_below G9 hb7⟩
set_option maxHeartbeats 2000000 in
set_option maxRecDepth 100000 in
theorem sums_walk (a b : Option Addr) (n m c d : Nat) (A B : List (Int × Int × Int)) (r : Int) (z0 : n ≤ 6000000000000) (z1 : m ≤ 6000000000000) (q0 : n ≤ c) (hr8 : (Lit.int .u8 r).wf = true) (w : World) (hA : RowI w a n A) (hB : RowI w b m B) (hN : Nms w) :
    Calls Tryd.prog 4 #[.slice a n c, .slice b m d, .int .u8 r] w fun e w' => e = .returned (.bool true) ∧ Below w.heap.size w w' := by
  have hr0 : 0 ≤ r ∧ r ≤ 255 := by
    have := bounds_u8 hr8
    omega
  have HNm := Lib.hid hN
  have KN := Lib.hid (fun W (h : Below w.heap.size w W) => known9_any W (HNm.out.below h))
  by_cases h1 : n < 1
  · have e2 : decide ((n : Int) < 1) = true := by rw [decide_eq_true_iff]; omega
    clear hA hB hN
    go_enter Tryd.func4, Tryd.ntmps4
    go_wp2_with (go_at_call 8; refine (KN.out _ (Below.refl _ _)).mono ?_; rintro e w1 ⟨rfl, hb1⟩)
    go_ret
    exact ⟨rfl, hb1⟩
  have e2 : decide ((n : Int) < 1) = false := by rw [decide_eq_false_iff_not]; omega
  have hsm : IntKind.i64.wrap ((n : Int) + (m : Int)) = (n : Int) + (m : Int) := IntWalk.i64_in _ (by omega)
  by_cases h190 : 190 < n + m
  · have e3 : decide ((190 : Int) < (n : Int) + (m : Int)) = true := by rw [decide_eq_true_iff]; omega
    clear hA hB hN
    go_enter Tryd.func4, Tryd.ntmps4
    go_wp2_with (go_at_call 8; refine (KN.out _ (Below.refl _ _)).mono ?_; rintro e w1 ⟨rfl, hb1⟩)
    go_ret
    exact ⟨rfl, hb1⟩
  obtain ⟨k, rfl⟩ : ∃ k, n = k + 1 := ⟨n - 1, by omega⟩
  have ht := Int.tmod_nonneg 9 hr0.1
  have ht2 := Int.tmod_lt_of_pos r (show (0 : Int) < 9 by omega)
  exact sums_main a b k m c d A B r (1 + Int.tmod r 9) (Int.tmod r 9) hr0 rfl ⟨ht, ht2⟩ rfl (by omega) q0 w hN hA hB
end Go.Proofs.YtacgnofmccennaaDoor
