/- What is proved here: the walk of NestParts. Condition: the table of names holds what its initialiser lays ('Nms'). -/
import Derived.Test.YtncnofcgpiaadaaDoorAp
import Derived.Test.YtncnofcgpiaadaaDoorNest4
namespace Go.Proofs.YtncnofcgpiaadaaDoor
open Go.ChangeShapes Go.WideShapes Go.RowKit

theorem two_at {A B : List (Int × Int × Int)} {k : Nat} (h : k + 1 = A.length) : two A B = A.take k ++ B := by
  unfold two; rw [← h]; rfl
theorem lA_len' (L : List (Int × Int × Int)) : (lA L).length ≤ L.length := by
  unfold lA; split
  · exact lks_len _ _
  · simp
theorem lA_some {L : List (Int × Int × Int)} (h : lE L = 0) : lA L = lks L L.length := by unfold lA; rw [if_pos h]
set_option maxHeartbeats 4000000 in
set_option maxRecDepth 100000 in
theorem parts_one (a b : Option Addr) (k m c d : Nat) (A B : List (Int × Int × Int)) (hn : k + 1 + m ≤ 190) (hm0 : 0 < m) (hkc : k ≤ c) (w : World) (HN : Hid (Nms w)) (HA : Hid (RowI w a (k + 1) A)) (HB : Hid (RowI w b m B)) (HWA : Hid (wE A = 0)) (HWB : Hid (wE B = 0)) (HW2 : Hid (wE (two A B) = 0))
    (x y z : List Int) (ea eb : Int) (XA : Hid (lA A = x)) (XB : Hid (lA B = y)) (EA : Hid (lE A = ea)) (EB : Hid (lE B = eb)) (X2 : Hid (lA (two A B) = z)) (E2 : Hid (lE (two A B) = 11)) (h1 : (ea != 0) = true) :
    Calls Tryd.prog 8 #[.slice a (k + 1) c, .slice b m d] w fun e w' => e = .returned (.bool true) ∧ Below w.heap.size w w' := by
  obtain ⟨i0, hi, hz0, hz1, hz2⟩ := info_parts ins_info
  have CK := Lib.hid known_any
  have d0 : decide ((k : Int) + 1 < 1) = false := by rw [decide_eq_false_iff_not]; omega
  have hkc' : (k : Int) ≤ (c : Int) := by omega
  have d1 : decide ((190 : Int) < (k : Int) + 1 + m) = false := by rw [decide_eq_false_iff_not]; omega
  have hw1 : IntKind.i64.wrap ((k : Int) + 1 + m) = (k : Int) + 1 + m := IntWalk.i64_in _ (by omega)
  have HT : Hid (two A B = A.take k ++ B) := two_at HA.out.1
  go_enter Tryd.func8, Tryd.ntmps8
  go_wp2_with fail
  refine (whole_at HWA.out _ HA.out HN.out).mono ?_; rintro e w1 ⟨rfl, hb⟩
  have G := hb
  replace HA := Lib.hid (HA.out.below hb); replace HB := Lib.hid (HB.out.below hb); clear hb
  go_wp2_with fail
  refine (whole_at HWB.out _ HB.out (HN.out.below G)).mono ?_; rintro e w2 ⟨rfl, hb⟩
  replace G := keep_below G hb; replace HA := Lib.hid (HA.out.below hb); replace HB := Lib.hid (HB.out.below hb); clear hb
  clear hw1
  obtain ⟨b1, o1, rfl, hadl, _⟩ := HA.out.2 (by omega)
  obtain ⟨b2, o2, rfl, hbdl, _⟩ := HB.out.2 hm0
  have hLl : (cellsI (A.take k)).length = k * 3 := by rw [cellsI_length, List.length_take, ← HA.out.1]; omega
  have hMl : (cellsI B).length = m * 3 := by rw [cellsI_length, ← HB.out.1]
  have HO : Hid ((w2.alloc (.cells #[] 32)).ownsRow w2.heap.size 32 3 (.slice (some ⟨w2.heap.size, 0, none⟩) 0 0) 0 []) := by
    refine ⟨by simp, Or.inr ⟨w2.heap.size, 0, #[], rfl, Nat.le_refl _, new_block _ _, by omega, by unfold maxLen; omega, rfl, rfl⟩⟩
  have HcA : Hid (∀ (W : World), Below w2.heap.size w2 W → ∀ j u, (cellsI (A.take k))[j]? = some u → W.cell? ((⟨b1, o1, none⟩ : Addr).add j) = some u) := fun W hW => ((HA.out.take (m := k) (by omega)).below hW).cells rfl
  have HcB : Hid (∀ (W : World), Below w2.heap.size w2 W → ∀ j u, (cellsI B)[j]? = some u → W.cell? ((⟨b2, o2, none⟩ : Addr).add j) = some u) := fun W hW => (HB.out.below hW).cells rfl
  have B0 := below_alloc w2 (.cells #[] 32)
  go_wp2_with (at_builtin; refine wpList_append_own _ rfl _ _ 22 rfl w2.heap.size 32 i0 (.agg #[.int .i64 0, .int .i64 0, .int .i64 0]) 3 24 Tryd.underlying22 hi hz0 hz1 hz2 rfl (by decide) _ _ _ rfl HO.out ⟨b1, o1, none⟩ k c (cellsI (A.take k)) rfl hLl (HcA.out _ B0) (cellsI_one (A.take k)) ?c3 ?c4 ?c5 ?_)
  case c3 => unfold maxLen; omega
  case c4 => omega
  case c5 => simp
  intro v1 w4 hown1 hgrow1 _
  have B1 : Below w2.heap.size w2 w4 := B0.grown hgrow1 (by simp) (fun g hg => by simp [Value.ownBlock] at hg; omega)
  have hv1 : ∀ g, v1.ownBlock = some g → w2.heap.size ≤ g := fun g hg => (hown1.lt g hg).1
  obtain ⟨A1, c1, rfl, _⟩ := RowI.own hown1
  clear hgrow1 HO
  go_wp2_with (at_builtin; refine wpList_append_own _ rfl _ _ 22 rfl w2.heap.size 32 i0 (.agg #[.int .i64 0, .int .i64 0, .int .i64 0]) 3 24 Tryd.underlying22 hi hz0 hz1 hz2 rfl (by decide) _ _ _ rfl hown1 ⟨b2, o2, none⟩ m d (cellsI B) rfl hMl (HcB.out _ B1) (cellsI_one B) ?c3 ?c4 ?c5 ?_)
  case c3 => unfold maxLen; omega
  case c4 => omega
  case c5 => exact B1.size
  intro v2 w5 hown2 hgrow2 _
  have B2 : Below w2.heap.size w2 w5 := B1.grown hgrow2 B1.size hv1
  have hown3 : w5.ownsRow w2.heap.size 32 3 v2 (k + m) (cellsI (two A B)) := by
    have := hown2
    rw [HT.out, cellsI_append]
    simpa using this
  obtain ⟨A5, c5, rfl, hR5⟩ := RowI.own hown3
  have HR5 := Lib.hid hR5
  replace HA := Lib.hid (HA.out.below B2); replace HB := Lib.hid (HB.out.below B2)
  replace G := keep_below G B2
  clear hown1 hown2 hown3 hgrow2 B0 B1 B2 hR5 hv1 HcA HcB hLl hMl hadl hbdl
  go_wp2_with fail
  refine (locks_at XA.out EA.out _ HA.out (HN.out.below G)).mono ?_; rintro e w6 ⟨a6, n6, c6, rfl, r6, hb⟩
  replace G := keep_below G hb; replace HB := Lib.hid (HB.out.below hb); replace HR5 := Lib.hid (HR5.out.below hb); clear hb
  have HR6 := Lib.hid r6; clear r6
  go_wp2_with fail
  refine (locks_at XB.out EB.out _ HB.out (HN.out.below G)).mono ?_; rintro e w7 ⟨a7, n7, c7, rfl, r7, hb⟩
  replace G := keep_below G hb; replace HR5 := Lib.hid (HR5.out.below hb); replace HR6 := Lib.hid (HR6.out.below hb); clear hb
  have HR7 := Lib.hid r7; clear r7
  go_wp2_with fail
  refine (locks_at X2.out E2.out _ HR5.out (HN.out.below G)).mono ?_; rintro e w8 ⟨a8, n8, c8, rfl, r8, hb⟩
  replace G := keep_below G hb; replace HR5 := Lib.hid (HR5.out.below hb); replace HR6 := Lib.hid (HR6.out.below hb); replace HR7 := Lib.hid (HR7.out.below hb); clear hb
  have HR8 := Lib.hid r8; clear r8
  go_wp2_with fail
  refine (whole_at HW2.out _ HR5.out (HN.out.below G)).mono ?_; rintro e w9 ⟨rfl, hb⟩
  replace G := keep_below G hb; replace HR6 := Lib.hid (HR6.out.below hb); replace HR7 := Lib.hid (HR7.out.below hb); replace HR8 := Lib.hid (HR8.out.below hb); clear hb HR5
  go_wp2_with (go_at_call 10; refine (CK.out _ (HN.out.below G)).mono ?_; rintro e w10 ⟨rfl, hb⟩)
  go_ret
  exact ⟨rfl, keep_below G hb⟩
set_option maxHeartbeats 4000000 in
set_option maxRecDepth 100000 in
theorem parts_two (a b : Option Addr) (k m c d : Nat) (A B : List (Int × Int × Int)) (hn : k + 1 + m ≤ 190) (hm0 : 0 < m) (hkc : k ≤ c) (w : World) (HN : Hid (Nms w)) (HA : Hid (RowI w a (k + 1) A)) (HB : Hid (RowI w b m B)) (HWA : Hid (wE A = 0)) (HWB : Hid (wE B = 0)) (HW2 : Hid (wE (two A B) = 0))
    (x y z : List Int) (eb : Int) (XA : Hid (lA A = x)) (XB : Hid (lA B = y)) (EA : Hid (lE A = 0)) (EB : Hid (lE B = eb)) (X2 : Hid (lA (two A B) = z)) (E2 : Hid (lE (two A B) = 11)) (h1 : (eb != 0) = true) :
    Calls Tryd.prog 8 #[.slice a (k + 1) c, .slice b m d] w fun e w' => e = .returned (.bool true) ∧ Below w.heap.size w w' := by
  obtain ⟨i0, hi, hz0, hz1, hz2⟩ := info_parts ins_info
  have CK := Lib.hid known_any
  have d0 : decide ((k : Int) + 1 < 1) = false := by rw [decide_eq_false_iff_not]; omega
  have hkc' : (k : Int) ≤ (c : Int) := by omega
  have d1 : decide ((190 : Int) < (k : Int) + 1 + m) = false := by rw [decide_eq_false_iff_not]; omega
  have hw1 : IntKind.i64.wrap ((k : Int) + 1 + m) = (k : Int) + 1 + m := IntWalk.i64_in _ (by omega)
  have HT : Hid (two A B = A.take k ++ B) := two_at HA.out.1
  go_enter Tryd.func8, Tryd.ntmps8
  go_wp2_with fail
  refine (whole_at HWA.out _ HA.out HN.out).mono ?_; rintro e w1 ⟨rfl, hb⟩
  have G := hb
  replace HA := Lib.hid (HA.out.below hb); replace HB := Lib.hid (HB.out.below hb); clear hb
  go_wp2_with fail
  refine (whole_at HWB.out _ HB.out (HN.out.below G)).mono ?_; rintro e w2 ⟨rfl, hb⟩
  replace G := keep_below G hb; replace HA := Lib.hid (HA.out.below hb); replace HB := Lib.hid (HB.out.below hb); clear hb
  clear hw1
  obtain ⟨b1, o1, rfl, hadl, _⟩ := HA.out.2 (by omega)
  obtain ⟨b2, o2, rfl, hbdl, _⟩ := HB.out.2 hm0
  have hLl : (cellsI (A.take k)).length = k * 3 := by rw [cellsI_length, List.length_take, ← HA.out.1]; omega
  have hMl : (cellsI B).length = m * 3 := by rw [cellsI_length, ← HB.out.1]
  have HO : Hid ((w2.alloc (.cells #[] 32)).ownsRow w2.heap.size 32 3 (.slice (some ⟨w2.heap.size, 0, none⟩) 0 0) 0 []) := by
    refine ⟨by simp, Or.inr ⟨w2.heap.size, 0, #[], rfl, Nat.le_refl _, new_block _ _, by omega, by unfold maxLen; omega, rfl, rfl⟩⟩
  have HcA : Hid (∀ (W : World), Below w2.heap.size w2 W → ∀ j u, (cellsI (A.take k))[j]? = some u → W.cell? ((⟨b1, o1, none⟩ : Addr).add j) = some u) := fun W hW => ((HA.out.take (m := k) (by omega)).below hW).cells rfl
  have HcB : Hid (∀ (W : World), Below w2.heap.size w2 W → ∀ j u, (cellsI B)[j]? = some u → W.cell? ((⟨b2, o2, none⟩ : Addr).add j) = some u) := fun W hW => (HB.out.below hW).cells rfl
  have B0 := below_alloc w2 (.cells #[] 32)
  go_wp2_with (at_builtin; refine wpList_append_own _ rfl _ _ 22 rfl w2.heap.size 32 i0 (.agg #[.int .i64 0, .int .i64 0, .int .i64 0]) 3 24 Tryd.underlying22 hi hz0 hz1 hz2 rfl (by decide) _ _ _ rfl HO.out ⟨b1, o1, none⟩ k c (cellsI (A.take k)) rfl hLl (HcA.out _ B0) (cellsI_one (A.take k)) ?c3 ?c4 ?c5 ?_)
  case c3 => unfold maxLen; omega
  case c4 => omega
  case c5 => simp
  intro v1 w4 hown1 hgrow1 _
  have B1 : Below w2.heap.size w2 w4 := B0.grown hgrow1 (by simp) (fun g hg => by simp [Value.ownBlock] at hg; omega)
  have hv1 : ∀ g, v1.ownBlock = some g → w2.heap.size ≤ g := fun g hg => (hown1.lt g hg).1
  obtain ⟨A1, c1, rfl, _⟩ := RowI.own hown1
  clear hgrow1 HO
  go_wp2_with (at_builtin; refine wpList_append_own _ rfl _ _ 22 rfl w2.heap.size 32 i0 (.agg #[.int .i64 0, .int .i64 0, .int .i64 0]) 3 24 Tryd.underlying22 hi hz0 hz1 hz2 rfl (by decide) _ _ _ rfl hown1 ⟨b2, o2, none⟩ m d (cellsI B) rfl hMl (HcB.out _ B1) (cellsI_one B) ?c3 ?c4 ?c5 ?_)
  case c3 => unfold maxLen; omega
  case c4 => omega
  case c5 => exact B1.size
  intro v2 w5 hown2 hgrow2 _
  have B2 : Below w2.heap.size w2 w5 := B1.grown hgrow2 B1.size hv1
  have hown3 : w5.ownsRow w2.heap.size 32 3 v2 (k + m) (cellsI (two A B)) := by
    have := hown2
    rw [HT.out, cellsI_append]
    simpa using this
  obtain ⟨A5, c5, rfl, hR5⟩ := RowI.own hown3
  have HR5 := Lib.hid hR5
  replace HA := Lib.hid (HA.out.below B2); replace HB := Lib.hid (HB.out.below B2)
  replace G := keep_below G B2
  clear hown1 hown2 hown3 hgrow2 B0 B1 B2 hR5 hv1 HcA HcB hLl hMl hadl hbdl
  go_wp2_with fail
  refine (locks_at XA.out EA.out _ HA.out (HN.out.below G)).mono ?_; rintro e w6 ⟨a6, n6, c6, rfl, r6, hb⟩
  replace G := keep_below G hb; replace HB := Lib.hid (HB.out.below hb); replace HR5 := Lib.hid (HR5.out.below hb); clear hb
  have HR6 := Lib.hid r6; clear r6
  go_wp2_with fail
  refine (locks_at XB.out EB.out _ HB.out (HN.out.below G)).mono ?_; rintro e w7 ⟨a7, n7, c7, rfl, r7, hb⟩
  replace G := keep_below G hb; replace HR5 := Lib.hid (HR5.out.below hb); replace HR6 := Lib.hid (HR6.out.below hb); clear hb
  have HR7 := Lib.hid r7; clear r7
  go_wp2_with fail
  refine (locks_at X2.out E2.out _ HR5.out (HN.out.below G)).mono ?_; rintro e w8 ⟨a8, n8, c8, rfl, r8, hb⟩
  replace G := keep_below G hb; replace HR5 := Lib.hid (HR5.out.below hb); replace HR6 := Lib.hid (HR6.out.below hb); replace HR7 := Lib.hid (HR7.out.below hb); clear hb
  have HR8 := Lib.hid r8; clear r8
  go_wp2_with fail
  refine (whole_at HW2.out _ HR5.out (HN.out.below G)).mono ?_; rintro e w9 ⟨rfl, hb⟩
  replace G := keep_below G hb; replace HR6 := Lib.hid (HR6.out.below hb); replace HR7 := Lib.hid (HR7.out.below hb); replace HR8 := Lib.hid (HR8.out.below hb); clear hb HR5
  go_wp2_with (go_at_call 10; refine (CK.out _ (HN.out.below G)).mono ?_; rintro e w10 ⟨rfl, hb⟩)
  go_ret
  exact ⟨rfl, keep_below G hb⟩
set_option maxHeartbeats 4000000 in
set_option maxRecDepth 100000 in
theorem parts_lock (a b : Option Addr) (k m c d : Nat) (A B : List (Int × Int × Int)) (hn : k + 1 + m ≤ 190) (hm0 : 0 < m) (hkc : k ≤ c) (w : World) (HN : Hid (Nms w)) (HA : Hid (RowI w a (k + 1) A)) (HB : Hid (RowI w b m B)) (HWA : Hid (wE A = 0)) (HWB : Hid (wE B = 0)) (HW2 : Hid (wE (two A B) = 0))
    (x y z : List Int) (XA : Hid (lA A = x)) (XB : Hid (lA B = y)) (EA : Hid (lE A = 0)) (EB : Hid (lE B = 0)) (X2 : Hid (lA (two A B) = z)) (E2 : Hid (lE (two A B) = 11)) (hx : 0 < x.length) (hy : 0 < y.length) :
    Calls Tryd.prog 8 #[.slice a (k + 1) c, .slice b m d] w fun e w' => e = .returned (.bool true) ∧ Below w.heap.size w w' := by
  obtain ⟨i0, hi, hz0, hz1, hz2⟩ := info_parts ins_info
  have CK := Lib.hid known_any
  have d0 : decide ((k : Int) + 1 < 1) = false := by rw [decide_eq_false_iff_not]; omega
  have hkc' : (k : Int) ≤ (c : Int) := by omega
  have d1 : decide ((190 : Int) < (k : Int) + 1 + m) = false := by rw [decide_eq_false_iff_not]; omega
  have hw1 : IntKind.i64.wrap ((k : Int) + 1 + m) = (k : Int) + 1 + m := IntWalk.i64_in _ (by omega)
  have HT : Hid (two A B = A.take k ++ B) := two_at HA.out.1
  go_enter Tryd.func8, Tryd.ntmps8
  go_wp2_with fail
  refine (whole_at HWA.out _ HA.out HN.out).mono ?_; rintro e w1 ⟨rfl, hb⟩
  have G := hb
  replace HA := Lib.hid (HA.out.below hb); replace HB := Lib.hid (HB.out.below hb); clear hb
  go_wp2_with fail
  refine (whole_at HWB.out _ HB.out (HN.out.below G)).mono ?_; rintro e w2 ⟨rfl, hb⟩
  replace G := keep_below G hb; replace HA := Lib.hid (HA.out.below hb); replace HB := Lib.hid (HB.out.below hb); clear hb
  clear hw1
  obtain ⟨b1, o1, rfl, hadl, _⟩ := HA.out.2 (by omega)
  obtain ⟨b2, o2, rfl, hbdl, _⟩ := HB.out.2 hm0
  have hLl : (cellsI (A.take k)).length = k * 3 := by rw [cellsI_length, List.length_take, ← HA.out.1]; omega
  have hMl : (cellsI B).length = m * 3 := by rw [cellsI_length, ← HB.out.1]
  have HO : Hid ((w2.alloc (.cells #[] 32)).ownsRow w2.heap.size 32 3 (.slice (some ⟨w2.heap.size, 0, none⟩) 0 0) 0 []) := by
    refine ⟨by simp, Or.inr ⟨w2.heap.size, 0, #[], rfl, Nat.le_refl _, new_block _ _, by omega, by unfold maxLen; omega, rfl, rfl⟩⟩
  have HcA : Hid (∀ (W : World), Below w2.heap.size w2 W → ∀ j u, (cellsI (A.take k))[j]? = some u → W.cell? ((⟨b1, o1, none⟩ : Addr).add j) = some u) := fun W hW => ((HA.out.take (m := k) (by omega)).below hW).cells rfl
  have HcB : Hid (∀ (W : World), Below w2.heap.size w2 W → ∀ j u, (cellsI B)[j]? = some u → W.cell? ((⟨b2, o2, none⟩ : Addr).add j) = some u) := fun W hW => (HB.out.below hW).cells rfl
  have B0 := below_alloc w2 (.cells #[] 32)
  go_wp2_with (at_builtin; refine wpList_append_own _ rfl _ _ 22 rfl w2.heap.size 32 i0 (.agg #[.int .i64 0, .int .i64 0, .int .i64 0]) 3 24 Tryd.underlying22 hi hz0 hz1 hz2 rfl (by decide) _ _ _ rfl HO.out ⟨b1, o1, none⟩ k c (cellsI (A.take k)) rfl hLl (HcA.out _ B0) (cellsI_one (A.take k)) ?c3 ?c4 ?c5 ?_)
  case c3 => unfold maxLen; omega
  case c4 => omega
  case c5 => simp
  intro v1 w4 hown1 hgrow1 _
  have B1 : Below w2.heap.size w2 w4 := B0.grown hgrow1 (by simp) (fun g hg => by simp [Value.ownBlock] at hg; omega)
  have hv1 : ∀ g, v1.ownBlock = some g → w2.heap.size ≤ g := fun g hg => (hown1.lt g hg).1
  obtain ⟨A1, c1, rfl, _⟩ := RowI.own hown1
  clear hgrow1 HO
  go_wp2_with (at_builtin; refine wpList_append_own _ rfl _ _ 22 rfl w2.heap.size 32 i0 (.agg #[.int .i64 0, .int .i64 0, .int .i64 0]) 3 24 Tryd.underlying22 hi hz0 hz1 hz2 rfl (by decide) _ _ _ rfl hown1 ⟨b2, o2, none⟩ m d (cellsI B) rfl hMl (HcB.out _ B1) (cellsI_one B) ?c3 ?c4 ?c5 ?_)
  case c3 => unfold maxLen; omega
  case c4 => omega
  case c5 => exact B1.size
  intro v2 w5 hown2 hgrow2 _
  have B2 : Below w2.heap.size w2 w5 := B1.grown hgrow2 B1.size hv1
  have hown3 : w5.ownsRow w2.heap.size 32 3 v2 (k + m) (cellsI (two A B)) := by
    have := hown2
    rw [HT.out, cellsI_append]
    simpa using this
  obtain ⟨A5, c5, rfl, hR5⟩ := RowI.own hown3
  have HR5 := Lib.hid hR5
  replace HA := Lib.hid (HA.out.below B2); replace HB := Lib.hid (HB.out.below B2)
  replace G := keep_below G B2
  clear hown1 hown2 hown3 hgrow2 B0 B1 B2 hR5 hv1 HcA HcB hLl hMl hadl hbdl
  go_wp2_with fail
  refine (locks_at XA.out EA.out _ HA.out (HN.out.below G)).mono ?_; rintro e w6 ⟨a6, n6, c6, rfl, r6, hb⟩
  replace G := keep_below G hb; replace HB := Lib.hid (HB.out.below hb); replace HR5 := Lib.hid (HR5.out.below hb); clear hb
  have HR6 := Lib.hid r6; clear r6
  go_wp2_with fail
  refine (locks_at XB.out EB.out _ HB.out (HN.out.below G)).mono ?_; rintro e w7 ⟨a7, n7, c7, rfl, r7, hb⟩
  replace G := keep_below G hb; replace HR5 := Lib.hid (HR5.out.below hb); replace HR6 := Lib.hid (HR6.out.below hb); clear hb
  have HR7 := Lib.hid r7; clear r7
  go_wp2_with fail
  refine (locks_at X2.out E2.out _ HR5.out (HN.out.below G)).mono ?_; rintro e w8 ⟨a8, n8, c8, rfl, r8, hb⟩
  replace G := keep_below G hb; replace HR5 := Lib.hid (HR5.out.below hb); replace HR6 := Lib.hid (HR6.out.below hb); replace HR7 := Lib.hid (HR7.out.below hb); clear hb
  have HR8 := Lib.hid r8; clear r8
  go_wp2_with fail
  refine (whole_at HW2.out _ HR5.out (HN.out.below G)).mono ?_; rintro e w9 ⟨rfl, hb⟩
  replace G := keep_below G hb; replace HR6 := Lib.hid (HR6.out.below hb); replace HR7 := Lib.hid (HR7.out.below hb); replace HR8 := Lib.hid (HR8.out.below hb); clear hb HR5
  have h6 : (0 : Int) < (n6 : Int) := by have := HR6.out.1; omega
  have h7 : (0 : Int) < (n7 : Int) := by have := HR7.out.1; omega
  have h6' : 0 < n6 := by omega
  have h7' : 0 < n7 := by omega
  go_wp2_with (go_at_call 10; refine (CK.out _ (HN.out.below G)).mono ?_; rintro e w10 ⟨rfl, hb⟩)
  go_ret
  exact ⟨rfl, keep_below G hb⟩
set_option maxHeartbeats 4000000 in
set_option maxRecDepth 100000 in
theorem parts_ok1 (a b : Option Addr) (k m c d : Nat) (A B : List (Int × Int × Int)) (hn : k + 1 + m ≤ 190) (hm0 : 0 < m) (hkc : k ≤ c) (w : World) (HN : Hid (Nms w)) (HA : Hid (RowI w a (k + 1) A)) (HB : Hid (RowI w b m B)) (HWA : Hid (wE A = 0)) (HWB : Hid (wE B = 0)) (HW2 : Hid (wE (two A B) = 0))
    (x y : List Int) (XA : Hid (lA A = x)) (XB : Hid (lA B = y)) (EA : Hid (lE A = 0)) (EB : Hid (lE B = 0)) (X2 : Hid (lA (two A B) = x ++ y)) (E2 : Hid (lE (two A B) = 0)) (hx : x.length = 0) (hy2 : y.length ≤ 200) :
    Calls Tryd.prog 8 #[.slice a (k + 1) c, .slice b m d] w fun e w' => e = .returned (.bool true) ∧ Below w.heap.size w w' := by
  obtain ⟨i0, hi, hz0, hz1, hz2⟩ := info_parts ins_info
  have CK := Lib.hid known_any
  have d0 : decide ((k : Int) + 1 < 1) = false := by rw [decide_eq_false_iff_not]; omega
  have hkc' : (k : Int) ≤ (c : Int) := by omega
  have d1 : decide ((190 : Int) < (k : Int) + 1 + m) = false := by rw [decide_eq_false_iff_not]; omega
  have hw1 : IntKind.i64.wrap ((k : Int) + 1 + m) = (k : Int) + 1 + m := IntWalk.i64_in _ (by omega)
  have HT : Hid (two A B = A.take k ++ B) := two_at HA.out.1
  go_enter Tryd.func8, Tryd.ntmps8
  go_wp2_with fail
  refine (whole_at HWA.out _ HA.out HN.out).mono ?_; rintro e w1 ⟨rfl, hb⟩
  have G := hb
  replace HA := Lib.hid (HA.out.below hb); replace HB := Lib.hid (HB.out.below hb); clear hb
  go_wp2_with fail
  refine (whole_at HWB.out _ HB.out (HN.out.below G)).mono ?_; rintro e w2 ⟨rfl, hb⟩
  replace G := keep_below G hb; replace HA := Lib.hid (HA.out.below hb); replace HB := Lib.hid (HB.out.below hb); clear hb
  clear hw1
  obtain ⟨b1, o1, rfl, hadl, _⟩ := HA.out.2 (by omega)
  obtain ⟨b2, o2, rfl, hbdl, _⟩ := HB.out.2 hm0
  have hLl : (cellsI (A.take k)).length = k * 3 := by rw [cellsI_length, List.length_take, ← HA.out.1]; omega
  have hMl : (cellsI B).length = m * 3 := by rw [cellsI_length, ← HB.out.1]
  have HO : Hid ((w2.alloc (.cells #[] 32)).ownsRow w2.heap.size 32 3 (.slice (some ⟨w2.heap.size, 0, none⟩) 0 0) 0 []) := by
    refine ⟨by simp, Or.inr ⟨w2.heap.size, 0, #[], rfl, Nat.le_refl _, new_block _ _, by omega, by unfold maxLen; omega, rfl, rfl⟩⟩
  have HcA : Hid (∀ (W : World), Below w2.heap.size w2 W → ∀ j u, (cellsI (A.take k))[j]? = some u → W.cell? ((⟨b1, o1, none⟩ : Addr).add j) = some u) := fun W hW => ((HA.out.take (m := k) (by omega)).below hW).cells rfl
  have HcB : Hid (∀ (W : World), Below w2.heap.size w2 W → ∀ j u, (cellsI B)[j]? = some u → W.cell? ((⟨b2, o2, none⟩ : Addr).add j) = some u) := fun W hW => (HB.out.below hW).cells rfl
  have B0 := below_alloc w2 (.cells #[] 32)
  go_wp2_with (at_builtin; refine wpList_append_own _ rfl _ _ 22 rfl w2.heap.size 32 i0 (.agg #[.int .i64 0, .int .i64 0, .int .i64 0]) 3 24 Tryd.underlying22 hi hz0 hz1 hz2 rfl (by decide) _ _ _ rfl HO.out ⟨b1, o1, none⟩ k c (cellsI (A.take k)) rfl hLl (HcA.out _ B0) (cellsI_one (A.take k)) ?c3 ?c4 ?c5 ?_)
  case c3 => unfold maxLen; omega
  case c4 => omega
  case c5 => simp
  intro v1 w4 hown1 hgrow1 _
  have B1 : Below w2.heap.size w2 w4 := B0.grown hgrow1 (by simp) (fun g hg => by simp [Value.ownBlock] at hg; omega)
  have hv1 : ∀ g, v1.ownBlock = some g → w2.heap.size ≤ g := fun g hg => (hown1.lt g hg).1
  obtain ⟨A1, c1, rfl, _⟩ := RowI.own hown1
  clear hgrow1 HO
  go_wp2_with (at_builtin; refine wpList_append_own _ rfl _ _ 22 rfl w2.heap.size 32 i0 (.agg #[.int .i64 0, .int .i64 0, .int .i64 0]) 3 24 Tryd.underlying22 hi hz0 hz1 hz2 rfl (by decide) _ _ _ rfl hown1 ⟨b2, o2, none⟩ m d (cellsI B) rfl hMl (HcB.out _ B1) (cellsI_one B) ?c3 ?c4 ?c5 ?_)
  case c3 => unfold maxLen; omega
  case c4 => omega
  case c5 => exact B1.size
  intro v2 w5 hown2 hgrow2 _
  have B2 : Below w2.heap.size w2 w5 := B1.grown hgrow2 B1.size hv1
  have hown3 : w5.ownsRow w2.heap.size 32 3 v2 (k + m) (cellsI (two A B)) := by
    have := hown2
    rw [HT.out, cellsI_append]
    simpa using this
  obtain ⟨A5, c5, rfl, hR5⟩ := RowI.own hown3
  have HR5 := Lib.hid hR5
  replace HA := Lib.hid (HA.out.below B2); replace HB := Lib.hid (HB.out.below B2)
  replace G := keep_below G B2
  clear hown1 hown2 hown3 hgrow2 B0 B1 B2 hR5 hv1 HcA HcB hLl hMl hadl hbdl
  go_wp2_with fail
  refine (locks_at XA.out EA.out _ HA.out (HN.out.below G)).mono ?_; rintro e w6 ⟨a6, n6, c6, rfl, r6, hb⟩
  replace G := keep_below G hb; replace HB := Lib.hid (HB.out.below hb); replace HR5 := Lib.hid (HR5.out.below hb); clear hb
  have HR6 := Lib.hid r6; clear r6
  go_wp2_with fail
  refine (locks_at XB.out EB.out _ HB.out (HN.out.below G)).mono ?_; rintro e w7 ⟨a7, n7, c7, rfl, r7, hb⟩
  replace G := keep_below G hb; replace HR5 := Lib.hid (HR5.out.below hb); replace HR6 := Lib.hid (HR6.out.below hb); clear hb
  have HR7 := Lib.hid r7; clear r7
  go_wp2_with fail
  refine (locks_at X2.out E2.out _ HR5.out (HN.out.below G)).mono ?_; rintro e w8 ⟨a8, n8, c8, rfl, r8, hb⟩
  replace G := keep_below G hb; replace HR5 := Lib.hid (HR5.out.below hb); replace HR6 := Lib.hid (HR6.out.below hb); replace HR7 := Lib.hid (HR7.out.below hb); clear hb
  have HR8 := Lib.hid r8; clear r8
  go_wp2_with fail
  refine (whole_at HW2.out _ HR5.out (HN.out.below G)).mono ?_; rintro e w9 ⟨rfl, hb⟩
  replace G := keep_below G hb; replace HR6 := Lib.hid (HR6.out.below hb); replace HR7 := Lib.hid (HR7.out.below hb); replace HR8 := Lib.hid (HR8.out.below hb); clear hb HR5
  have h6 : decide ((0 : Int) < (n6 : Int)) = false := by rw [decide_eq_false_iff_not]; have := HR6.out.1; omega
  have h6' : decide (0 < n6) = false := by rw [decide_eq_false_iff_not]; have := HR6.out.1; omega
  obtain ⟨j0, hj, hj0, hj1, hj2⟩ := info_parts int_info
  have HO : Hid ((w9.alloc (.cells #[] 3)).ownsRow w9.heap.size 3 1 (.slice (some ⟨w9.heap.size, 0, none⟩) 0 0) 0 []) := by
    refine ⟨by simp, Or.inr ⟨w9.heap.size, 0, #[], rfl, Nat.le_refl _, new_block _ _, by omega, by unfold maxLen; omega, rfl, rfl⟩⟩
  have B0 := below_alloc w9 (.cells #[] 3)
  have hl6 : n6 ≤ 200 := by have := HR6.out.1; omega
  have hl7 : n7 ≤ 200 := by have := HR7.out.1; omega
  go_wp2_with (at_builtin; refine wpList_append_row _ (by rfl) (.tmp 89) (.tmp 90) 24 rfl w9.heap.size j0 Tryd.underlying24 hj hj0 hj1 hj2 w9.heap.size 0 0 [] rfl HO.out a6 n6 c6 x rfl (HR6.out.below B0) (by omega) (by simp) ?_)
  intro g1 p1 w10 hown1 hgrow1
  have B1 : Below w9.heap.size w9 w10 := B0.grown hgrow1 (by simp) (fun g hg => by cases hg; exact Nat.le_refl _)
  have hg1 := (hown1.lt g1 rfl).1
  clear hgrow1 HO
  go_wp2_with (at_builtin; refine wpList_append_row _ (by rfl) (.tmp 91) (.tmp 92) 24 rfl w9.heap.size j0 Tryd.underlying24 hj hj0 hj1 hj2 g1 n6 p1 _ rfl hown1 a7 n7 c7 y rfl (HR7.out.below B1) (by omega) B1.size ?_)
  intro g2 p2 w11 hown2 hgrow2
  have B2 : Below w9.heap.size w9 w11 := B1.grown hgrow2 B1.size (fun g hg => by cases hg; exact hg1)
  have hown3 : w11.ownsRow w9.heap.size 3 1 (.slice (some ⟨g2, 0, none⟩) (n6 + n7) p2) (n6 + n7) ((x ++ y).map (Value.int .i64)) := by
    rw [List.map_append]; simpa using hown2
  obtain ⟨ar, nr, cr, hv, hR⟩ := Row.own hown3
  cases hv
  have HR := Lib.hid hR
  replace HR8 := Lib.hid (HR8.out.below B2)
  replace G := keep_below G B2
  clear hown1 hown2 hown3 hgrow2 B0 B1 B2 hR
  go_wp2_with fail
  refine (sameT _ _ _ _ _ _ (x ++ y) _ HR8.out HR.out (by have := HR8.out.1; rw [List.length_append] at this; omega)).mono ?_
  rintro e w12 ⟨rfl, hb⟩
  replace G := keep_below G hb; clear hb
  go_wp2_with (go_at_call 10; refine (CK.out _ (HN.out.below G)).mono ?_; rintro e w10 ⟨rfl, hb⟩)
  go_ret
  exact ⟨rfl, keep_below G hb⟩
set_option maxHeartbeats 4000000 in
set_option maxRecDepth 100000 in
theorem parts_ok2 (a b : Option Addr) (k m c d : Nat) (A B : List (Int × Int × Int)) (hn : k + 1 + m ≤ 190) (hm0 : 0 < m) (hkc : k ≤ c) (w : World) (HN : Hid (Nms w)) (HA : Hid (RowI w a (k + 1) A)) (HB : Hid (RowI w b m B)) (HWA : Hid (wE A = 0)) (HWB : Hid (wE B = 0)) (HW2 : Hid (wE (two A B) = 0))
    (x y : List Int) (XA : Hid (lA A = x)) (XB : Hid (lA B = y)) (EA : Hid (lE A = 0)) (EB : Hid (lE B = 0)) (X2 : Hid (lA (two A B) = x ++ y)) (E2 : Hid (lE (two A B) = 0)) (hx : 0 < x.length) (hy : y.length = 0) (hx2 : x.length ≤ 200) :
    Calls Tryd.prog 8 #[.slice a (k + 1) c, .slice b m d] w fun e w' => e = .returned (.bool true) ∧ Below w.heap.size w w' := by
  obtain ⟨i0, hi, hz0, hz1, hz2⟩ := info_parts ins_info
  have CK := Lib.hid known_any
  have d0 : decide ((k : Int) + 1 < 1) = false := by rw [decide_eq_false_iff_not]; omega
  have hkc' : (k : Int) ≤ (c : Int) := by omega
  have d1 : decide ((190 : Int) < (k : Int) + 1 + m) = false := by rw [decide_eq_false_iff_not]; omega
  have hw1 : IntKind.i64.wrap ((k : Int) + 1 + m) = (k : Int) + 1 + m := IntWalk.i64_in _ (by omega)
  have HT : Hid (two A B = A.take k ++ B) := two_at HA.out.1
  go_enter Tryd.func8, Tryd.ntmps8
  go_wp2_with fail
  refine (whole_at HWA.out _ HA.out HN.out).mono ?_; rintro e w1 ⟨rfl, hb⟩
  have G := hb
  replace HA := Lib.hid (HA.out.below hb); replace HB := Lib.hid (HB.out.below hb); clear hb
  go_wp2_with fail
  refine (whole_at HWB.out _ HB.out (HN.out.below G)).mono ?_; rintro e w2 ⟨rfl, hb⟩
  replace G := keep_below G hb; replace HA := Lib.hid (HA.out.below hb); replace HB := Lib.hid (HB.out.below hb); clear hb
  clear hw1
  obtain ⟨b1, o1, rfl, hadl, _⟩ := HA.out.2 (by omega)
  obtain ⟨b2, o2, rfl, hbdl, _⟩ := HB.out.2 hm0
  have hLl : (cellsI (A.take k)).length = k * 3 := by rw [cellsI_length, List.length_take, ← HA.out.1]; omega
  have hMl : (cellsI B).length = m * 3 := by rw [cellsI_length, ← HB.out.1]
  have HO : Hid ((w2.alloc (.cells #[] 32)).ownsRow w2.heap.size 32 3 (.slice (some ⟨w2.heap.size, 0, none⟩) 0 0) 0 []) := by
    refine ⟨by simp, Or.inr ⟨w2.heap.size, 0, #[], rfl, Nat.le_refl _, new_block _ _, by omega, by unfold maxLen; omega, rfl, rfl⟩⟩
  have HcA : Hid (∀ (W : World), Below w2.heap.size w2 W → ∀ j u, (cellsI (A.take k))[j]? = some u → W.cell? ((⟨b1, o1, none⟩ : Addr).add j) = some u) := fun W hW => ((HA.out.take (m := k) (by omega)).below hW).cells rfl
  have HcB : Hid (∀ (W : World), Below w2.heap.size w2 W → ∀ j u, (cellsI B)[j]? = some u → W.cell? ((⟨b2, o2, none⟩ : Addr).add j) = some u) := fun W hW => (HB.out.below hW).cells rfl
  have B0 := below_alloc w2 (.cells #[] 32)
  go_wp2_with (at_builtin; refine wpList_append_own _ rfl _ _ 22 rfl w2.heap.size 32 i0 (.agg #[.int .i64 0, .int .i64 0, .int .i64 0]) 3 24 Tryd.underlying22 hi hz0 hz1 hz2 rfl (by decide) _ _ _ rfl HO.out ⟨b1, o1, none⟩ k c (cellsI (A.take k)) rfl hLl (HcA.out _ B0) (cellsI_one (A.take k)) ?c3 ?c4 ?c5 ?_)
  case c3 => unfold maxLen; omega
  case c4 => omega
  case c5 => simp
  intro v1 w4 hown1 hgrow1 _
  have B1 : Below w2.heap.size w2 w4 := B0.grown hgrow1 (by simp) (fun g hg => by simp [Value.ownBlock] at hg; omega)
  have hv1 : ∀ g, v1.ownBlock = some g → w2.heap.size ≤ g := fun g hg => (hown1.lt g hg).1
  obtain ⟨A1, c1, rfl, _⟩ := RowI.own hown1
  clear hgrow1 HO
  go_wp2_with (at_builtin; refine wpList_append_own _ rfl _ _ 22 rfl w2.heap.size 32 i0 (.agg #[.int .i64 0, .int .i64 0, .int .i64 0]) 3 24 Tryd.underlying22 hi hz0 hz1 hz2 rfl (by decide) _ _ _ rfl hown1 ⟨b2, o2, none⟩ m d (cellsI B) rfl hMl (HcB.out _ B1) (cellsI_one B) ?c3 ?c4 ?c5 ?_)
  case c3 => unfold maxLen; omega
  case c4 => omega
  case c5 => exact B1.size
  intro v2 w5 hown2 hgrow2 _
  have B2 : Below w2.heap.size w2 w5 := B1.grown hgrow2 B1.size hv1
  have hown3 : w5.ownsRow w2.heap.size 32 3 v2 (k + m) (cellsI (two A B)) := by
    have := hown2
    rw [HT.out, cellsI_append]
    simpa using this
  obtain ⟨A5, c5, rfl, hR5⟩ := RowI.own hown3
  have HR5 := Lib.hid hR5
  replace HA := Lib.hid (HA.out.below B2); replace HB := Lib.hid (HB.out.below B2)
  replace G := keep_below G B2
  clear hown1 hown2 hown3 hgrow2 B0 B1 B2 hR5 hv1 HcA HcB hLl hMl hadl hbdl
  go_wp2_with fail
  refine (locks_at XA.out EA.out _ HA.out (HN.out.below G)).mono ?_; rintro e w6 ⟨a6, n6, c6, rfl, r6, hb⟩
  replace G := keep_below G hb; replace HB := Lib.hid (HB.out.below hb); replace HR5 := Lib.hid (HR5.out.below hb); clear hb
  have HR6 := Lib.hid r6; clear r6
  go_wp2_with fail
  refine (locks_at XB.out EB.out _ HB.out (HN.out.below G)).mono ?_; rintro e w7 ⟨a7, n7, c7, rfl, r7, hb⟩
  replace G := keep_below G hb; replace HR5 := Lib.hid (HR5.out.below hb); replace HR6 := Lib.hid (HR6.out.below hb); clear hb
  have HR7 := Lib.hid r7; clear r7
  go_wp2_with fail
  refine (locks_at X2.out E2.out _ HR5.out (HN.out.below G)).mono ?_; rintro e w8 ⟨a8, n8, c8, rfl, r8, hb⟩
  replace G := keep_below G hb; replace HR5 := Lib.hid (HR5.out.below hb); replace HR6 := Lib.hid (HR6.out.below hb); replace HR7 := Lib.hid (HR7.out.below hb); clear hb
  have HR8 := Lib.hid r8; clear r8
  go_wp2_with fail
  refine (whole_at HW2.out _ HR5.out (HN.out.below G)).mono ?_; rintro e w9 ⟨rfl, hb⟩
  replace G := keep_below G hb; replace HR6 := Lib.hid (HR6.out.below hb); replace HR7 := Lib.hid (HR7.out.below hb); replace HR8 := Lib.hid (HR8.out.below hb); clear hb HR5
  have h6 : (0 : Int) < (n6 : Int) := by have := HR6.out.1; omega
  have h6' : 0 < n6 := by omega
  have h7 : decide ((0 : Int) < (n7 : Int)) = false := by rw [decide_eq_false_iff_not]; have := HR7.out.1; omega
  have h7' : decide (0 < n7) = false := by rw [decide_eq_false_iff_not]; have := HR7.out.1; omega
  obtain ⟨j0, hj, hj0, hj1, hj2⟩ := info_parts int_info
  have HO : Hid ((w9.alloc (.cells #[] 3)).ownsRow w9.heap.size 3 1 (.slice (some ⟨w9.heap.size, 0, none⟩) 0 0) 0 []) := by
    refine ⟨by simp, Or.inr ⟨w9.heap.size, 0, #[], rfl, Nat.le_refl _, new_block _ _, by omega, by unfold maxLen; omega, rfl, rfl⟩⟩
  have B0 := below_alloc w9 (.cells #[] 3)
  have hl6 : n6 ≤ 200 := by have := HR6.out.1; omega
  have hl7 : n7 ≤ 200 := by have := HR7.out.1; omega
  go_wp2_with (at_builtin; refine wpList_append_row _ (by rfl) (.tmp 89) (.tmp 90) 24 rfl w9.heap.size j0 Tryd.underlying24 hj hj0 hj1 hj2 w9.heap.size 0 0 [] rfl HO.out a6 n6 c6 x rfl (HR6.out.below B0) (by omega) (by simp) ?_)
  intro g1 p1 w10 hown1 hgrow1
  have B1 : Below w9.heap.size w9 w10 := B0.grown hgrow1 (by simp) (fun g hg => by cases hg; exact Nat.le_refl _)
  have hg1 := (hown1.lt g1 rfl).1
  clear hgrow1 HO
  go_wp2_with (at_builtin; refine wpList_append_row _ (by rfl) (.tmp 91) (.tmp 92) 24 rfl w9.heap.size j0 Tryd.underlying24 hj hj0 hj1 hj2 g1 n6 p1 _ rfl hown1 a7 n7 c7 y rfl (HR7.out.below B1) (by omega) B1.size ?_)
  intro g2 p2 w11 hown2 hgrow2
  have B2 : Below w9.heap.size w9 w11 := B1.grown hgrow2 B1.size (fun g hg => by cases hg; exact hg1)
  have hown3 : w11.ownsRow w9.heap.size 3 1 (.slice (some ⟨g2, 0, none⟩) (n6 + n7) p2) (n6 + n7) ((x ++ y).map (Value.int .i64)) := by
    rw [List.map_append]; simpa using hown2
  obtain ⟨ar, nr, cr, hv, hR⟩ := Row.own hown3
  cases hv
  have HR := Lib.hid hR
  replace HR8 := Lib.hid (HR8.out.below B2)
  replace G := keep_below G B2
  clear hown1 hown2 hown3 hgrow2 B0 B1 B2 hR
  go_wp2_with fail
  refine (sameT _ _ _ _ _ _ (x ++ y) _ HR8.out HR.out (by have := HR8.out.1; rw [List.length_append] at this; omega)).mono ?_
  rintro e w12 ⟨rfl, hb⟩
  replace G := keep_below G hb; clear hb
  go_wp2_with (go_at_call 10; refine (CK.out _ (HN.out.below G)).mono ?_; rintro e w10 ⟨rfl, hb⟩)
  go_ret
  exact ⟨rfl, keep_below G hb⟩
set_option maxHeartbeats 4000000 in
set_option maxRecDepth 100000 in
theorem parts_walk (a b : Option Addr) (n m c d : Nat) (A B : List (Int × Int × Int)) (hnm : n ≤ maxLen) (hmm : m ≤ maxLen) (hnc : n ≤ c) (w : World) (hN : Nms w) (ha : RowI w a n A) (hb : RowI w b m B) :
    Calls Tryd.prog 8 #[.slice a n c, .slice b m d] w fun e w' => e = .returned (.bool true) ∧ Below w.heap.size w w' := by
  have CK := Lib.hid known_any
  have HN := Lib.hid hN
  unfold maxLen at hnm hmm
  by_cases h0 : n = 0
  · subst h0
    clear ha hb hN
    go_enter Tryd.func8, Tryd.ntmps8
    go_wp2_with (go_at_call 10; refine (CK.out _ HN.out).mono ?_; rintro e w2 ⟨rfl, hb⟩)
    go_ret
    exact ⟨rfl, hb⟩
  obtain ⟨k, rfl⟩ : ∃ k, n = k + 1 := ⟨n - 1, by omega⟩
  clear h0
  have d0 : decide ((k : Int) + 1 < 1) = false := by rw [decide_eq_false_iff_not]; omega
  by_cases hbig : 190 < k + 1 + m ∧ k + 1 + m ≤ 9223372036854775807
  · clear ha hb hN
    have d1 : decide ((190 : Int) < (k : Int) + 1 + m) = true := by rw [decide_eq_true_iff]; omega
    have hw1 : IntKind.i64.wrap ((k : Int) + 1 + m) = (k : Int) + 1 + m := IntWalk.i64_in _ (by omega)
    go_enter Tryd.func8, Tryd.ntmps8
    go_wp2_with (go_at_call 10; refine (CK.out _ HN.out).mono ?_; rintro e w2 ⟨rfl, hb⟩)
    go_ret
    exact ⟨rfl, hb⟩
  by_cases hwb : wE A = 0 ∧ wE B = 0
  · obtain ⟨hA, hB⟩ := hwb
    have la := wE_len hA
    have lb := wE_len hB
    have ea := ha.1
    have eb := hb.1
    have hn : A.length + B.length ≤ 190 := by omega
    have h2 := two_whole hA hB hn
    have xa := lA_len' A
    have xb := lA_len' B
    by_cases hea : lE A = 0
    · by_cases heb : lE B = 0
      · by_cases h1 : lks A A.length = []
        · have e2 := two_ok hA hB hn hea heb (Or.inl h1)
          refine parts_ok1 a b k m c d A B (by omega) (by omega) (by omega) w hN ha hb hA hB h2 (lA A) (lA B) rfl rfl hea heb ?_ e2 ?_ (by omega)
          · show _ = _; rw [lA_some e2, lA_some hea, lA_some heb]; exact two_lks hA
          · rw [lA_some hea, h1]; rfl
        · by_cases h3 : lks B B.length = []
          · have e2 := two_ok hA hB hn hea heb (Or.inr h3)
            refine parts_ok2 a b k m c d A B (by omega) (by omega) (by omega) w hN ha hb hA hB h2 (lA A) (lA B) rfl rfl hea heb ?_ e2 ?_ ?_ (by omega)
            · show _ = _; rw [lA_some e2, lA_some hea, lA_some heb]; exact two_lks hA
            · rw [lA_some hea]; exact List.length_pos_iff.2 h1
            · rw [lA_some heb, h3]; rfl
          · refine parts_lock a b k m c d A B (by omega) (by omega) (by omega) w hN ha hb hA hB h2 (lA A) (lA B) _ rfl rfl hea heb rfl (two_both hA hB hn h1 h3) ?_ ?_
            · rw [lA_some hea]; exact List.length_pos_iff.2 h1
            · rw [lA_some heb]; exact List.length_pos_iff.2 h3
      · exact parts_two a b k m c d A B (by omega) (by omega) (by omega) w hN ha hb hA hB h2 (lA A) (lA B) _ (lE B) rfl rfl hea rfl rfl (two_bad hA hB hn (Or.inr heb)) (by simpa using heb)
    · exact parts_one a b k m c d A B (by omega) (by omega) (by omega) w hN ha hb hA hB h2 (lA A) (lA B) _ (lE A) (lE B) rfl rfl rfl rfl rfl (two_bad hA hB hn (Or.inl hea)) (by simpa using hea)
  · obtain ⟨y, hw1, d1⟩ : ∃ y : Int, IntKind.i64.wrap ((k : Int) + 1 + m) = y ∧ decide ((190 : Int) < y) = false := by
      by_cases hsm : k + 1 + m ≤ 190
      · exact ⟨(k : Int) + 1 + m, IntWalk.i64_in _ (by omega), by rw [decide_eq_false_iff_not]; omega⟩
      · refine ⟨(k : Int) + 1 + m - 18446744073709551616, ?_, by rw [decide_eq_false_iff_not]; omega⟩
        rw [IntKind.wrap_i64]
        omega
    have HA := Lib.hid ha
    have HB := Lib.hid hb
    by_cases hA : wE A = 0
    · have hB : wE B ≠ 0 := fun e => hwb ⟨hA, e⟩
      have HWA := Lib.hid hA
      obtain ⟨z, hz⟩ : ∃ z, wE B = z := ⟨_, rfl⟩
      have HWB := Lib.hid hz
      have e1 : (z != 0) = true := by rw [← hz]; simpa using hB
      clear hz hB hA hwb ha hb hN hbig
      go_enter Tryd.func8, Tryd.ntmps8
      go_wp2_with fail
      refine (whole_at HWA.out _ HA.out HN.out).mono ?_; rintro e w1 ⟨rfl, hb⟩
      have G := hb
      replace HB := Lib.hid (HB.out.below hb); clear hb
      go_wp2_with fail
      refine (whole_at HWB.out _ HB.out (HN.out.below G)).mono ?_; rintro e w2 ⟨rfl, hb⟩
      replace G := keep_below G hb; clear hb
      go_wp2_with (go_at_call 10; refine (CK.out _ (HN.out.below G)).mono ?_; rintro e w7 ⟨rfl, hb7⟩)
      go_ret
      exact ⟨rfl, keep_below G hb7⟩
    · obtain ⟨z, hz⟩ : ∃ z, wE A = z := ⟨_, rfl⟩
      have HWA := Lib.hid hz
      have e1 : (z != 0) = true := by rw [← hz]; simpa using hA
      clear hz hA hwb ha hb hN hbig
      go_enter Tryd.func8, Tryd.ntmps8
      go_wp2_with fail
      refine (whole_at HWA.out _ HA.out HN.out).mono ?_; rintro e w1 ⟨rfl, hb⟩
      have G := hb
      clear hb
      go_wp2_with (go_at_call 10; refine (CK.out _ (HN.out.below G)).mono ?_; rintro e w7 ⟨rfl, hb7⟩)
      go_ret
      exact ⟨rfl, keep_below G hb7⟩
end Go.Proofs.YtncnofcgpiaadaaDoor
