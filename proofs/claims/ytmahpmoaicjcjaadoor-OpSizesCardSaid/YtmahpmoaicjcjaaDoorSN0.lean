/- What is proved here: a case of the walk of the law OpSizes. Conditions: as the theorem states them. -/
import Derived.Test.YtmahpmoaicjcjaaDoorW4
namespace Go.Proofs.YtmahpmoaicjcjaaDoor
open Go.ChangeShapes Go.WideShapes Go.RowKit

set_option maxHeartbeats 4000000 in
set_option maxRecDepth 100000 in
theorem szN0 (o : Int) (a b : Int) (S N : ByteArray) (w : World) (hn : Nms w) (C1 : Hid (∀ W, Nms W → Calls Tryd.prog 12 #[.agg #[.int .i64 o, .int .i64 a, .int .i64 b]] W fun e w' => e = .returned (.string S) ∧ Below W.heap.size W w')) (C2 : Hid (∀ W, Calls Tryd.prog 16 #[.int .i64 o] W fun e w' => e = .returned (.int .i64 0) ∧ W = w')) (C3 : Hid (∀ W, Nms W → Calls Tryd.prog 14 #[.int .i64 o] W fun e w' => e = .returned (.string N) ∧ W = w')) (g1 : N.toList.isEmpty = false) (s2 : ¬ S.toList = []) (d3 : (1 : Int) ≤ (S.size : Int)) (d4 : (S.size : Int) ≤ 1) (e1 : (o == 1) = false) (d6 : (S.size : Int) ≤ 1) (h0 : 0 < S.size) (hb1 : IntKind.i64.wrap (S[0].toNat : Int) = o) :
    Calls Tryd.prog 7 #[.agg #[.int .i64 o, .int .i64 a, .int .i64 b]] w fun e w' => e = .returned (.bool true) ∧ Below w.heap.size w w' := by
  have g2 : ¬ N.toList = [] := by intro h; rw [h] at g1; cases g1
  have g3 : (N.toList == []) = false := by simpa using g2
  have s1 : S.toList.isEmpty = false := by simpa using s2
  have s3 : (S.toList == []) = false := by simpa using s2
  have u0 : IntKind.i64.wrap 0 = 0 := wrap_lit (by decide) (by decide)
  have u1 : IntKind.i64.wrap 1 = 1 := wrap_lit (by decide) (by decide)
  have u2 : IntKind.i64.wrap 2 = 2 := wrap_lit (by decide) (by decide)
  have d1 : decide ((1 : Int) ≤ (S.size : Int)) = true := by rw [decide_eq_true_iff]; omega
  have d2 : decide ((S.size : Int) ≤ 1) = true := by rw [decide_eq_true_iff]; omega
  have x1 : (0 : Int) < (S.size : Int) := by omega
  have d5 : decide ((S.size : Int) ≤ 1) = true := by rw [decide_eq_true_iff]; omega
  have G := (Below.refl w.heap.size w).alloc (Nat.le_refl _) (.cells #[.int .i64 o, .int .i64 a, .int .i64 b] 23)
  have HN := Lib.hid hn
  clear hn
  go_enter Tryd.func7, Tryd.ntmps7
  go_wp2_with fail
  refine (C1.out _ (HN.out.below G)).mono ?_; rintro e w1 ⟨rfl, hb⟩
  have k0 := hb.cell (p := ⟨w.heap.size, 0, none⟩) (by simp)
  simp at k0
  replace G := G.trans (hb.mono G.size); clear hb
  go_wp2_with fail
  refine (C2.out _).mono ?_; rintro e w2 ⟨rfl, rfl⟩
  have G2 := G.drew
  have hn2 := HN.out.below G2
  go_wp2_with fail
  go_still_tail 49, (by kernel_rfl)
  still_call (still_of (C3.out _ hn2))
  repeat still_step
  refine wpStill_nil ?_
  change wpList _ _ _ _ _ w1.drew
  generalize w1.drew = w5 at hn2 G2 ⊢
  go_wp2_with fail
  refine (known_any _ hn2).mono ?_; rintro e w6 ⟨rfl, hbk⟩
  go_wp2
  go_ret
  exact ⟨rfl, G2.trans (hbk.mono G2.size)⟩
end Go.Proofs.YtmahpmoaicjcjaaDoor
