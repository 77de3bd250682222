/- What is proved here: the walk of the law CostParts. Condition: the table of names holds what its initialiser lays (Nms). -/
import Derived.Test.YtacgnofmccennaaDoorK9
import Derived.Test.YtacgnofmccennaaDoorCq
namespace Go.Proofs.YtacgnofmccennaaDoor
open Go.ChangeShapes Go.WideShapes Go.RowKit

theorem getD_ofS {α : Type} {l : List α} {i : Nat} {x d : α} (h : l[i]? = some x) : l.getD i d = x := by rw [List.getD_eq_getElem?_getD, h]; rfl
theorem lt_ofS {α : Type} {l : List α} {i : Nat} {x : α} (h : l[i]? = some x) : i < l.length := (List.getElem?_eq_some_iff.1 h).1
/-- What the sections of a row that can run hold. -/
def FitS (S : List (Int × Int)) (W : Int) : Prop :=
  (∀ (i : Nat) (b x : Int), S[i]? = some (b, x) → 1 ≤ x ∧ x + 2 ≤ W) ∧ ∀ (i : Nat) (b x b' x' : Int), S[i]? = some (b, x) → S[i + 1]? = some (b', x') → x' + 2 ≤ x ∧ b < b'
theorem secs_fitS {L : List (Int × Int × Int)} (h : cE true L = 0) : FitS (sA L) (cW true L) := by
  have hS := secs_all h L.length (Nat.le_refl _)
  unfold sA cW
  rw [if_pos h, if_pos h]
  refine ⟨fun i b x hi => ?_, fun i b x b' x' hi hj => ?_⟩
  · have := hS.one i (lt_ofS hi)
    rw [getD_ofS hi] at this; exact this
  · have := hS.two (i + 1) (by omega) (lt_ofS hj)
    rw [getD_ofS hj, Nat.add_sub_cancel, getD_ofS hi] at this; exact this
theorem best_zero {L : List (Int × Int × Int)} (h : cE true L = 0) : cE false L = 0 ∧ 1 ≤ cW false L ∧ cW false L ≤ cW true L ∧ cW true L ≤ 1048576 ∧ 1 ≤ cW true L := by
  obtain ⟨h1, h2⟩ := cE_zero h
  have h3 := ub_le L 0
  have h4 : cE false L = 0 := cE_of h1 (by omega)
  unfold cW
  rw [if_pos h, if_pos h4]
  refine ⟨h4, ?_⟩
  omega
set_option maxHeartbeats 2000000 in
set_option maxRecDepth 100000 in
theorem parts_walk (a : Option Addr) (n c : Nat) (L : List (Int × Int × Int)) (hmx : n ≤ maxLen) (w : World) (hr : RowI w a n L) (hN : Nms w) :
    Calls Tryd.prog 5 #[.slice a n c] w fun e w' => e = .returned (.bool true) ∧ Below w.heap.size w w' := by
  have hm63 : n ≤ 9223372036854775807 := hmx
  have HNm := Lib.hid hN
  have KN := Lib.hid (fun W (h : Below w.heap.size w W) => known9_any W (HNm.out.below h))
  by_cases h200 : 200 < n
  · have e1 : decide ((200 : Int) < (n : Int)) = true := by rw [decide_eq_true_iff]; omega
    clear hr hN
    go_enter Tryd.func5, Tryd.ntmps5
    go_wp2_with (go_at_call 8; refine (KN.out _ (Below.refl _ _)).mono ?_; rintro e w1 ⟨rfl, hb1⟩)
    go_ret
    exact ⟨rfl, hb1⟩
  · have e1 : decide ((200 : Int) < (n : Int)) = false := by rw [decide_eq_false_iff_not]; omega
    have cs := sections_any a n c L w hr hN
    have cw := fun W (h : Below w.heap.size w W) => worst_any a n c L W (hr.below h) (HNm.out.below h)
    have cb := fun W (h : Below w.heap.size w W) => best_any a n c L W (hr.below h) (HNm.out.below h)
    by_cases h0 : cE true L = 0
    · obtain ⟨b1, b2, b3, b4, b5⟩ := best_zero h0
      have hf := secs_fitS h0
      have hsl : (sA L).length ≤ 200 := by unfold sA; rw [if_pos h0]; have := sec_len L L.length; have := hr.1; omega
      rw [h0] at cs cw
      rw [b1] at cb
      generalize cW true L = W at cw b3 b4 b5 hf
      generalize cW false L = B at cb b2 b3
      generalize sA L = S at cs hf hsl
      have HF := Lib.hid hf
      have CS := Lib.hid cs
      have CW := Lib.hid cw
      have CB := Lib.hid cb
      have e2 : decide (1 ≤ B) = true := by rw [decide_eq_true_iff]; exact b2
      have e3 : decide (B ≤ W) = true := by rw [decide_eq_true_iff]; exact b3
      clear hr hN cs cw cb h0 b1 h200 hf
      go_enter Tryd.func5, Tryd.ntmps5
      go_wp2_with (first | (go_at_call 13; refine CS.out.mono ?_; rintro e w1 ⟨a1, n1, c1, rfl, hr1, hb1⟩) | (go_at_call 9; refine (CW.out _ hb1).mono ?_; rintro e w2 ⟨rfl, hb2⟩))
      have HN1 := Lib.hid hr1.1
      have hn1 : n1 ≤ 200 := by rw [hr1.1]; exact hsl
      have hr2 := hr1.below hb2
      have hbb := keep_below hb1 hb2
      clear hr1 CS CW hb1 hb2 hsl
      go_loopw [7] (fun i wr => ∃ k : Nat, k ≤ n1 ∧ i = .int .i64 k ∧ Below w2.heap.size w2 wr) (fun i _ => n1 - (intOf i).toNat)
      case atStart => exact ⟨0, by omega, rfl, Below.refl _ _⟩
      case round =>
        obtain ⟨k, hk, rfl, hbl⟩ := hrel
        by_cases hlt : k < n1
        · cases k with
          | zero =>
            obtain ⟨b1, o1, bx, x, rfl, hB1, hx, c1', d1⟩ := (hr2.below hbl).at_ hlt
            obtain ⟨f1, f2⟩ := HF.out.1 _ _ _ hx
            have i1 : (0 : Int) < (n1 : Int) := by omega
            have w1' : IntKind.i64.wrap (x + 2) = x + 2 := IntWalk.i64_in _ (by omega)
            have g1 : decide (x < 1) = false := by rw [decide_eq_false_iff_not]; omega
            have g2 : decide (W < x + 2) = false := by rw [decide_eq_false_iff_not]; omega
            clear hx hr2
            go_wp2
            go_quiet (fail)
            go_wp2
            go_roundw
            case rel => exact ⟨1, by omega, by go_num, hbl.trans ⟨rfl, rfl, rfl, Nat.le_refl _, fun _ _ => rfl⟩⟩
            case measure => simp [intOf]; omega
          | succ j =>
            obtain ⟨b1, o1, bx, x, rfl, hB1, hx, c1', d1⟩ := (hr2.below hbl).at_ hlt
            obtain ⟨b1', o1', by', y, he, hB2, hy, c2', d2⟩ := (hr2.below hbl).at_ (k := j) (by omega)
            simp only [Option.some.injEq, Addr.mk.injEq] at he
            obtain ⟨rfl, rfl, _⟩ := he
            obtain ⟨f1, f2⟩ := HF.out.1 _ _ _ hx
            obtain ⟨f3, f4⟩ := HF.out.2 _ _ _ _ _ hy hx
            obtain ⟨f5, f6⟩ := HF.out.1 _ _ _ hy
            have i1 : (0 : Int) ≤ (j : Int) + 1 := by omega
            have i2 : (j : Int) + 1 < (n1 : Int) := by omega
            have i3 : (0 : Int) ≤ (j : Int) := by omega
            have i4 : (j : Int) < (n1 : Int) := by omega
            have w1' : IntKind.i64.wrap (x + 2) = x + 2 := IntWalk.i64_in _ (by omega)
            have w2' : IntKind.i64.wrap ((j : Int) + 1 - 1) = (j : Int) := by rw [IntWalk.i64_in _ (by omega)]; omega
            have g1 : decide (x < 1) = false := by rw [decide_eq_false_iff_not]; omega
            have g2 : decide (W < x + 2) = false := by rw [decide_eq_false_iff_not]; omega
            have g3 : decide ((0 : Int) < (j : Int) + 1) = true := by rw [decide_eq_true_iff]; omega
            have g4 : decide (y < x + 2) = false := by rw [decide_eq_false_iff_not]; omega
            have g5 : decide (bx ≤ by') = false := by rw [decide_eq_false_iff_not]; omega
            clear hx hy hr2
            go_wp2
            go_quiet (fail)
            go_wp2
            go_roundw
            case rel => exact ⟨j + 2, by omega, by go_num, hbl.trans ⟨rfl, rfl, rfl, Nat.le_refl _, fun _ _ => rfl⟩⟩
            case measure => simp [intOf]; omega
        · obtain rfl : k = n1 := by omega
          have hb3 := keep_below hbb hbl
          clear hbl hbb hr2
          go_wp2_with (first | (go_at_call 11; refine (CB.out _ hb3).mono ?_; rintro e w4 ⟨rfl, hb4⟩; have hb5 := keep_below hb3 hb4) | (go_at_call 8; refine (KN.out _ hb5).mono ?_; rintro e w6 ⟨rfl, hb6⟩))
          go_ret
          exact ⟨rfl, keep_below hb5 hb6⟩
    · have hS : sA L = [] := by unfold sA; rw [if_neg h0]
      rw [hS] at cs
      generalize cE true L = x at cs cw h0
      have g1 : (x != 0) = true := by simpa using h0
      have g2 : (x == 0) = false := by simpa using h0
      generalize cW true L = y at cw
      have CS := Lib.hid cs
      have CW := Lib.hid cw
      clear hr hN cs cw cb h0 h200 hS
      go_enter Tryd.func5, Tryd.ntmps5
      go_wp2_with (first | (go_at_call 13; refine CS.out.mono ?_; rintro e w1 ⟨a1, n1, c1, rfl, hr1, hb1⟩; obtain rfl : n1 = 0 := hr1.1) | (go_at_call 9; refine (CW.out _ hb1).mono ?_; rintro e w2 ⟨rfl, hb2⟩; have hb3 := keep_below hb1 hb2) | (go_at_call 8; refine (KN.out _ hb3).mono ?_; rintro e w6 ⟨rfl, hb6⟩))
      go_ret
      exact ⟨rfl, keep_below hb3 hb6⟩
end Go.Proofs.YtacgnofmccennaaDoor
