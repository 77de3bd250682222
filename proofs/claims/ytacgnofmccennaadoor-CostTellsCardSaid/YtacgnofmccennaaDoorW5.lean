/- What is proved here: the walk of the law CostTells. Condition: the table of names holds what its initialiser lays (Nms). -/
import Derived.Test.YtacgnofmccennaaDoorW4
import Derived.Test.YtacgnofmccennaaDoorRx
namespace Go.Proofs.YtacgnofmccennaaDoor
open Go.ChangeShapes Go.WideShapes Go.RowKit

theorem same9_at (a a2 : Option Addr) (n n2 c c2 : Nat) (l : List (Int × Int)) (w : World) (h1 : RowP w a n l) (h2 : RowP w a2 n2 l) (hn : n ≤ 1000) :
    Calls Tryd.prog 15 #[.slice a n c, .slice a2 n2 c2] w fun e w' => e = .returned (.bool true) ∧ Below w.heap.size w w' := by
  obtain rfl : n = n2 := by rw [h1.1, h2.1]
  exact same9_eq a a2 n c c2 l w h1 h2 hn
set_option maxHeartbeats 2000000 in
set_option maxRecDepth 100000 in
theorem tells_walk (a : Option Addr) (n c : Nat) (L : List (Int × Int × Int)) (hmx : n ≤ maxLen) (w : World) (hr : RowI w a n L) (hN : Nms w) :
    Calls Tryd.prog 3 #[.slice a n c] w fun e w' => e = .returned (.bool true) ∧ Below w.heap.size w w' := by
  have hm63 : n ≤ 9223372036854775807 := hmx
  have HNm := Lib.hid hN
  have KN := Lib.hid (fun W (h : Below w.heap.size w W) => known9_any W (HNm.out.below h))
  by_cases h250 : 250 < n
  · have e1 : decide ((250 : Int) < (n : Int)) = true := by rw [decide_eq_true_iff]; omega
    clear hr hN
    go_enter Tryd.func3, Tryd.ntmps3
    go_wp2_with (go_at_call 8; refine (KN.out _ (Below.refl _ _)).mono ?_; rintro e w1 ⟨rfl, hb1⟩)
    go_ret
    exact ⟨rfl, hb1⟩
  · have e1 : decide ((250 : Int) < (n : Int)) = false := by rw [decide_eq_false_iff_not]; omega
    have hn : n ≤ 1000000 := by omega
    have C9 := Lib.hid (fun W (h : Below w.heap.size w W) => worst_any a n c L W (hr.below h) (HNm.out.below h))
    have C10 := Lib.hid (fun W (h : Below w.heap.size w W) => worstR_any a n c L W (hr.below h) hn)
    have C11 := Lib.hid (fun W (h : Below w.heap.size w W) => best_any a n c L W (hr.below h) (HNm.out.below h))
    have C12 := Lib.hid (fun W (h : Below w.heap.size w W) => bestR_any a n c L W (hr.below h) hn)
    have C13 := Lib.hid (fun W (h : Below w.heap.size w W) => sections_any a n c L W (hr.below h) (HNm.out.below h))
    have C14 := Lib.hid (fun W (h : Below w.heap.size w W) => sectionsR_any a n c L W (hr.below h) hn)
    have C17 := Lib.hid (fun W (h : Below w.heap.size w W) => straight_any a n c L W (hr.below h) hmx)
    have C18 := Lib.hid (fun W (h : Below w.heap.size w W) => straightR_any a n c L W (hr.below h) hn)
    have hsl : (sA L).length ≤ 1000 := by
      unfold sA
      split
      · have := sec_len L L.length; have := hr.1; omega
      · simp
    generalize cW true L = u0 at C9 C10
    generalize cW false L = u1 at C11 C12
    generalize cE true L = f0 at C9 C10 C13 C14
    generalize cE false L = f1 at C11 C12
    generalize sA L = S at C13 C14 hsl
    generalize strt L = z at C17 C18
    have r1 : (u0 == u0) = true := by simp
    have r2 : (u1 == u1) = true := by simp
    have r3 : (f0 == f0) = true := by simp
    have r4 : (f1 == f1) = true := by simp
    clear hr hN h250
    cases z
    all_goals
      go_enter Tryd.func3, Tryd.ntmps3
      go_wp2_with (first
        | (go_at_call 9; refine (C9.out _ (Below.refl _ _)).mono ?_; rintro e w1 ⟨rfl, b1⟩)
        | (go_at_call 10; refine (C10.out _ b1).mono ?_; rintro e w1 ⟨rfl, c2⟩; have b2 := keep_below b1 c2)
        | (go_at_call 11; refine (C11.out _ b2).mono ?_; rintro e w1 ⟨rfl, c3⟩; have b3 := keep_below b2 c3)
        | (go_at_call 12; refine (C12.out _ b3).mono ?_; rintro e w1 ⟨rfl, c4⟩; have b4 := keep_below b3 c4)
        | (go_at_call 13; refine (C13.out _ b4).mono ?_; rintro e w1 ⟨a5, n5, k5, rfl, p5, c5⟩; have b5 := keep_below b4 c5; have hn5 : n5 ≤ 1000 := (by rw [p5.1]; exact hsl); have P5 := Lib.hid p5; clear p5)
        | (go_at_call 14; refine (C14.out _ b5).mono ?_; rintro e w1 ⟨a6, n6, k6, rfl, p6, c6⟩; have b6 := keep_below b5 c6; have P6 := Lib.hid p6; clear p6; have P5' := Lib.hid (P5.out.below c6))
        | (go_at_call 16; refine (plain9_any a5 n5 k5 _ _ P5'.out hn5).mono ?_; rintro e w1 ⟨a7, n7, k7, rfl, p7, c7⟩; have b7 := keep_below b6 c7; have P7 := Lib.hid p7; have HN7 : n7 = n5 := (by rw [p7.1, P5.out.1]); have HN7' := Lib.hid HN7; have HN6 : Hid (n6 = n5) := (by show _ = _; rw [P6.out.1, P5.out.1]); clear HN7 p7; have P6' := Lib.hid (P6.out.below c7))
        | (go_at_call 15; refine (same9_at a7 a6 n7 n6 k7 k6 _ _ P7.out P6'.out (by rw [HN7'.out]; exact hn5)).mono ?_; rintro e w1 ⟨rfl, c8⟩; have b8 := keep_below b7 c8)
        | (go_at_call 17; refine (C17.out _ b8).mono ?_; rintro e w1 ⟨rfl, c9⟩; have b9 := keep_below b8 c9)
        | (go_at_call 18; refine (C18.out _ b9).mono ?_; rintro e w1 ⟨rfl, c10⟩; have b10 := keep_below b9 c10)
        | (go_at_call 8; refine (KN.out _ b10).mono ?_; rintro e w1 ⟨rfl, c11⟩))
      go_ret
      exact ⟨rfl, keep_below b10 c11⟩
end Go.Proofs.YtacgnofmccennaaDoor
