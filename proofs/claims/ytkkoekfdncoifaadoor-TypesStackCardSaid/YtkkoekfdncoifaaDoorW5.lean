/- What is proved here: the walk of the law TypesStack. Condition: the table of names holds what its initialiser lays ('Nms'). -/
import Derived.Test.YtkkoekfdncoifaaDoorKnown
import Derived.Test.YtkkoekfdncoifaaDoorRd
namespace Go.Proofs.YtkkoekfdncoifaaDoor
open Go.ChangeShapes Go.WideShapes Go.RowKit Go.Maps

set_option maxHeartbeats 2000000 in
set_option maxRecDepth 100000 in
theorem stack_walk (a : Option Addr) (n c : Nat) (L : List (Int × Int × Int)) (hmx : n ≤ maxLen) (w : World) (hN : Nms w) (hr : RowI w a n L) :
    Calls Tryd.prog 3 #[.slice a n c] w fun e w' => e = .returned (.bool true) ∧ Below w.heap.size w w' := by
  have hm63 : n ≤ 9223372036854775807 := hmx
  have HNm := Lib.hid hN
  have KN := Lib.hid (fun W (h : Below w.heap.size w W) => known_any W (HNm.out.below h))
  by_cases h250 : 250 < n
  · have e1 : decide ((250 : Int) < (n : Int)) = true := by rw [decide_eq_true_iff]; omega
    clear hr hN
    go_enter Tryd.func3, Tryd.ntmps3
    go_wp2_with (go_at_call 8; refine (KN.out _ (Below.refl _ _)).mono ?_; rintro e w1 ⟨rfl, hb1⟩)
    go_ret
    exact ⟨rfl, hb1⟩
  · have e1 : decide ((250 : Int) < (n : Int)) = false := by rw [decide_eq_false_iff_not]; omega
    have hn6 : n ≤ 1000000 := by omega
    have cs := stacks_any a n c L w hr hN
    have cr := fun W (h : Below w.heap.size w W) => stacksR_any a n c L W (hr.below h) hn6
    have cd := fun W (h : Below w.heap.size w W) => deep_any a n c L W (hr.below h) (HNm.out.below h)
    have ce := fun W (h : Below w.heap.size w W) => deepR_any a n c L W (hr.below h) hn6
    unfold GotT at cs cr
    have hlen : (tA L).length ≤ 1000 := by
      unfold tA
      split
      · rw [tL_len, ← hr.1]; omega
      · simp
    obtain ⟨x, hx⟩ : ∃ x, x = tE L := ⟨_, rfl⟩
    obtain ⟨y, hy⟩ : ∃ y, y = dA L := ⟨_, rfl⟩
    rw [← hx] at cs cr cd ce
    rw [← hy] at cd ce
    generalize tA L = P at cs cr hlen
    have e2 : (x == x) = true := by simp
    have e3 : ((y : Int) == (y : Int)) = true := by simp
    have CS := Lib.hid cs
    have CR := Lib.hid cr
    have CD := Lib.hid cd
    have CE := Lib.hid ce
    have HLn := Lib.hid hlen
    clear cs cr cd ce hx hy hr hN hlen
    go_enter Tryd.func3, Tryd.ntmps3
    go_wp2_with (first | (go_at_call 9; refine CS.out.mono ?_; rintro e w1 ⟨a1, n1, c1, rfl, r1, hb1⟩) | (go_at_call 10; refine (CR.out _ hb1).mono ?_; rintro e w2 ⟨a2, n2, c2, rfl, r2, hb2⟩) | (go_at_call 11; refine (CD.out _ (keep_below hb1 hb2)).mono ?_; rintro e w3 ⟨rfl, hb3⟩) | (go_at_call 12; refine (CE.out _ (keep_below (keep_below hb1 hb2) hb3)).mono ?_; rintro e w4 ⟨rfl, hb4⟩) | (go_at_call 13; refine (same_any _ _ _ _ _ _ P _ (((r1.below hb2).below hb3).below hb4) ((r2.below hb3).below hb4) (by rw [r1.1]; exact Nat.le_trans HLn.out (by decide))).mono ?_; rintro e w5 ⟨rfl, hb5⟩) | (go_at_call 8; refine (KN.out _ (keep_below (keep_below (keep_below (keep_below hb1 hb2) hb3) hb4) hb5)).mono ?_; rintro e w6 ⟨rfl, hb6⟩))
    go_ret
    exact ⟨rfl, keep_below (keep_below (keep_below (keep_below (keep_below hb1 hb2) hb3) hb4) hb5) hb6⟩
end Go.Proofs.YtkkoekfdncoifaaDoor
