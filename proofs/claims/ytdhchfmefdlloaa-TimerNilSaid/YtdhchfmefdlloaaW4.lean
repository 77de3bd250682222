/- What is proved here: the walk of the law TimerNil. Conditions: none. -/
import Derived.Test.YtdhchfmefdlloaaKn
namespace Go.Proofs.Ytdhchfmefdlloaa
open Go.ChangeShapes Go.WideShapes Go.RowKit Go.Maps

theorem eqp_nn (w : World) : (binOp .eql 25 (.pointer none) (.pointer none)).run Try.prog w = .ok (.bool true) w := by
  have h : ∀ d : Nat, (Op.equalIn (d + 1) 25 (.pointer none) (.pointer none)).run Try.prog w = .ok true w := fun d => by
    simp [Op.equalIn, run_underlying Try.underlying25]
  simp only [binOp]
  simp [Op.equal, Op.maxDepth, h 9999]
set_option maxHeartbeats 4000000 in
set_option maxRecDepth 100000 in
theorem nil_walk (a : Option Addr) (n c : Nat) (w : World) :
    Calls Try.prog 6 #[.slice a n c] w fun e w' => e = .returned (.bool true) ∧ Below w.heap.size w w' := by
  have k1 : True := trivial
  have k2 : True := trivial
  have k3 : True := trivial
  have k4 : True := trivial
  have hq := eqp_nn
  have G1 := given_other w.heap.size (w.alloc (.cells #[.pointer none, .slice none 0 0, .int .i64 0, .map none] 53)) (cells_new w _ _ 0 _ rfl)
  have G0 := given_nil (w.alloc (.cells #[.pointer none, .slice none 0 0, .int .i64 0, .map none] 53))
  have T0 := Lib.hid (fun p => tick_not (.pointer none) p _ G0)
  have T1 := Lib.hid (fun p => tick_not (.pointer (some ⟨w.heap.size, 0, none⟩)) p _ G1)
  have W0 := Lib.hid (waiting_not (.pointer none) _ G0)
  have W1 := Lib.hid (waiting_not (.pointer (some ⟨w.heap.size, 0, none⟩)) _ G1)
  have N0 := Lib.hid (now_not (.pointer none) _ G0)
  have N1 := Lib.hid (now_not (.pointer (some ⟨w.heap.size, 0, none⟩)) _ G1)
  have C0 := Lib.hid (copy_not (.pointer none) _ G0)
  have C1 := Lib.hid (copy_not (.pointer (some ⟨w.heap.size, 0, none⟩)) _ G1)
  have KN := Lib.hid (known_any (w.alloc (.cells #[.pointer none, .slice none 0 0, .int .i64 0, .map none] 53)))
  clear G0 G1
  go_enter Try.func6, Try.ntmps6
  go_wp2_with (first
    | (go_at_call 14; have _t := k1; refine (T0.out _).mono ?_; rintro e w1 ⟨rfl, hw1⟩; have hw1 := hw1.symm; subst hw1; clear k1)
    | (go_at_call 14; refine (T1.out _).mono ?_; rintro e w1 ⟨rfl, hw1⟩; have hw1 := hw1.symm; subst hw1)
    | (go_at_call 18; have _t := k2; refine W0.out.mono ?_; rintro e w1 ⟨rfl, hw1⟩; have hw1 := hw1.symm; subst hw1; clear k2)
    | (go_at_call 18; refine W1.out.mono ?_; rintro e w1 ⟨rfl, hw1⟩; have hw1 := hw1.symm; subst hw1)
    | (go_at_call 20; have _t := k3; refine N0.out.mono ?_; rintro e w1 ⟨rfl, hw1⟩; have hw1 := hw1.symm; subst hw1; clear k3)
    | (go_at_call 20; refine N1.out.mono ?_; rintro e w1 ⟨rfl, hw1⟩; have hw1 := hw1.symm; subst hw1)
    | (go_at_call 13; have _t := k4; refine C0.out.mono ?_; rintro e w1 ⟨rfl, hw1⟩; have hw1 := hw1.symm; subst hw1; clear k4)
    | (go_at_call 13; refine C1.out.mono ?_; rintro e w1 ⟨rfl, hw1⟩; have hw1 := hw1.symm; subst hw1)
    | (go_at_call 10; refine KN.out.mono ?_; rintro e w2 ⟨rfl, hb2⟩; have HB2 := Lib.hid (keep_below (below_alloc w _) hb2); clear hb2))
  go_ret
  exact ⟨rfl, HB2.out⟩
end Go.Proofs.Ytdhchfmefdlloaa
