/- What is proved here: the contract of the laws' known. Conditions: none. -/
import Derived.Test.YthicoekoeffpaaaKn
namespace Go.Proofs.Ythicoekoeffpaaa
open Go.ChangeShapes Go.WideShapes Go.RowKit

/-- The fixed uses. -/
def L0 : List UsP := [⟨1, [0], [5]⟩, ⟨3, [0], [9]⟩, ⟨2, [], []⟩]
theorem one_row (W : World) (x : Int) : Row (W.alloc (.cells #[.int .i64 x] 3)) (some ⟨W.heap.size, 0, none⟩) 1 [x] := lit_ints W _ [x] 1 rfl rfl (by simp)
theorem known_row (w : World) : Below w.heap.size w (((((w.alloc (.cells #[.int .i64 0] 3)).alloc (.cells #[.int .i64 5] 3)).alloc (.cells #[.int .i64 0] 3)).alloc (.cells #[.int .i64 9] 3)).alloc (.cells #[.int .i64 1, .slice (some ⟨w.heap.size, 0, none⟩) 1 1, .slice (some ⟨w.heap.size + 1, 0, none⟩) 1 1, .int .i64 3, .slice (some ⟨w.heap.size + 1 + 1, 0, none⟩) 1 1, .slice (some ⟨w.heap.size + 1 + 1 + 1, 0, none⟩) 1 1, .int .i64 2, .slice none 0 0, .slice none 0 0] 37)) ∧
    RowU (((((w.alloc (.cells #[.int .i64 0] 3)).alloc (.cells #[.int .i64 5] 3)).alloc (.cells #[.int .i64 0] 3)).alloc (.cells #[.int .i64 9] 3)).alloc (.cells #[.int .i64 1, .slice (some ⟨w.heap.size, 0, none⟩) 1 1, .slice (some ⟨w.heap.size + 1, 0, none⟩) 1 1, .int .i64 3, .slice (some ⟨w.heap.size + 1 + 1, 0, none⟩) 1 1, .slice (some ⟨w.heap.size + 1 + 1 + 1, 0, none⟩) 1 1, .int .i64 2, .slice none 0 0, .slice none 0 0] 37)) (some ⟨w.heap.size + 1 + 1 + 1 + 1, 0, none⟩) 3 L0 := by
  have r1 := one_row w 0
  have b1 := below_alloc w (.cells #[.int .i64 0] 3)
  have z1 : (w.alloc (.cells #[.int .i64 0] 3)).heap.size = w.heap.size + 1 := Array.size_push _
  generalize w.alloc (.cells #[.int .i64 0] 3) = w1 at *
  have r2 := one_row w1 5
  have b2 := below_alloc w1 (.cells #[.int .i64 5] 3)
  have z2 : (w1.alloc (.cells #[.int .i64 5] 3)).heap.size = w1.heap.size + 1 := Array.size_push _
  generalize w1.alloc (.cells #[.int .i64 5] 3) = w2 at *
  have r3 := one_row w2 0
  have b3 := below_alloc w2 (.cells #[.int .i64 0] 3)
  have z3 : (w2.alloc (.cells #[.int .i64 0] 3)).heap.size = w2.heap.size + 1 := Array.size_push _
  generalize w2.alloc (.cells #[.int .i64 0] 3) = w3 at *
  have r4 := one_row w3 9
  have b4 := below_alloc w3 (.cells #[.int .i64 9] 3)
  have z4 : (w3.alloc (.cells #[.int .i64 9] 3)).heap.size = w3.heap.size + 1 := Array.size_push _
  generalize w3.alloc (.cells #[.int .i64 9] 3) = w4 at *
  have b5 := below_alloc w4 (.cells #[.int .i64 1, .slice (some ⟨w.heap.size, 0, none⟩) 1 1, .slice (some ⟨w.heap.size + 1, 0, none⟩) 1 1, .int .i64 3, .slice (some ⟨w.heap.size + 1 + 1, 0, none⟩) 1 1, .slice (some ⟨w.heap.size + 1 + 1 + 1, 0, none⟩) 1 1, .int .i64 2, .slice none 0 0, .slice none 0 0] 37)
  have c5 := cells_new w4 #[.int .i64 1, .slice (some ⟨w.heap.size, 0, none⟩) 1 1, .slice (some ⟨w.heap.size + 1, 0, none⟩) 1 1, .int .i64 3, .slice (some ⟨w.heap.size + 1 + 1, 0, none⟩) 1 1, .slice (some ⟨w.heap.size + 1 + 1 + 1, 0, none⟩) 1 1, .int .i64 2, .slice none 0 0, .slice none 0 0] 37
  have z5 : (w4.alloc (.cells #[.int .i64 1, .slice (some ⟨w.heap.size, 0, none⟩) 1 1, .slice (some ⟨w.heap.size + 1, 0, none⟩) 1 1, .int .i64 3, .slice (some ⟨w.heap.size + 1 + 1, 0, none⟩) 1 1, .slice (some ⟨w.heap.size + 1 + 1 + 1, 0, none⟩) 1 1, .int .i64 2, .slice none 0 0, .slice none 0 0] 37)).heap.size = w4.heap.size + 1 := Array.size_push _
  have e4 : w4.heap.size = w.heap.size + 1 + 1 + 1 + 1 := by rw [z4, z3, z2, z1]
  rw [z1] at r2
  rw [z2, z1] at r3
  rw [z3, z2, z1] at r4
  rw [e4] at c5
  generalize w4.alloc (.cells #[.int .i64 1, .slice (some ⟨w.heap.size, 0, none⟩) 1 1, .slice (some ⟨w.heap.size + 1, 0, none⟩) 1 1, .int .i64 3, .slice (some ⟨w.heap.size + 1 + 1, 0, none⟩) 1 1, .slice (some ⟨w.heap.size + 1 + 1 + 1, 0, none⟩) 1 1, .int .i64 2, .slice none 0 0, .slice none 0 0] 37) = w5 at *
  have r1' := (((r1.below b2).below b3).below b4).below b5
  have r2' := ((r2.below b3).below b4).below b5
  have r3' := (r3.below b4).below b5
  have r4' := r4.below b5
  refine ⟨keep_below (keep_below (keep_below (keep_below b1 b2) b3) b4) b5, rfl, fun _ => ⟨_, 0, rfl, by rw [z5, e4]; omega, fun i hi => ?_⟩⟩
  rcases (show i = 0 ∨ i = 1 ∨ i = 2 by omega) with rfl | rfl | rfl
  · refine ⟨⟨1, ⟨some ⟨w.heap.size, 0, none⟩, 1, 1⟩, ⟨some ⟨w.heap.size + 1, 0, none⟩, 1, 1⟩⟩, ⟨1, [0], [5]⟩, rfl, ⟨rfl, ⟨r1', (by decide : 1 ≤ 140737488355328)⟩, ⟨r2', (by decide : 1 ≤ 140737488355328)⟩⟩, fun j v hj => ?_⟩
    match j, hj with
    | 0, hj => exact c5 0 v hj
    | 1, hj => exact c5 1 v hj
    | 2, hj => exact c5 2 v hj
  · refine ⟨⟨3, ⟨some ⟨w.heap.size + 1 + 1, 0, none⟩, 1, 1⟩, ⟨some ⟨w.heap.size + 1 + 1 + 1, 0, none⟩, 1, 1⟩⟩, ⟨3, [0], [9]⟩, rfl, ⟨rfl, ⟨r3', (by decide : 1 ≤ 140737488355328)⟩, ⟨r4', (by decide : 1 ≤ 140737488355328)⟩⟩, fun j v hj => ?_⟩
    match j, hj with
    | 0, hj => exact c5 3 v hj
    | 1, hj => exact c5 4 v hj
    | 2, hj => exact c5 5 v hj
  · refine ⟨⟨2, ⟨none, 0, 0⟩, ⟨none, 0, 0⟩⟩, ⟨2, [], []⟩, rfl, ⟨rfl, ⟨Row.nil _ _, (by decide : 0 ≤ 140737488355328)⟩, ⟨Row.nil _ _, (by decide : 0 ≤ 140737488355328)⟩⟩, fun j v hj => ?_⟩
    match j, hj with
    | 0, hj => exact c5 6 v hj
    | 1, hj => exact c5 7 v hj
    | 2, hj => exact c5 8 v hj
set_option maxHeartbeats 4000000 in
set_option maxRecDepth 100000 in
theorem known_any (w : World) : Calls Try.prog 11 #[] w fun e w' => e = .returned (.bool true) ∧ Below w.heap.size w w' := by
  obtain ⟨B0, R0⟩ := known_row w
  have HW : Hid (∃ W, W = (((((w.alloc (.cells #[.int .i64 0] 3)).alloc (.cells #[.int .i64 5] 3)).alloc (.cells #[.int .i64 0] 3)).alloc (.cells #[.int .i64 9] 3)).alloc (.cells #[.int .i64 1, .slice (some ⟨w.heap.size, 0, none⟩) 1 1, .slice (some ⟨w.heap.size + 1, 0, none⟩) 1 1, .int .i64 3, .slice (some ⟨w.heap.size + 1 + 1, 0, none⟩) 1 1, .slice (some ⟨w.heap.size + 1 + 1 + 1, 0, none⟩) 1 1, .int .i64 2, .slice none 0 0, .slice none 0 0] 37))) := ⟨_, rfl⟩
  have CC := Lib.hid (fun W (hr : RowU W (some ⟨w.heap.size + 1 + 1 + 1 + 1, 0, none⟩) 3 L0) => ceilings_any 2 _ 3 3 L0 W hr (by decide) [3, 0] (by decide +kernel))
  have CW := Lib.hid (fun W (hr : RowU W (some ⟨w.heap.size + 1 + 1 + 1 + 1, 0, none⟩) 3 L0) => waits_any 2 _ 3 3 L0 W hr (by decide) [0, 5, 5] (by decide +kernel))
  have CR2 := Lib.hid (fun W (hr : RowU W (some ⟨w.heap.size + 1 + 1 + 1 + 1, 0, none⟩) 3 L0) => right_any 2 _ 3 3 L0 W hr (by decide) true (by decide +kernel))
  have CR0 := Lib.hid (fun W (hr : RowU W (some ⟨w.heap.size + 1 + 1 + 1 + 1, 0, none⟩) 3 L0) => right_any 0 _ 3 3 L0 W hr (by decide) false (by decide +kernel))
  have lit2 : Hid (∀ W : World, Row (W.alloc (.cells #[.int .i64 3, .int .i64 0] 3)) (some ⟨W.heap.size, 0, none⟩) 2 [3, 0]) := fun W => lit_ints W _ [3, 0] 2 rfl rfl (by simp)
  have lit3 : Hid (∀ W : World, Row (W.alloc (.cells #[.int .i64 0, .int .i64 5, .int .i64 5] 3)) (some ⟨W.heap.size, 0, none⟩) 3 [0, 5, 5]) := fun W => lit_ints W _ [0, 5, 5] 3 rfl rfl (by simp)
  have CA1 := Lib.hid (fun (W : World) => active_any 1 1 _ 2 2 [3, 0] _ (lit2.out W) (by decide) (by decide) 3 (by decide +kernel))
  have CA2 := Lib.hid (fun (W : World) => active_any 1 2 _ 2 2 [3, 0] _ (lit2.out W) (by decide) (by decide) 1 (by decide +kernel))
  unfold GotN at CC CW
  go_enter Try.func11, Try.ntmps11
  go_wp2_with (go_at_call 16; fail)
  clear HW
  generalize (((((w.alloc (.cells #[.int .i64 0] 3)).alloc (.cells #[.int .i64 5] 3)).alloc (.cells #[.int .i64 0] 3)).alloc (.cells #[.int .i64 9] 3)).alloc (.cells #[.int .i64 1, .slice (some ⟨w.heap.size, 0, none⟩) 1 1, .slice (some ⟨w.heap.size + 1, 0, none⟩) 1 1, .int .i64 3, .slice (some ⟨w.heap.size + 1 + 1, 0, none⟩) 1 1, .slice (some ⟨w.heap.size + 1 + 1 + 1, 0, none⟩) 1 1, .int .i64 2, .slice none 0 0, .slice none 0 0] 37)) = W at B0 R0 ⊢
  refine (CC.out _ R0).mono ?_
  rintro e w1 ⟨a1, n1, c1, rfl, hr1, -, hb1, -⟩
  have B1 := keep_below B0 hb1
  have R1 := R0.below hb1
  go_wp2_with (go_at_call 15; fail)
  refine (same_any _ _ _ _ _ _ [3, 0] _ (hr1.below (below_alloc _ _)) (lit2.out w1) (by have := hr1.1; simp at this; omega)).mono ?_
  rintro e w2 ⟨rfl, hb2⟩
  have B2 := keep_below (keep_below B1 (below_alloc _ _)) hb2
  have R2 := (R1.below (below_alloc _ _)).below hb2
  clear hb1 hb2 B1 R1 hr1 B0 R0
  go_wp2_with (go_at_call 18; fail)
  refine (CW.out _ R2).mono ?_
  rintro e w3 ⟨a3, n3, c3, rfl, hr3, -, hb3, -⟩
  have B3 := keep_below B2 hb3
  have R3 := R2.below hb3
  clear B2 R2 hb3
  go_wp2_with (go_at_call 15; fail)
  refine (same_any _ _ _ _ _ _ [0, 5, 5] _ (hr3.below (below_alloc _ _)) (lit3.out w3) (by have := hr3.1; simp at this; omega)).mono ?_
  rintro e w4 ⟨rfl, hb4⟩
  have B4 := keep_below (keep_below B3 (below_alloc _ _)) hb4
  have R4 := (R3.below (below_alloc _ _)).below hb4
  clear B3 R3 hb4 hr3
  go_wp2_with (go_at_call 20; fail)
  refine (CA1.out _).mono ?_
  rintro e w5 ⟨rfl, hb5⟩
  have B5 := keep_below (keep_below B4 (below_alloc _ _)) hb5
  have R5 := (R4.below (below_alloc _ _)).below hb5
  clear B4 R4 hb5
  go_wp2_with (go_at_call 20; fail)
  refine (CA2.out _).mono ?_
  rintro e w6 ⟨rfl, hb6⟩
  have B6 := keep_below (keep_below B5 (below_alloc _ _)) hb6
  have R6 := (R5.below (below_alloc _ _)).below hb6
  clear B5 R5 hb6
  go_wp2_with (go_at_call 12; fail)
  refine (CR2.out _ R6).mono ?_
  rintro e w7 ⟨rfl, hb7⟩
  have B7 := keep_below B6 hb7
  have R7 := R6.below hb7
  clear B6 R6 hb7
  go_wp2_with (go_at_call 12; fail)
  refine (CR0.out _ R7).mono ?_
  rintro e w8 ⟨rfl, hb8⟩
  have B8 := keep_below B7 hb8
  clear B7 R7 hb8
  go_wp2
  go_ret
  exact ⟨rfl, B8⟩
end Go.Proofs.Ythicoekoeffpaaa
