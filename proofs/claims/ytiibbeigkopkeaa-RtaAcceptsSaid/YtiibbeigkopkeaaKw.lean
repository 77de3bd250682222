/- What is proved here: the contract of the laws' known. Conditions: what RtaC says of the program. -/
import Derived.Test.YtiibbeigkopkeaaCs
namespace Go.Proofs.Ytiibbeigkopkeaa
open Go.ChangeShapes Go.WideShapes Go.RowKit

set_option maxHeartbeats 4000000 in
set_option maxRecDepth 100000 in
theorem known_any (H : RtaC) (w : World) : Calls Try.prog 10 #[] w fun e w' => e = .returned (.bool true) ∧ Below w.heap.size w w' := by
  have H1 := Lib.hid H
  clear H
  go_enter Try.func10, Try.ntmps10
  go_wp2_with fail
  have R1 := lit_rows w kn1 #[.int .i64 2, .int .i64 0, .int .i64 10, .int .i64 10, .int .i64 0, .int .i64 2, .int .i64 3, .int .i64 0, .int .i64 20, .int .i64 20, .int .i64 0, .int .i64 1] 2 w.heap.size rfl rfl rfl (by decide)
  have B1 := below_alloc w (.cells #[.int .i64 2, .int .i64 0, .int .i64 10, .int .i64 10, .int .i64 0, .int .i64 2, .int .i64 3, .int .i64 0, .int .i64 20, .int .i64 20, .int .i64 0, .int .i64 1] 41)
  refine (H1.out.accept _ _ _ kn1 _ R1 (by omega) _ _ _ kn1_acc).mono ?_
  rintro e w2 ⟨ra, rn, rc, rfl, hRA, hb2⟩
  have R2 := Lib.hid (R1.below hb2)
  have B2 := Lib.hid (keep_below B1 hb2)
  have A2 := Lib.hid hRA
  clear R1 B1 hb2 hRA
  go_wp2_with fail
  refine (H1.out.next _ _ _ kn1 1 11 _ R2.out (by omega) _ _ kn1_next).mono ?_
  rintro e w3 ⟨rfl, hb3⟩
  have R3 := Lib.hid (R2.out.below hb3)
  have B3 := Lib.hid (keep_below B2.out hb3)
  have A3 := Lib.hid (A2.out.below hb3)
  clear R2 B2 A2 hb3
  go_wp2_with fail
  refine (H1.out.resp _ _ _ kn2 0 _ (lit_rows w3 kn2 _ 1 _ rfl rfl rfl (by decide)) (by omega) _ _ kn2_resp).mono ?_
  rintro e w4 ⟨rfl, hb4⟩
  have b4 := keep_below (below_alloc w3 _) hb4
  have R4 := Lib.hid (R3.out.below b4)
  have B4 := Lib.hid (keep_below B3.out b4)
  have A4 := Lib.hid (A3.out.below b4)
  clear R3 B3 A3 hb4 b4
  go_wp2_with fail
  refine (H1.out.resp _ _ _ kn3 1 _ (lit_rows w4 kn3 _ 2 _ rfl rfl rfl (by decide)) (by omega) _ _ kn3_resp).mono ?_
  rintro e w5 ⟨rfl, hb5⟩
  have b5 := keep_below (below_alloc w4 _) hb5
  have R5 := Lib.hid (R4.out.below b5)
  have B5 := Lib.hid (keep_below B4.out b5)
  have A5 := Lib.hid (A4.out.below b5)
  clear R4 B4 A4 hb5 b5
  go_wp2_with fail
  refine (H1.out.resp _ _ _ kn4 1 _ (lit_rows w5 kn4 _ 2 _ rfl rfl rfl (by decide)) (by omega) _ _ kn4_resp).mono ?_
  rintro e w6 ⟨rfl, hb6⟩
  have b6 := keep_below (below_alloc w5 _) hb6
  have R6 := Lib.hid (R5.out.below b6)
  have B6 := Lib.hid (keep_below B5.out b6)
  have A6 := Lib.hid (A5.out.below b6)
  clear R5 B5 A5 hb6 b6
  go_wp2_with fail
  refine (H1.out.next _ _ _ kn1 2 0 _ R6.out (by omega) _ _ kn1_no).mono ?_
  rintro e w7 ⟨rfl, hb7⟩
  have R7 := Lib.hid (R6.out.below hb7)
  have B7 := Lib.hid (keep_below B6.out hb7)
  have A7 := Lib.hid (A6.out.below hb7)
  clear R6 B6 A6 hb7
  go_wp2_with fail
  refine (same_any _ _ _ _ _ _ [2, 5] _ (A7.out.below (below_alloc w7 _)) (lit2 w7 2 5) (by have := A7.out.1; simp at this; omega)).mono ?_
  rintro e w8 ⟨rfl, hb8⟩
  have b8 := keep_below (below_alloc w7 _) hb8
  have R8 := Lib.hid (R7.out.below b8)
  have B8 := Lib.hid (keep_below B7.out b8)
  clear R7 B7 A7 hb8 b8
  go_wp2_with fail
  refine (H1.out.right _ _ _ kn1 _ R8.out (by omega) _ kn1_right).mono ?_
  rintro e w9 ⟨rfl, hb9⟩
  have B9 := Lib.hid (keep_below B8.out hb9)
  clear R8 B8 hb9
  go_wp2_with fail
  refine (H1.out.right _ _ _ [⟨0, 0, 0, 0, 0, 0⟩] _ (lit_rows w9 [⟨0, 0, 0, 0, 0, 0⟩] _ 1 _ rfl rfl rfl (by decide)) (by omega) _ kn0_right).mono ?_
  rintro e w10 ⟨rfl, hb10⟩
  have b10 := keep_below (below_alloc w9 _) hb10
  have B10 := Lib.hid (keep_below B9.out b10)
  go_wp2
  go_ret
  exact ⟨rfl, B10.out⟩
end Go.Proofs.Ytiibbeigkopkeaa
