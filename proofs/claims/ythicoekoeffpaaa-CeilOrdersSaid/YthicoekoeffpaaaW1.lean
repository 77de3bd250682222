/- What is proved here: the walk of the law CeilTells. Conditions: the row is not too long. -/
import Derived.Test.YthicoekoeffpaaaKw
import Derived.Test.YthicoekoeffpaaaPl
import Derived.Test.YthicoekoeffpaaaR4
namespace Go.Proofs.Ythicoekoeffpaaa
open Go.ChangeShapes Go.WideShapes Go.RowKit

theorem cL_len (B : Int) (L : List UsP) : (cL B L).length ≤ 8 := by
  cases h : okL B L
  · rw [cL_no h]; exact Nat.zero_le _
  · rw [cL_yes h, ceilL_len]; have := (okL_of h).b8; omega
theorem wL_len (B : Int) (L : List UsP) : (wL B L).length ≤ 8 := by
  cases h : okL B L
  · rw [wL_no h]; exact Nat.zero_le _
  · rw [wL_yes h, waitL_len]; exact (okL_of h).len
set_option maxHeartbeats 4000000 in
set_option maxRecDepth 100000 in
theorem tells_walk (B : Int) (a : Option Addr) (n c : Nat) (L : List UsP) (w : World) (hr : RowU w a n L) (hn : n ≤ 140737488355328) :
    Calls Try.prog 3 #[.int .i64 B, .slice a n c] w fun e w' => e = .returned (.bool true) ∧ Below w.heap.size w w' := by
  obtain ⟨lt, hlt⟩ : ∃ r, litE L = r := ⟨_, rfl⟩
  have CL := Lib.hid (light_any a n c L w hr hn lt hlt)
  have CK := Lib.hid (fun W => known_any W)
  cases lt
  · go_enter Try.func3, Try.ntmps3
    go_wp2_with (first
      | (go_at_call 10; refine CL.out.mono ?_; rintro e w1 ⟨rfl, rfl⟩)
      | (go_at_call 11; refine (CK.out _).mono ?_; rintro e w2 ⟨rfl, hb2⟩))
    go_ret
    exact ⟨rfl, hb2⟩
  have hn20 : n ≤ 20 := by rw [hr.1]; exact (lit_of hlt).len
  obtain ⟨r, hq⟩ : ∃ r, okL B L = r := ⟨_, rfl⟩
  have CR := Lib.hid (right_any B a n c L w hr hn r hq)
  have CP := Lib.hid (fun W (hb : Below w.heap.size w W) => plain_any a n c L W (hr.below hb) hn20)
  have RR := Lib.hid (fun W a' c' (h : RowU W a' n L) => rightR_any B a' n c' L W h hn r hq)
  have CC := Lib.hid (fun W (hb : Below w.heap.size w W) => ceilings_any B a n c L W (hr.below hb) hn _ rfl)
  have RC := Lib.hid (fun W a' c' (h : RowU W a' n L) => ceilingsR_any B a' n c' L W h hn _ rfl)
  have CW := Lib.hid (fun W (hb : Below w.heap.size w W) => waits_any B a n c L W (hr.below hb) hn _ rfl)
  have RW := Lib.hid (fun W a' c' (h : RowU W a' n L) => waitsR_any B a' n c' L W h hn _ rfl)
  have LC := cL_len B L
  have LW := wL_len B L
  generalize cL B L = l1 at CC RC LC
  generalize wL B L = l2 at CW RW LW
  have LC := Lib.hid LC
  have LW := Lib.hid LW
  unfold GotN at CC CW
  unfold GotI at RC RW
  clear hr hlt hq
  go_enter Try.func3, Try.ntmps3
  go_wp2_with (first
    | (go_at_call 10; refine CL.out.mono ?_; rintro e w1 ⟨rfl, rfl⟩)
    | (go_at_call 12; fail))
  refine CR.out.mono ?_
  rintro e w1 ⟨rfl, hb1⟩
  go_wp2_with (go_at_call 14; fail)
  refine (CP.out _ hb1).mono ?_
  rintro e w2 ⟨a2, c2, rfl, hr2, hb2⟩
  have b2 := keep_below hb1 hb2
  clear hb1 hb2
  go_wp2_with (go_at_call 13; fail)
  refine (RR.out _ _ _ hr2).mono ?_
  rintro e w3 ⟨rfl, hb3⟩
  have b3 := keep_below b2 hb3
  clear b2 hb3 hr2
  have hrr : (r == r) = true := by simp
  go_wp2_with (go_at_call 16; fail)
  refine (CC.out _ b3).mono ?_
  rintro e w4 ⟨a4, n4, c4, rfl, hr4, -, hb4, -⟩
  have b4 := keep_below b3 hb4
  clear b3 hb4
  go_wp2_with (go_at_call 14; fail)
  refine (CP.out _ b4).mono ?_
  rintro e w5 ⟨a5, c5, rfl, hr5, hb5⟩
  have b5 := keep_below b4 hb5
  have hr4 := hr4.below hb5
  clear b4 hb5
  go_wp2_with (go_at_call 17; fail)
  refine (RC.out _ _ _ hr5).mono ?_
  rintro e w6 ⟨a6, n6, c6, rfl, hr6, hb6⟩
  have b6 := keep_below b5 hb6
  have hr4 := hr4.below hb6
  clear b5 hb6 hr5
  go_wp2_with (go_at_call 15; fail)
  refine (same_any _ _ _ _ _ _ l1 _ hr4 hr6 (by have := hr4.1; have := LC.out; omega)).mono ?_
  rintro e w7 ⟨rfl, hb7⟩
  have b7 := keep_below b6 hb7
  clear b6 hb7 hr4 hr6
  go_wp2_with (go_at_call 18; fail)
  refine (CW.out _ b7).mono ?_
  rintro e w8 ⟨a8, n8, c8, rfl, hr8, -, hb8, -⟩
  have b8 := keep_below b7 hb8
  clear b7 hb8
  go_wp2_with (go_at_call 14; fail)
  refine (CP.out _ b8).mono ?_
  rintro e w9 ⟨a9, c9, rfl, hr9, hb9⟩
  have b9 := keep_below b8 hb9
  have hr8 := hr8.below hb9
  clear b8 hb9
  go_wp2_with (go_at_call 19; fail)
  refine (RW.out _ _ _ hr9).mono ?_
  rintro e wa ⟨aa, na, ca, rfl, hra, hba⟩
  have ba := keep_below b9 hba
  have hr8 := hr8.below hba
  clear b9 hba hr9
  go_wp2_with (go_at_call 15; fail)
  refine (same_any _ _ _ _ _ _ l2 _ hr8 hra (by have := hr8.1; have := LW.out; omega)).mono ?_
  rintro e wb ⟨rfl, hbb⟩
  have bb := keep_below ba hbb
  clear ba hbb hr8 hra
  go_wp2_with (go_at_call 11; fail)
  refine (CK.out _).mono ?_
  rintro e wc ⟨rfl, hbc⟩
  go_wp2
  go_ret
  exact ⟨rfl, keep_below bb hbc⟩
end Go.Proofs.Ythicoekoeffpaaa
