/- What is proved here: the contract of the laws' known. Conditions: none. -/
import Derived.Test.YtdhchfmefdlloaaTv
namespace Go.Proofs.Ytdhchfmefdlloaa
open Go.ChangeShapes Go.WideShapes Go.RowKit Go.Maps

set_option maxHeartbeats 8000000 in
set_option maxRecDepth 100000 in
theorem known_any (w : World) : Calls Try.prog 10 #[] w fun e w' => e = .returned (.bool true) ∧ Below w.heap.size w w' := by
  have tok1 : True := trivial
  have tok2 : True := trivial
  have tok3 : True := trivial
  have tok4 : True := trivial
  have tok5 : True := trivial
  have tok6 : True := trivial
  have tok7 : True := trivial
  have tok8 : True := trivial
  have tok9 : True := trivial
  have tokA : True := trivial
  have tokB : True := trivial
  have tokC : True := trivial
  have tokD : True := trivial
  have tokE : True := trivial
  have tokF : True := trivial
  have hq1 := eqp_nil
  have hq2 := neqp_nil
  have okA : okPz [2, 3] = true := by decide
  have okB : okPz [2, 0] = false := by decide
  go_enter Try.func10, Try.ntmps10
  go_wp2_with (first
    | (go_at_call 11; have _t := tok1; refine (new_yes _ 2 2 [2, 3] _ (lit_ints w #[.int .i64 2, .int .i64 3] [2, 3] 2 rfl rfl (by decide)) okA).mono ?_; rintro e w1 ⟨b, F1, rfl, ht1, hF1, hb1⟩; have T1 := Lib.hid ht1; have HF1 := Lib.hid (fun g h => Nat.le_trans (Nat.le_of_lt (by simp : w.heap.size < (w.alloc (.cells #[.int .i64 2, .int .i64 3] 3)).heap.size)) (hF1 g h)); have B1 := Lib.hid (keep_below (below_alloc w _) hb1); clear ht1 hF1 hb1 tok1)
    | (go_at_call 11; have _t := tok2; refine (new_no _ 2 2 [2, 0] _ (lit_ints w1 #[.int .i64 2, .int .i64 0] [2, 0] 2 rfl rfl (by decide)) (by decide) okB).mono ?_; rintro e w2 ⟨rfl, hb2⟩; have B2 := Lib.hid (keep_below (below_alloc w1 _) hb2); have T2 := Lib.hid (T1.out.below B2.out); clear hb2 tok2)
    | (go_at_call 14; have _t := tok3; refine (tick_v (T2.out.below (below_alloc w2 (.cells #[.int .i64 0, .int .i64 1] 3))) (by decide) (by decide) (lit_ints w2 #[.int .i64 0, .int .i64 1] [0, 1] 2 rfl rfl (by decide)) (Nat.le_refl 2) (by decide) (fun _ bb off e hc => by cases e; exact absurd (T2.out.lt _ hc) (Nat.lt_irrefl _)) told_fix0 rfl tick_fix0 (now2 := 1) rfl (n2 := 2) rfl).mono ?_; rintro e w3 ⟨F3, a3, c3, rfl, hr3, ht3, hF3, hx3⟩; have R3 := Lib.hid hr3; have T3 := Lib.hid ht3; have HF3 := Lib.hid hF3; have X3 := Lib.hid hx3; clear hr3 ht3 hF3 hx3 tok3)
    | (go_at_call 18; have _t := tok4; refine (waiting_v T3.out (by decide) wait_fix0 rfl).mono ?_; rintro e w4 ⟨a4, c4, rfl, hr4, hb4⟩; have R4 := Lib.hid hr4; have B4 := Lib.hid hb4; have T4 := Lib.hid (T3.out.below hb4); have R34 := Lib.hid (R3.out.below hb4); clear hr4 hb4 tok4)
    | (go_at_call 14; have _t := tok5; refine (tick_v T4.out (by decide) (by decide) (Row.nil w4 none) (Nat.le_refl 0) (by decide) (fun h => absurd h (by decide)) told_fix1 rfl tick_fix1 (now2 := 2) rfl (n2 := 4) rfl).mono ?_; rintro e w5 ⟨F5, a5, c5, rfl, hr5, ht5, hF5, hx5⟩; have R5 := Lib.hid hr5; have T5 := Lib.hid ht5; have HF5 := Lib.hid hF5; have X5 := Lib.hid hx5; clear hr5 ht5 hF5 hx5 tok5)
    | (go_at_call 14; have _t := tok6; refine (tick_v (T5.out.below (below_alloc w5 (.cells #[.int .i64 (-5)] 3))) (by decide) (by decide) (lit_ints w5 #[.int .i64 (-5)] [-5] 1 rfl rfl (by decide)) (Nat.le_refl 1) (by decide) (fun _ bb off e hc => by cases e; exact absurd (T5.out.lt _ hc) (Nat.lt_irrefl _)) told_fix2 rfl tick_fix2 (now2 := 3) rfl (n2 := 6) rfl).mono ?_; rintro e w6 ⟨F6, a6, c6, rfl, hr6, ht6, hF6, hx6⟩; have R6 := Lib.hid hr6; have T6 := Lib.hid ht6; have HF6 := Lib.hid hF6; have X6 := Lib.hid hx6; clear hr6 ht6 hF6 hx6 tok6
       have RA := Lib.hid (((R34.out.trn X5.out HF5.out).below (below_alloc w5 (.cells #[.int .i64 (-5)] 3))).trn X6.out HF6.out).1
       have RB := Lib.hid (((R4.out.trn X5.out HF5.out).below (below_alloc w5 (.cells #[.int .i64 (-5)] 3))).trn X6.out HF6.out).1
       have RC := Lib.hid (((R5.out.below (below_alloc w5 (.cells #[.int .i64 (-5)] 3)))).trn X6.out HF6.out).1
       have B6 := Lib.hid (Below.refl w6.heap.size w6))
    | (go_at_call 17; have _t := tok7; refine (plain_any a3 1 c3 _ _ RA.out (by decide)).mono ?_; rintro e w7 ⟨a7, c7, rfl, hr7, hb7⟩; have R7 := Lib.hid hr7; have B7 := Lib.hid (keep_below B6.out hb7); clear hr7 hb7 tok7)
    | (go_at_call 16; have _t := tok8; refine (same_any _ _ 1 1 _ _ [(0, 0)] _ (R7.out.below (below_alloc w7 _)) (lit_due w7 #[.int .i64 0, .int .i64 0] [(0, 0)] 1 rfl rfl (by decide)) (by decide)).mono ?_; rintro e w8 ⟨rfl, hb8⟩; have B8 := Lib.hid (keep_below (keep_below B7.out (below_alloc w7 _)) hb8); clear hb8 tok8)
    | (go_at_call 17; have _t := tok9; refine (plain_any a4 1 c4 _ _ (RB.out.below B8.out) (by decide)).mono ?_; rintro e w9 ⟨a9, c9, rfl, hr9, hb9⟩; have R9 := Lib.hid hr9; have B9 := Lib.hid (keep_below B8.out hb9); clear hr9 hb9 tok9)
    | (go_at_call 16; have _t := tokA; refine (same_any _ _ 1 1 _ _ [(1, 0)] _ (R9.out.below (below_alloc w9 _)) (lit_due w9 #[.int .i64 1, .int .i64 0] [(1, 0)] 1 rfl rfl (by decide)) (by decide)).mono ?_; rintro e w10 ⟨rfl, hb10⟩; have B10 := Lib.hid (keep_below (keep_below B9.out (below_alloc w9 _)) hb10); clear hb10 tokA)
    | (go_at_call 17; have _t := tokB; refine (plain_any a5 1 c5 _ _ (RC.out.below B10.out) (by decide)).mono ?_; rintro e w11 ⟨a11, c11, rfl, hr11, hb11⟩; have R11 := Lib.hid hr11; have B11 := Lib.hid (keep_below B10.out hb11); clear hr11 hb11 tokB)
    | (go_at_call 16; have _t := tokC; refine (same_any _ _ 1 1 _ _ [(1, 0)] _ (R11.out.below (below_alloc w11 _)) (lit_due w11 #[.int .i64 1, .int .i64 0] [(1, 0)] 1 rfl rfl (by decide)) (by decide)).mono ?_; rintro e w12 ⟨rfl, hb12⟩; have B12 := Lib.hid (keep_below (keep_below B11.out (below_alloc w11 _)) hb12); clear hb12 tokC)
    | (go_at_call 17; have _t := tokD; refine (plain_any a6 1 c6 _ _ (R6.out.1.below B12.out) (by decide)).mono ?_; rintro e w13 ⟨a13, c13, rfl, hr13, hb13⟩; have R13 := Lib.hid hr13; have B13 := Lib.hid (keep_below B12.out hb13); clear hr13 hb13 tokD)
    | (go_at_call 16; have _t := tokE; refine (same_any _ _ 1 1 _ _ [(0, 2)] _ (R13.out.below (below_alloc w13 _)) (lit_due w13 #[.int .i64 0, .int .i64 2] [(0, 2)] 1 rfl rfl (by decide)) (by decide)).mono ?_; rintro e w14 ⟨rfl, hb14⟩; have B14 := Lib.hid (keep_below (keep_below B13.out (below_alloc w13 _)) hb14); clear hb14 tokE)
    | (go_at_call 20; refine (now_any (T6.out.below B14.out)).mono ?_; rintro e w15 ⟨rfl, hw15⟩; have hw15 := hw15.symm; subst hw15)
    | (go_at_call 18; have _t := tokF; refine (waiting_v (T6.out.below B14.out) (by decide) wait_nil rfl).mono ?_; rintro e w16 ⟨a16, c16, rfl, hr16, hb16⟩; have B16 := Lib.hid (keep_below B14.out hb16); clear hr16 hb16 tokF)
    | (go_at_call 13; refine (copy_any (T6.out.below B16.out) (by decide)).mono ?_; rintro e w17 ⟨b17, F17, rfl, ht17, hF17, hb17⟩; have B17 := Lib.hid (keep_below B16.out hb17); clear ht17 hF17 hb17))
  go_ret
  have s1 := B1.out.size
  have s2 := B2.out.size
  have s3 := X3.out.size
  have s4 := B4.out.size
  have s5 := X5.out.size
  have g3 : ∀ g, F3 g → w.heap.size ≤ g := fun g hg => by
    rcases HF3.out g hg with h1 | h1
    · exact HF1.out g h1
    · simp at h1; omega
  have g5 : ∀ g, F5 g → w.heap.size ≤ g := fun g hg => by
    rcases HF5.out g hg with h1 | h1
    · exact g3 g h1
    · simp at s3; omega
  have k2 : Below w.heap.size w (w2.alloc (.cells #[.int .i64 0, .int .i64 1] 3)) := keep_below (keep_below B1.out B2.out) (below_alloc w2 _)
  have k3 : Below w.heap.size w w3 := k2.trans (X3.out.below k2.size HF1.out)
  have k4 : Below w.heap.size w w4 := keep_below k3 B4.out
  have k5 : Below w.heap.size w w5 := k4.trans (X5.out.below k4.size g3)
  have k6 : Below w.heap.size w (w5.alloc (.cells #[.int .i64 (-5)] 3)) := keep_below k5 (below_alloc w5 _)
  have k7 : Below w.heap.size w w6 := k6.trans (X6.out.below k6.size g5)
  exact ⟨rfl, keep_below k7 B17.out⟩
end Go.Proofs.Ytdhchfmefdlloaa
