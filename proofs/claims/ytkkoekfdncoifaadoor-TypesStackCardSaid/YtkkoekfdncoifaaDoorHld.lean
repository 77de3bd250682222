/- What is proved here: contracts of nest.Whole, nest.inLoop, nest.heldAt and nest.Held. Condition: the table of names holds what its initialiser lays ('Nms'). -/
import Derived.Test.YtkkoekfdncoifaaDoorWhl
namespace Go.Proofs.YtkkoekfdncoifaaDoor
open Go.ChangeShapes Go.WideShapes Go.RowKit

theorem wE_err {L : List (Int × Int × Int)} (h : mE L ≠ 0) : wE L = mE L := by unfold wE; rw [if_neg h]
theorem wE_ends {L : List (Int × Int × Int)} (h : mE L = 0) (h2 : ends L = false) : wE L = 7 := by unfold wE; rw [if_pos h, h2]; rfl
theorem wE_jmps {L : List (Int × Int × Int)} (h : mE L = 0) (h2 : ends L = true) (h3 : jmps L = false) : wE L = 8 := by unfold wE; rw [if_pos h, h2, h3]; rfl
set_option maxHeartbeats 1000000 in
set_option maxRecDepth 100000 in
theorem whole_any (a : Option Addr) (n c : Nat) (L : List (Int × Int × Int)) (w : World) (hr : RowI w a n L) (hN : Nms w) :
    Calls Tryd.prog 31 #[.slice a n c] w fun e w' => e = .returned (.int .i64 (wE L)) ∧ Below w.heap.size w w' := by
  have cr := regions_any a n c L w hr hN
  unfold GotRg at cr
  by_cases h0 : mE L = 0
  · have HC := Lib.hid (mE_zero h0).1
    have hln := can_len HC.out
    rw [← hr.1] at hln
    rw [h0] at cr
    have C := Lib.hid cr
    have HL := Lib.hid hr.1
    cases he : ends L
    · have HQ := Lib.hid (wE_ends h0 he)
      have HE := Lib.hid he
      clear cr hN h0 he
      go_enter Tryd.func31, Tryd.ntmps31
      go_wp2_with (go_at_call 28; refine C.out.mono ?_; rintro e w1 ⟨a1, n1, c1, a2, n2, c2, rfl, h1, h2, hb⟩)
      have cl := endsLast_any a n c L w1 (hr.below hb) (by omega) (by omega)
      rw [HE.out] at cl
      refine cl.mono ?_
      rintro e w2 ⟨rfl, hb2⟩
      go_wp2
      go_ret
      exact ⟨by rw [HQ.out]; rfl, keep_below hb hb2⟩
    · cases hj : jmps L
      all_goals
        first
          | have HQ := Lib.hid (wE_of h0 he hj)
          | have HQ := Lib.hid (wE_jmps h0 he hj)
        have HE := Lib.hid he
        have HJ := Lib.hid hj
        clear cr hN h0 he hj
        go_enter Tryd.func31, Tryd.ntmps31
        go_wp2_with (go_at_call 28; refine C.out.mono ?_; rintro e w1 ⟨a1, n1, c1, a2, n2, c2, rfl, h1, h2, hb⟩)
        have cl := endsLast_any a n c L w1 (hr.below hb) (by omega) (by omega)
        rw [HE.out] at cl
        refine cl.mono ?_
        rintro e w2 ⟨rfl, hb2⟩
        clear cl
        go_wp2_with fail
        have h3 : Row w2 a2 n2 (hL L) := h2.below hb2
        obtain rfl : n2 = n := by have := h3.1; rw [hL_len, ← HL.out] at this; exact this
        have cs := stays_any a a2 n2 c c2 L w2 (hr.below (keep_below hb hb2)) h3 HC.out
        rw [HJ.out] at cs
        refine cs.mono ?_
        rintro e w3 ⟨rfl, hb3⟩
        clear cs h3 h1 h2
        go_wp2
        go_ret
        exact ⟨by rw [HQ.out]; rfl, keep_below (keep_below hb hb2) hb3⟩
  · have HQ := Lib.hid (wE_err h0)
    have HM : Hid (mE L ≠ 0) := h0
    obtain ⟨x, hx⟩ : ∃ x, x = mE L := ⟨_, rfl⟩
    rw [← hx] at cr
    have e1 : (x != 0) = true := by rw [hx]; simpa using h0
    have e2 : (x == 0) = false := by rw [hx]; simpa using h0
    have HX := Lib.hid hx
    have C := Lib.hid cr
    clear cr hN h0 hx hr HM
    go_enter Tryd.func31, Tryd.ntmps31
    go_wp2_with (go_at_call 28; refine C.out.mono ?_; rintro e w1 ⟨a1, n1, c1, a2, n2, c2, rfl, h1, h2, hb⟩)
    go_ret
    exact ⟨by rw [HQ.out, ← HX.out]; rfl, hb⟩

theorem inl_cons (l : List (Int × Int × Int)) (t : Nat) (s : List Nat) : inl l (t :: s) = ((at_ l t).1 == 21 || inl l s) := rfl
end Go.Proofs.YtkkoekfdncoifaaDoor
