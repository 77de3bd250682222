/- What is proved here: contracts of nest.Whole, nest.inLoop, nest.heldAt and nest.Held. Condition: the table of names holds what its initialiser lays ('Nms'). -/
import Derived.Test.YtncnofcgpiaadaaDoorWhl
namespace Go.Proofs.YtncnofcgpiaadaaDoor
open Go.ChangeShapes Go.WideShapes Go.RowKit

theorem wE_err {L : List (Int × Int × Int)} (h : mE L ≠ 0) : wE L = mE L := by unfold wE; rw [if_neg h]
theorem wE_ends {L : List (Int × Int × Int)} (h : mE L = 0) (h2 : ends L = false) : wE L = 7 := by unfold wE; rw [if_pos h, h2]; rfl
theorem wE_jmps {L : List (Int × Int × Int)} (h : mE L = 0) (h2 : ends L = true) (h3 : jmps L = false) : wE L = 8 := by unfold wE; rw [if_pos h, h2, h3]; rfl
set_option maxHeartbeats 1000000 in
set_option maxRecDepth 100000 in
theorem whole_any (a : Option Addr) (n c : Nat) (L : List (Int × Int × Int)) (w : World) (hr : RowI w a n L) (hN : Nms w) :
    Calls Tryd.prog 20 #[.slice a n c] w fun e w' => e = .returned (.int .i64 (wE L)) ∧ Below w.heap.size w w' := by
  have cr := regions_any a n c L w hr hN
  unfold GotRg at cr
  by_cases h0 : mE L = 0
  · have HC := Lib.hid (mE_zero h0).1
    have hln := can_len HC.out
    rw [← hr.1] at hln
    rw [h0] at cr
    have C := Lib.hid cr
    have HL := Lib.hid hr.1
    cases he : ends L
    · have HQ := Lib.hid (wE_ends h0 he)
      have HE := Lib.hid he
      clear cr hN h0 he
      go_enter Tryd.func20, Tryd.ntmps20
      go_wp2_with (go_at_call 22; refine C.out.mono ?_; rintro e w1 ⟨a1, n1, c1, a2, n2, c2, rfl, h1, h2, hb⟩)
      have cl := endsLast_any a n c L w1 (hr.below hb) (by omega) (by omega)
      rw [HE.out] at cl
      refine cl.mono ?_
      rintro e w2 ⟨rfl, hb2⟩
      go_wp2
      go_ret
      exact ⟨by rw [HQ.out]; rfl, keep_below hb hb2⟩
    · cases hj : jmps L
      all_goals
        first
          | have HQ := Lib.hid (wE_of h0 he hj)
          | have HQ := Lib.hid (wE_jmps h0 he hj)
        have HE := Lib.hid he
        have HJ := Lib.hid hj
        clear cr hN h0 he hj
        go_enter Tryd.func20, Tryd.ntmps20
        go_wp2_with (go_at_call 22; refine C.out.mono ?_; rintro e w1 ⟨a1, n1, c1, a2, n2, c2, rfl, h1, h2, hb⟩)
        have cl := endsLast_any a n c L w1 (hr.below hb) (by omega) (by omega)
        rw [HE.out] at cl
        refine cl.mono ?_
        rintro e w2 ⟨rfl, hb2⟩
        clear cl
        go_wp2_with fail
        have h3 : Row w2 a2 n2 (hL L) := h2.below hb2
        obtain rfl : n2 = n := by have := h3.1; rw [hL_len, ← HL.out] at this; exact this
        have cs := stays_any a a2 n2 c c2 L w2 (hr.below (keep_below hb hb2)) h3 HC.out
        rw [HJ.out] at cs
        refine cs.mono ?_
        rintro e w3 ⟨rfl, hb3⟩
        clear cs h3 h1 h2
        go_wp2
        go_ret
        exact ⟨by rw [HQ.out]; rfl, keep_below (keep_below hb hb2) hb3⟩
  · have HQ := Lib.hid (wE_err h0)
    have HM : Hid (mE L ≠ 0) := h0
    obtain ⟨x, hx⟩ : ∃ x, x = mE L := ⟨_, rfl⟩
    rw [← hx] at cr
    have e1 : (x != 0) = true := by rw [hx]; simpa using h0
    have e2 : (x == 0) = false := by rw [hx]; simpa using h0
    have HX := Lib.hid hx
    have C := Lib.hid cr
    clear cr hN h0 hx hr HM
    go_enter Tryd.func20, Tryd.ntmps20
    go_wp2_with (go_at_call 22; refine C.out.mono ?_; rintro e w1 ⟨a1, n1, c1, a2, n2, c2, rfl, h1, h2, hb⟩)
    go_ret
    exact ⟨by rw [HQ.out, ← HX.out]; rfl, hb⟩

theorem inl_cons (l : List (Int × Int × Int)) (t : Nat) (s : List Nat) : inl l (t :: s) = ((at_ l t).1 == 21 || inl l s) := rfl
set_option maxHeartbeats 1000000 in
set_option maxRecDepth 100000 in
theorem inLoop_any (a a2 : Option Addr) (n c c2 : Nat) (L : List (Int × Int × Int)) (p : Nat) (hp : p < n) (hn : n ≤ 200) (w : World) (hr : RowI w a n L) (hh : Row w a2 n (hL L)) :
    Calls Tryd.prog 29 #[.slice a n c, .slice a2 n c2, .int .i64 p] w fun e w' => e = .returned (.bool (inl L (sk L p))) ∧ w = w' := by
  obtain ⟨R, hR⟩ : ∃ R, R = inl L (sk L p) := ⟨_, rfl⟩
  rw [← hR]
  have HR := Lib.hid hR
  have HL := Lib.hid hr.1
  clear hR
  obtain ⟨b2, o2, rfl, hB2, hcs⟩ := hh.2 (by omega)
  have d0 := hcs p hp
  rw [hL_at (by rw [← HL.out]; exact hp)] at d0
  have hl0 := hm_lt L p
  obtain ⟨x0, hx0⟩ : ∃ x, x = hm L p := ⟨_, rfl⟩
  rw [← hx0] at d0 hl0
  have HX0 := Lib.hid hx0
  have HCS := Lib.hid hcs
  clear hx0 hcs hh
  go_enter Tryd.func29, Tryd.ntmps29
  go_wp2
  clear d0
  go_loop [7] (fun v => ∃ q : Nat, q ≤ p ∧ v = .int .i64 (hm L q) ∧ Hid (inl L (sk L p) = inl L (sk L q))) (fun v => (intOf v + 1).toNat)
  case atStart => exact ⟨p, Nat.le_refl _, by rw [HX0.out], rfl⟩
  case round =>
    obtain ⟨q, hq, rfl, HI⟩ := hrel
    cases hs : sk L q with
    | nil =>
      have HQ : Hid (inl L (sk L p) = false) := by show _ = _; rw [HI.out, hs]; rfl
      rw [hm_nil hs]
      clear HI hs
      go_wp2
      go_ret
      exact ⟨by rw [HR.out, HQ.out]; rfl, rfl⟩
    | cons t s =>
      rw [hm_cons hs]
      have htq := sk_lt (l := L) (k := q) (t := t) (by rw [hs]; simp)
      have htn : t < n := by omega
      have hneg : ((t : Int) == -1) = false := by rw [beq_eq_false_iff_ne]; omega
      have hneg2 : ((t : Int) != -1) = true := by simp [bne, hneg]
      obtain ⟨b1, o1, q1, q2, q3, rfl, hB1, hy, hd1, hd2, hd3⟩ := hr.at_ htn
      have HY := at_some hy
      have HI2 : inl L (sk L p) = (q1 == 21 || inl L (sk L t)) := by rw [HI.out, hs, inl_cons, HY, ← sk_head hs]
      have HI3 := Lib.hid HI2
      have d1 := HCS.out t htn
      rw [hL_at (by rw [← HL.out]; exact htn)] at d1
      obtain ⟨x, hx⟩ : ∃ x, x = hm L t := ⟨_, rfl⟩
      have hxl : x < t := by rw [hx]; exact (hm_lt L t).2
      rw [← hx] at d1
      have HX := Lib.hid hx
      clear hx hy HY HI HI2 hs hd2 hd3
      cases hv : (q1 == 21)
      · have HI4 : Hid (inl L (sk L p) = inl L (sk L t)) := by show _ = _; rw [HI3.out, hv]; rfl
        go_wp2
        go_round
        case rel => exact ⟨t, by omega, by rw [HX.out], HI4⟩
        case measure => simp [intOf]; omega
      · have HQ : Hid (inl L (sk L p) = true) := by show _ = _; rw [HI3.out, hv]; rfl
        go_wp2
        go_ret
        exact ⟨by rw [HR.out, HQ.out]; rfl, rfl⟩
end Go.Proofs.YtncnofcgpiaadaaDoor
