/- What is proved here: a contract of the document's Right. Conditions: rows are not too long. -/
import Derived.Test.YtiibbeigkopkeaaRw
namespace Go.Proofs.Ytiibbeigkopkeaa
open Go.ChangeShapes Go.WideShapes Go.RowKit

theorem rightAs (n : Int) (v : Bool) (h : rtI n = v) (w : World) : Calls Try.prog 24 #[.int .i64 n] w fun e w' => e = .returned (.bool v) ∧ w' = w :=
  (rightR_any n w).mono (fun e w' ⟨h1, h2⟩ => ⟨by rw [h1]; rw [show rt n = v from h], h2⟩)
set_option maxHeartbeats 4000000 in
set_option maxRecDepth 100000 in
theorem rowsR_any (a : Option Addr) (n c : Nat) (L : List RtR) (w : World) (hr : RowS w a n L) (hn : n ≤ 140737488355328) (r : Bool) (hq : rgR L = r) :
    Calls Try.prog 19 #[.slice a n c] w fun e w' => e = .returned (.bool r) ∧ Below w.heap.size w w' := by
  have HL := Lib.hid hr.1
  have HS : Hid (((L.drop 0).all okR && decide (n ≤ 8)) = r) := by
    show _ = _
    rw [← hq]; unfold rgR; rw [hr.1]; rfl
  clear hq
  go_enter Try.func19, Try.ntmps19
  go_wp2
  go_loopw [3] (fun i wr => ∃ k : Nat, k ≤ n ∧ i = .int .i64 k ∧ Hid (((L.drop k).all okR && decide (n ≤ 8)) = r) ∧ Below w.heap.size w wr) (fun i _ => n - (intOf i).toNat)
  case atStart => exact ⟨0, by omega, rfl, HS, Below.refl _ _⟩
  case round =>
    obtain ⟨k, hk, rfl, HA, hbl⟩ := hrel
    by_cases hlt : k < n
    · obtain ⟨b1, o1, x, rfl, hB1, hx, h0, h1, h2, h3, h4, h5⟩ := hr.item hbl hlt
      have HE := Lib.hid (all_step (f := okR) hx)
      clear hx
      have i1 : (0 : Int) ≤ (k : Int) := by omega
      have i2 : (k : Int) < (n : Int) := by omega
      rcases Bool.eq_false_or_eq_true (rtI x.C) with g0 | g0
      rotate_left
      · have HR : Hid (r = false) := by show _ = _; rw [← HA.out, HE.out]; unfold okR; rw [g0]; simp
        clear HA HE
        go_wp2_with (go_at_call 24; refine (rightR_any _ _).mono ?_; rintro e w2 ⟨rfl, rfl⟩; first | rw [show rt x.C = false from g0])
        go_ret
        exact ⟨by rw [HR.out]; rfl, keep_below hbl (below_alloc _ _)⟩
      rcases Bool.eq_false_or_eq_true (rtI x.B) with g1 | g1
      rotate_left
      · have HR : Hid (r = false) := by show _ = _; rw [← HA.out, HE.out]; unfold okR; rw [g0, g1]; simp
        clear HA HE
        go_wp2_with (go_at_call 24; refine (rightR_any _ _).mono ?_; rintro e w2 ⟨rfl, rfl⟩; first | rw [show rt x.C = true from g0] | rw [show rt x.B = false from g1])
        go_ret
        exact ⟨by rw [HR.out]; rfl, keep_below hbl (below_alloc _ _)⟩
      rcases Bool.eq_false_or_eq_true (rtI x.T) with g2 | g2
      rotate_left
      · have HR : Hid (r = false) := by show _ = _; rw [← HA.out, HE.out]; unfold okR; rw [g0, g1, g2]; simp
        clear HA HE
        go_wp2_with (go_at_call 24; refine (rightR_any _ _).mono ?_; rintro e w2 ⟨rfl, rfl⟩; first | rw [show rt x.C = true from g0] | rw [show rt x.B = true from g1] | rw [show rt x.T = false from g2])
        go_ret
        exact ⟨by rw [HR.out]; rfl, keep_below hbl (below_alloc _ _)⟩
      rcases Bool.eq_false_or_eq_true (rtI x.J) with g3 | g3
      rotate_left
      · have HR : Hid (r = false) := by show _ = _; rw [← HA.out, HE.out]; unfold okR; rw [g0, g1, g2, g3]; simp
        clear HA HE
        go_wp2_with (go_at_call 24; refine (rightR_any _ _).mono ?_; rintro e w2 ⟨rfl, rfl⟩; first | rw [show rt x.C = true from g0] | rw [show rt x.B = true from g1] | rw [show rt x.T = true from g2] | rw [show rt x.J = false from g3])
        go_ret
        exact ⟨by rw [HR.out]; rfl, keep_below hbl (below_alloc _ _)⟩
      by_cases z0 : x.C < 1
      · have q0 : decide (x.C < 1) = true := decide_eq_true z0
        have HR : Hid (r = false) := by show _ = _; rw [← HA.out, HE.out]; unfold okR; rw [decide_eq_false (p := 1 ≤ x.C) (by omega)]; simp
        clear HA HE
        go_wp2_with (go_at_call 24; refine (rightR_any _ _).mono ?_; rintro e w2 ⟨rfl, rfl⟩; first | rw [show rt x.C = true from g0] | rw [show rt x.B = true from g1] | rw [show rt x.T = true from g2] | rw [show rt x.J = true from g3])
        go_ret
        exact ⟨by rw [HR.out]; rfl, keep_below hbl (below_alloc _ _)⟩
      have q0 : decide (x.C < 1) = false := decide_eq_false z0
      by_cases z1 : x.T < 1
      · have q1 : decide (x.T < 1) = true := decide_eq_true z1
        have HR : Hid (r = false) := by show _ = _; rw [← HA.out, HE.out]; unfold okR; rw [decide_eq_false (p := 1 ≤ x.T) (by omega)]; simp
        clear HA HE
        go_wp2_with (go_at_call 24; refine (rightR_any _ _).mono ?_; rintro e w2 ⟨rfl, rfl⟩; first | rw [show rt x.C = true from g0] | rw [show rt x.B = true from g1] | rw [show rt x.T = true from g2] | rw [show rt x.J = true from g3])
        go_ret
        exact ⟨by rw [HR.out]; rfl, keep_below hbl (below_alloc _ _)⟩
      have q1 : decide (x.T < 1) = false := decide_eq_false z1
      by_cases z2 : x.D < 1
      · have q2 : decide (x.D < 1) = true := decide_eq_true z2
        have HR : Hid (r = false) := by show _ = _; rw [← HA.out, HE.out]; unfold okR; rw [decide_eq_false (p := 1 ≤ x.D) (by omega)]; simp
        clear HA HE
        go_wp2_with (go_at_call 24; refine (rightR_any _ _).mono ?_; rintro e w2 ⟨rfl, rfl⟩; first | rw [show rt x.C = true from g0] | rw [show rt x.B = true from g1] | rw [show rt x.T = true from g2] | rw [show rt x.J = true from g3])
        go_ret
        exact ⟨by rw [HR.out]; rfl, keep_below hbl (below_alloc _ _)⟩
      have q2 : decide (x.D < 1) = false := decide_eq_false z2
      by_cases z3 : 1048576 < x.D
      · have q3 : decide (1048576 < x.D) = true := decide_eq_true z3
        have HR : Hid (r = false) := by show _ = _; rw [← HA.out, HE.out]; unfold okR; rw [decide_eq_false (p := x.D ≤ 1048576) (by omega)]; simp
        clear HA HE
        go_wp2_with (go_at_call 24; refine (rightR_any _ _).mono ?_; rintro e w2 ⟨rfl, rfl⟩; first | rw [show rt x.C = true from g0] | rw [show rt x.B = true from g1] | rw [show rt x.T = true from g2] | rw [show rt x.J = true from g3])
        go_ret
        exact ⟨by rw [HR.out]; rfl, keep_below hbl (below_alloc _ _)⟩
      have q3 : decide (1048576 < x.D) = false := decide_eq_false z3
      by_cases z4 : x.P < 1
      · have q4 : decide (x.P < 1) = true := decide_eq_true z4
        have HR : Hid (r = false) := by show _ = _; rw [← HA.out, HE.out]; unfold okR; rw [decide_eq_false (p := 1 ≤ x.P) (by omega)]; simp
        clear HA HE
        go_wp2_with (go_at_call 24; refine (rightR_any _ _).mono ?_; rintro e w2 ⟨rfl, rfl⟩; first | rw [show rt x.C = true from g0] | rw [show rt x.B = true from g1] | rw [show rt x.T = true from g2] | rw [show rt x.J = true from g3])
        go_ret
        exact ⟨by rw [HR.out]; rfl, keep_below hbl (below_alloc _ _)⟩
      have q4 : decide (x.P < 1) = false := decide_eq_false z4
      by_cases z5 : 100 < x.P
      · have q5 : decide (100 < x.P) = true := decide_eq_true z5
        have HR : Hid (r = false) := by show _ = _; rw [← HA.out, HE.out]; unfold okR; rw [decide_eq_false (p := x.P ≤ 100) (by omega)]; simp
        clear HA HE
        go_wp2_with (go_at_call 24; refine (rightR_any _ _).mono ?_; rintro e w2 ⟨rfl, rfl⟩; first | rw [show rt x.C = true from g0] | rw [show rt x.B = true from g1] | rw [show rt x.T = true from g2] | rw [show rt x.J = true from g3])
        go_ret
        exact ⟨by rw [HR.out]; rfl, keep_below hbl (below_alloc _ _)⟩
      have q5 : decide (100 < x.P) = false := decide_eq_false z5
      have HV : Hid (okR x = true) := by show _ = _; unfold okR; rw [g0, g1, g2, g3, decide_eq_true (p := 1 ≤ x.C) (by omega), decide_eq_true (p := 1 ≤ x.T) (by omega), decide_eq_true (p := 1 ≤ x.D) (by omega), decide_eq_true (p := x.D ≤ 1048576) (by omega), decide_eq_true (p := 1 ≤ x.P) (by omega), decide_eq_true (p := x.P ≤ 100) (by omega)]; rfl
      have HA2 : Hid (((L.drop (k + 1)).all okR && decide (n ≤ 8)) = r) := by have := HA.out; rw [HE.out, HV.out] at this; exact this
      clear HA HE
      go_wp2_with (go_at_call 24; refine (rightR_any _ _).mono ?_; rintro e w2 ⟨rfl, rfl⟩; first | rw [show rt x.C = true from g0] | rw [show rt x.B = true from g1] | rw [show rt x.T = true from g2] | rw [show rt x.J = true from g3])
      go_roundw
      case rel => exact ⟨k + 1, by omega, by go_num, HA2, keep_below hbl (below_alloc _ _)⟩
      case measure => simp [intOf]; omega
    · obtain rfl : n = k := by omega
      have HR : Hid (decide (n ≤ 8) = r) := by
        show _ = _
        rw [← HA.out, List.drop_of_length_le (by rw [HL.out]; exact Nat.le_refl _)]; rfl
      clear HA
      by_cases h3 : n ≤ 8
      · have h3i : (n : Int) ≤ 8 := by omega
        have HR3 : Hid (r = true) := by show _ = _; rw [← HR.out, decide_eq_true h3]
        go_wp2
        go_ret
        exact ⟨by rw [HR3.out]; simp, hbl⟩
      · have h3i : ¬ (n : Int) ≤ 8 := by omega
        have HR3 : Hid (r = false) := by show _ = _; rw [← HR.out, decide_eq_false h3]
        go_wp2
        go_ret
        exact ⟨by rw [HR3.out]; simp, hbl⟩
end Go.Proofs.Ytiibbeigkopkeaa
