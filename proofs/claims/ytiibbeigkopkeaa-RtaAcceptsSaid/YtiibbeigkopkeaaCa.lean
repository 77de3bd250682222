/- What is proved here: contracts of the program's tests of a row, of slices.IndexFunc and ContainsFunc at these, and of its Right and has. Conditions: rows are not too long. -/
import Derived.Test.YtiibbeigkopkeaaRb
namespace Go.Proofs.Ytiibbeigkopkeaa
open Go.ChangeShapes Go.WideShapes Go.RowKit

/-- Whether the numbers that sums are made of can be. -/
def okT (x : RtR) : Bool := decide (0 < x.C) && (rt x.C && (rt x.B && (decide (0 < x.T) && (rt x.T && rt x.J))))
theorem okR_T (x : RtR) : okR x = (okT x && (decide (1 ≤ x.D) && (decide (x.D ≤ 1048576) && (decide (1 ≤ x.P) && decide (x.P ≤ 100))))) := by
  rw [Bool.eq_iff_iff]
  unfold okR okT rt rtI
  simp only [Bool.and_eq_true, decide_eq_true_eq]
  omega
theorem rgR_len (L : List RtR) : rgR L = (decide (L.length ≤ 8) && L.all okR) := by unfold rgR; rw [Bool.and_comm]
set_option maxHeartbeats 4000000 in
set_option maxRecDepth 100000 in
theorem times_any (x : RtR) (w : World) (r : Bool) (hq : okT x = r) :
    Calls Try.prog 35 #[.agg #[.int .i64 x.C, .int .i64 x.B, .int .i64 x.T, .int .i64 x.D, .int .i64 x.J, .int .i64 x.P]] w fun e w' => e = .returned (.bool r) ∧ Below w.heap.size w w' := by
  have I1 := Lib.hid (One.new w #[.int .i64 x.C, .int .i64 x.B, .int .i64 x.T, .int .i64 x.D, .int .i64 x.J, .int .i64 x.P] 41)
  have d0 := I1.out.2 0 _ rfl
  have d1 := I1.out.2 1 _ rfl
  have d2 := I1.out.2 2 _ rfl
  have d4 := I1.out.2 4 _ rfl
  have HQ := Lib.hid hq
  clear hq
  rcases Bool.eq_false_or_eq_true (decide (0 < x.C)) with g0 | g0
  rotate_left
  · have HR : Hid (r = false) := by show _ = _; rw [← HQ.out]; unfold okT; rw [g0]; simp
    go_enter Try.func35, Try.ntmps35
    go_wp2
    go_ret
    exact ⟨by rw [HR.out]; rfl, I1.out.1⟩
  rcases Bool.eq_false_or_eq_true (rt x.C) with g1 | g1
  rotate_left
  · have HR : Hid (r = false) := by show _ = _; rw [← HQ.out]; unfold okT; rw [g0, g1]; simp
    go_enter Try.func35, Try.ntmps35
    go_wp2_with (go_at_call 22; refine (right_any _ _).mono ?_; rintro e w2 ⟨rfl, rfl⟩; first | rw [g1])
    go_ret
    exact ⟨by rw [HR.out]; rfl, I1.out.1⟩
  rcases Bool.eq_false_or_eq_true (rt x.B) with g2 | g2
  rotate_left
  · have HR : Hid (r = false) := by show _ = _; rw [← HQ.out]; unfold okT; rw [g0, g1, g2]; simp
    go_enter Try.func35, Try.ntmps35
    go_wp2_with (go_at_call 22; refine (right_any _ _).mono ?_; rintro e w2 ⟨rfl, rfl⟩; first | rw [g1] | rw [g2])
    go_ret
    exact ⟨by rw [HR.out]; rfl, I1.out.1⟩
  rcases Bool.eq_false_or_eq_true (decide (0 < x.T)) with g3 | g3
  rotate_left
  · have HR : Hid (r = false) := by show _ = _; rw [← HQ.out]; unfold okT; rw [g0, g1, g2, g3]; simp
    go_enter Try.func35, Try.ntmps35
    go_wp2_with (go_at_call 22; refine (right_any _ _).mono ?_; rintro e w2 ⟨rfl, rfl⟩; first | rw [g1] | rw [g2])
    go_ret
    exact ⟨by rw [HR.out]; rfl, I1.out.1⟩
  rcases Bool.eq_false_or_eq_true (rt x.T) with g4 | g4
  rotate_left
  · have HR : Hid (r = false) := by show _ = _; rw [← HQ.out]; unfold okT; rw [g0, g1, g2, g3, g4]; simp
    go_enter Try.func35, Try.ntmps35
    go_wp2_with (go_at_call 22; refine (right_any _ _).mono ?_; rintro e w2 ⟨rfl, rfl⟩; first | rw [g1] | rw [g2] | rw [g4])
    go_ret
    exact ⟨by rw [HR.out]; rfl, I1.out.1⟩
  rcases Bool.eq_false_or_eq_true (rt x.J) with g5 | g5
  rotate_left
  · have HR : Hid (r = false) := by show _ = _; rw [← HQ.out]; unfold okT; rw [g0, g1, g2, g3, g4, g5]; simp
    go_enter Try.func35, Try.ntmps35
    go_wp2_with (go_at_call 22; refine (right_any _ _).mono ?_; rintro e w2 ⟨rfl, rfl⟩; first | rw [g1] | rw [g2] | rw [g4] | rw [g5])
    go_ret
    exact ⟨by rw [HR.out]; rfl, I1.out.1⟩
  have HR : Hid (r = true) := by show _ = _; rw [← HQ.out]; unfold okT; rw [g0, g1, g2, g3, g4, g5]; rfl
  go_enter Try.func35, Try.ntmps35
  go_wp2_with (go_at_call 22; refine (right_any _ _).mono ?_; rintro e w2 ⟨rfl, rfl⟩; first | rw [g1] | rw [g2] | rw [g4] | rw [g5])
  go_ret
  exact ⟨by rw [HR.out]; rfl, I1.out.1⟩
set_option maxHeartbeats 4000000 in
set_option maxRecDepth 100000 in
theorem rowOk_any (x : RtR) (w : World) (r : Bool) (hq : okR x = r) :
    Calls Try.prog 29 #[.agg #[.int .i64 x.C, .int .i64 x.B, .int .i64 x.T, .int .i64 x.D, .int .i64 x.J, .int .i64 x.P]] w fun e w' => e = .returned (.bool r) ∧ Below w.heap.size w w' := by
  have I1 := Lib.hid (One.new w #[.int .i64 x.C, .int .i64 x.B, .int .i64 x.T, .int .i64 x.D, .int .i64 x.J, .int .i64 x.P] 41)
  have d0 := I1.out.2 0 _ rfl
  have d1 := I1.out.2 1 _ rfl
  have d2 := I1.out.2 2 _ rfl
  have d3 := I1.out.2 3 _ rfl
  have d4 := I1.out.2 4 _ rfl
  have d5 := I1.out.2 5 _ rfl
  rw [okR_T] at hq
  obtain ⟨t, ht⟩ : ∃ t, okT x = t := ⟨_, rfl⟩
  have C := Lib.hid (fun W => times_any x W t ht)
  rw [ht] at hq
  have HQ := Lib.hid hq
  clear hq ht
  cases t
  · have HR : Hid (r = false) := HQ.out.symm
    go_enter Try.func29, Try.ntmps29
    go_wp2_with (go_at_call 35; refine (C.out _).mono ?_; rintro e w2 ⟨rfl, hb2⟩; have J2 := I1.out.keep hb2)
    go_ret
    exact ⟨by rw [HR.out]; rfl, J2.1⟩
  rcases Bool.eq_false_or_eq_true (decide (1 ≤ x.D)) with g0 | g0
  rotate_left
  · have HR : Hid (r = false) := by show _ = _; rw [← HQ.out, g0]; simp
    go_enter Try.func29, Try.ntmps29
    go_wp2_with (go_at_call 35; refine (C.out _).mono ?_; rintro e w2 ⟨rfl, hb2⟩; have J2 := I1.out.keep hb2; have f3 := J2.2 3 _ rfl; have f5 := J2.2 5 _ rfl)
    go_ret
    exact ⟨by rw [HR.out]; rfl, J2.1⟩
  rcases Bool.eq_false_or_eq_true (decide (x.D ≤ 1048576)) with g1 | g1
  rotate_left
  · have HR : Hid (r = false) := by show _ = _; rw [← HQ.out, g0, g1]; simp
    go_enter Try.func29, Try.ntmps29
    go_wp2_with (go_at_call 35; refine (C.out _).mono ?_; rintro e w2 ⟨rfl, hb2⟩; have J2 := I1.out.keep hb2; have f3 := J2.2 3 _ rfl; have f5 := J2.2 5 _ rfl)
    go_ret
    exact ⟨by rw [HR.out]; rfl, J2.1⟩
  rcases Bool.eq_false_or_eq_true (decide (1 ≤ x.P)) with g2 | g2
  rotate_left
  · have HR : Hid (r = false) := by show _ = _; rw [← HQ.out, g0, g1, g2]; simp
    go_enter Try.func29, Try.ntmps29
    go_wp2_with (go_at_call 35; refine (C.out _).mono ?_; rintro e w2 ⟨rfl, hb2⟩; have J2 := I1.out.keep hb2; have f3 := J2.2 3 _ rfl; have f5 := J2.2 5 _ rfl)
    go_ret
    exact ⟨by rw [HR.out]; rfl, J2.1⟩
  rcases Bool.eq_false_or_eq_true (decide (x.P ≤ 100)) with g3 | g3
  rotate_left
  · have HR : Hid (r = false) := by show _ = _; rw [← HQ.out, g0, g1, g2, g3]; simp
    go_enter Try.func29, Try.ntmps29
    go_wp2_with (go_at_call 35; refine (C.out _).mono ?_; rintro e w2 ⟨rfl, hb2⟩; have J2 := I1.out.keep hb2; have f3 := J2.2 3 _ rfl; have f5 := J2.2 5 _ rfl)
    go_ret
    exact ⟨by rw [HR.out]; rfl, J2.1⟩
  have HR : Hid (r = true) := by show _ = _; rw [← HQ.out, g0, g1, g2, g3]; rfl
  go_enter Try.func29, Try.ntmps29
  go_wp2_with (go_at_call 35; refine (C.out _).mono ?_; rintro e w2 ⟨rfl, hb2⟩; have J2 := I1.out.keep hb2; have f3 := J2.2 3 _ rfl; have f5 := J2.2 5 _ rfl)
  go_ret
  exact ⟨by rw [HR.out]; rfl, J2.1⟩
set_option maxHeartbeats 4000000 in
set_option maxRecDepth 100000 in
theorem notRow_any (x : RtR) (w : World) (r : Bool) (hq : okR x = r) :
    Calls Try.prog 28 #[.agg #[.int .i64 x.C, .int .i64 x.B, .int .i64 x.T, .int .i64 x.D, .int .i64 x.J, .int .i64 x.P]] w fun e w' => e = .returned (.bool (!r)) ∧ Below w.heap.size w w' := by
  have I1 := Lib.hid (One.new w #[.int .i64 x.C, .int .i64 x.B, .int .i64 x.T, .int .i64 x.D, .int .i64 x.J, .int .i64 x.P] 41)
  have d0 := I1.out.2 0 _ rfl
  have d1 := I1.out.2 1 _ rfl
  have d2 := I1.out.2 2 _ rfl
  have d3 := I1.out.2 3 _ rfl
  have d4 := I1.out.2 4 _ rfl
  have d5 := I1.out.2 5 _ rfl
  have C := Lib.hid (fun W => rowOk_any x W r hq)
  clear hq
  go_enter Try.func28, Try.ntmps28
  go_wp2_with (go_at_call 29; refine (C.out _).mono ?_; rintro e w1 ⟨rfl, hb⟩; have J := I1.out.keep hb)
  go_ret
  exact ⟨rfl, J.1⟩
set_option maxHeartbeats 4000000 in
set_option maxRecDepth 100000 in
theorem indexRow_any (a : Option Addr) (n c : Nat) (L : List RtR) (w : World) (hr : RowS w a n L) (hn : n ≤ 140737488355328) :
    Calls Try.prog 34 #[.slice a n c, .func (.func 28) #[] #[]] w fun e w' => ∃ i, e = .returned (.int .i64 i) ∧ (decide (0 ≤ i)) = (!L.all okR) ∧ Below w.heap.size w w' := by
  have HL := Lib.hid hr.1
  obtain ⟨r, hq⟩ : ∃ r, L.all okR = r := ⟨_, rfl⟩
  rw [hq]
  have HQ : Hid ((L.drop 0).all okR = r) := hq
  clear hq
  go_enter Try.func34, Try.ntmps34
  go_wp2
  go_loopw [8] (fun i wr => ∃ k : Nat, k ≤ n ∧ i = .int .i64 k ∧ Hid ((L.drop k).all okR = r) ∧ Below w.heap.size w wr) (fun i _ => n - (intOf i).toNat)
  case atStart => exact ⟨0, by omega, rfl, HQ, Below.refl _ _⟩
  case round =>
    obtain ⟨k, hk, rfl, HA, hbl⟩ := hrel
    by_cases hlt : k < n
    · obtain ⟨b1, o1, x, rfl, hB1, hx, h0, h1, h2, h3, h4, h5⟩ := hr.item hbl hlt
      have HE := Lib.hid (all_step (f := okR) hx)
      clear hx
      have i1 : (0 : Int) ≤ (k : Int) := by omega
      have i2 : (k : Int) < (n : Int) := by omega
      obtain ⟨v, hv⟩ : ∃ v, okR x = v := ⟨_, rfl⟩
      have CE := Lib.hid (notRow_any x wr v hv)
      have HV := Lib.hid hv
      clear hv
      cases v
      · have HR : Hid (r = false) := by have := HA.out; rw [HE.out, HV.out] at this; exact this.symm
        go_wp2_with (go_at_call 28; refine CE.out.mono ?_; rintro e w2 ⟨rfl, hb2⟩)
        go_ret
        exact ⟨_, rfl, by rw [HR.out]; simp, keep_below hbl hb2⟩
      · have HA2 : Hid ((L.drop (k + 1)).all okR = r) := by have := HA.out; rw [HE.out, HV.out] at this; exact this
        go_wp2_with (go_at_call 28; refine CE.out.mono ?_; rintro e w2 ⟨rfl, hb2⟩)
        go_roundw
        case rel => exact ⟨k + 1, by omega, by go_num, HA2, keep_below hbl hb2⟩
        case measure => simp [intOf]; omega
    · have hkn : k = n := by omega
      subst hkn
      have HR : Hid (r = true) := by have := HA.out; rw [List.drop_of_length_le (by rw [HL.out]; exact Nat.le_refl _)] at this; exact this.symm
      go_wp2
      go_ret
      exact ⟨_, rfl, by rw [HR.out]; rfl, hbl⟩
theorem containsRow_any (a : Option Addr) (n c : Nat) (L : List RtR) (w : World) (hr : RowS w a n L) (hn : n ≤ 140737488355328) :
    Calls Try.prog 27 #[.slice a n c, .func (.func 28) #[] #[]] w fun e w' => e = .returned (.bool (!L.all okR)) ∧ Below w.heap.size w w' := by
  have C := Lib.hid (indexRow_any a n c L w hr hn)
  clear hr hn
  go_enter Try.func27, Try.ntmps27
  go_wp2_with (go_at_call 34; refine C.out.mono ?_; rintro e w1 ⟨i, rfl, hi, hb⟩)
  go_ret
  exact ⟨by rw [← hi]; rfl, hb⟩
set_option maxHeartbeats 4000000 in
set_option maxRecDepth 100000 in
theorem rowsP_any (a : Option Addr) (n c : Nat) (L : List RtR) (w : World) (hr : RowS w a n L) (hn : n ≤ 140737488355328) (r : Bool) (hq : rgR L = r) :
    Calls Try.prog 18 #[.slice a n c] w fun e w' => e = .returned (.bool r) ∧ Below w.heap.size w w' := by
  have C := Lib.hid (containsRow_any a n c L w hr hn)
  have HS : Hid ((decide (n ≤ 8) && L.all okR) = r) := by show _ = _; rw [← hq, rgR_len, hr.1]
  clear hr hq
  obtain ⟨v, hv⟩ : ∃ v, L.all okR = v := ⟨_, rfl⟩
  rw [hv] at C HS
  clear hv
  by_cases h8 : n ≤ 8
  · have HR : Hid (v = r) := by have := HS.out; rw [decide_eq_true h8] at this; exact this
    have h8i : (n : Int) ≤ 8 := by omega
    go_enter Try.func18, Try.ntmps18
    go_wp2_with (go_at_call 27; refine C.out.mono ?_; rintro e w1 ⟨rfl, hb⟩)
    go_ret
    exact ⟨by rw [HR.out]; simp, hb⟩
  · have HR : Hid (r = false) := by have := HS.out; rw [decide_eq_false h8] at this; exact this.symm
    have h8i : ¬ (n : Int) ≤ 8 := by omega
    go_enter Try.func18, Try.ntmps18
    go_wp2
    go_ret
    exact ⟨by rw [HR.out]; rfl, Below.refl _ _⟩
set_option maxHeartbeats 4000000 in
set_option maxRecDepth 100000 in
theorem hasP_any (a : Option Addr) (n c : Nat) (L : List RtR) (i : Int) (w : World) (hr : RowS w a n L) (hn : n ≤ 140737488355328) (r : Bool) (hq : (rgR L && (decide (0 ≤ i) && decide (i < (L.length : Int)))) = r) :
    Calls Try.prog 21 #[.slice a n c, .int .i64 i] w fun e w' => e = .returned (.bool r) ∧ Below w.heap.size w w' := by
  obtain ⟨g, hg⟩ : ∃ g, rgR L = g := ⟨_, rfl⟩
  have C := Lib.hid (rowsP_any a n c L w hr hn g hg)
  rw [hg, ← hr.1] at hq
  have HQ := Lib.hid hq
  clear hr hq hg
  cases g
  · have HR : Hid (r = false) := HQ.out.symm
    go_enter Try.func21, Try.ntmps21
    go_wp2_with (go_at_call 18; refine C.out.mono ?_; rintro e w1 ⟨rfl, hb⟩)
    go_ret
    exact ⟨by rw [HR.out]; rfl, hb⟩
  rcases Bool.eq_false_or_eq_true (decide (0 ≤ i)) with g0 | g0
  rotate_left
  · have HR : Hid (r = false) := by show _ = _; rw [← HQ.out, g0]; rfl
    go_enter Try.func21, Try.ntmps21
    go_wp2_with (go_at_call 18; refine C.out.mono ?_; rintro e w1 ⟨rfl, hb⟩)
    go_ret
    exact ⟨by rw [HR.out]; rfl, hb⟩
  have HR : Hid (decide (i < (n : Int)) = r) := by show _ = _; rw [← HQ.out, g0]; rfl
  go_enter Try.func21, Try.ntmps21
  go_wp2_with (go_at_call 18; refine C.out.mono ?_; rintro e w1 ⟨rfl, hb⟩)
  go_ret
  exact ⟨by rw [← HR.out]; rfl, hb⟩
end Go.Proofs.Ytiibbeigkopkeaa
