/- What is proved here: contracts of ceil.within, rise, rightLens (slices.IndexFunc and ContainsFunc at its test). Conditions: rows are not too long. -/
import Derived.Test.YthicoekoeffpaaaRo
namespace Go.Proofs.Ythicoekoeffpaaa
open Go.ChangeShapes Go.WideShapes Go.RowKit

theorem inside_any (n lo hi : Int) (w : World) : Calls Try.prog 22 #[.int .i64 n, .int .i64 lo, .int .i64 hi] w fun e w' => e = .returned (.bool (inB n lo hi)) ∧ w = w' := by
  by_cases h : lo ≤ n
  · obtain ⟨z, hz⟩ : ∃ z, z = decide (n ≤ hi) := ⟨_, rfl⟩
    have e : inB n lo hi = z := by unfold inB; rw [decide_eq_true h, hz]; rfl
    rw [e]
    have d : decide (lo ≤ n) = true := decide_eq_true h
    cases z
    all_goals
      have hz2 := hz.symm
      clear hz e
      go_enter Try.func22, Try.ntmps22
      go_wp2
      go_ret
      exact ⟨rfl, rfl⟩
  · have e : inB n lo hi = false := inB_f (by omega)
    rw [e]
    have d : decide (lo ≤ n) = false := decide_eq_false h
    go_enter Try.func22, Try.ntmps22
    go_wp2
    go_ret
    exact ⟨rfl, rfl⟩
theorem rise_step {A room p : Int} {l : List Int} {k : Nat} (h : l[k]? = some p) : riseE A room (l.drop k) = (decide (A < p) && (decide (p < room) && riseE p room (l.drop (k + 1)))) := by
  rw [take_cons_drop h]; rfl
set_option maxHeartbeats 1000000 in
set_option maxRecDepth 100000 in
theorem rise_any (a : Option Addr) (n c : Nat) (l : List Int) (room : Int) (w : World) (hr : Row w a n l) (hn : n ≤ 140737488355328) (r : Bool) (hq : riseE (-1) room l = r) :
    Calls Try.prog 35 #[.slice a n c, .int .i64 room] w fun e w' => e = .returned (.bool r) ∧ Below w.heap.size w w' := by
  have HL := Lib.hid hr.1
  have HQ := Lib.hid hq
  clear hq
  have hm : n ≤ 9223372036854775807 := by omega
  go_enter Try.func35, Try.ntmps35
  go_wp2
  go_loopw [5, 10] (fun x i wr => ∃ (k : Nat) (A : Int), k ≤ n ∧ i = .int .i64 k ∧ x = .int .i64 A ∧ Hid (riseE A room (l.drop k) = r) ∧ Below w.heap.size w wr) (fun _ i _ => n - (intOf i).toNat)
  case atStart => exact ⟨0, -1, by omega, rfl, rfl, HQ, Below.refl _ _⟩
  case round =>
    obtain ⟨k, A, hk, rfl, rfl, HS, hbl⟩ := hrel
    by_cases hlt : k < n
    · obtain ⟨b1, o1, p, rfl, hB1, hx, hc1⟩ := (hr.below hbl).item hlt
      have HE := Lib.hid (rise_step (A := A) (room := room) hx)
      clear hx
      have i1 : (0 : Int) ≤ (k : Int) := by omega
      have i2 : (k : Int) < (n : Int) := by omega
      by_cases h1 : p ≤ A
      · have HR : Hid (r = false) := by have := HS.out; rw [HE.out, decide_eq_false (p := A < p) (by omega)] at this; exact this.symm
        have d1 : decide (p ≤ A) = true := decide_eq_true h1
        go_wp2
        go_ret
        exact ⟨by rw [HR.out]; rfl, hbl⟩
      have d1 : decide (p ≤ A) = false := decide_eq_false h1
      by_cases h2 : room ≤ p
      · have HR : Hid (r = false) := by have := HS.out; rw [HE.out, decide_eq_false (p := p < room) (by omega), Bool.false_and, Bool.and_false] at this; exact this.symm
        have d2 : decide (room ≤ p) = true := decide_eq_true h2
        go_wp2
        go_ret
        exact ⟨by rw [HR.out]; rfl, hbl⟩
      have d2 : decide (room ≤ p) = false := decide_eq_false h2
      have HT : Hid (riseE p room (l.drop (k + 1)) = r) := by have := HS.out; rw [HE.out, decide_eq_true (p := p < room) (by omega), decide_eq_true (p := A < p) (by omega)] at this; exact this
      go_wp2
      go_roundw
      case rel => exact ⟨k + 1, p, by omega, by go_num, rfl, HT, hbl⟩
      case measure => simp [intOf]; omega
    · obtain rfl : k = n := by omega
      have HR : Hid (r = true) := by have := HS.out; rw [List.drop_of_length_le (by rw [HL.out]; exact Nat.le_refl _)] at this; exact this.symm
      go_wp2
      go_ret
      exact ⟨by rw [HR.out]; rfl, hbl⟩
theorem notLen_any (n : Int) (w : World) (r : Bool) (hq : lenE n = r) : Calls Try.prog 39 #[.int .i64 n] w fun e w' => e = .returned (.bool (!r)) ∧ w = w' := by
  have C := Lib.hid (fun W => inside_any n 0 1099511627776 W)
  have HQ := Lib.hid hq
  clear hq
  go_enter Try.func39, Try.ntmps39
  go_wp2_with (go_at_call 22; refine (C.out _).mono ?_; rintro e w1 ⟨rfl, rfl⟩)
  go_ret
  exact ⟨by rw [← HQ.out]; rfl, rfl⟩
set_option maxHeartbeats 1000000 in
set_option maxRecDepth 100000 in
theorem indexLen_any (a : Option Addr) (n c : Nat) (l : List Int) (w : World) (hr : Row w a n l) (hn : n ≤ 140737488355328) :
    Calls Try.prog 40 #[.slice a n c, .func (.func 39) #[] #[]] w fun e w' => ∃ i, e = .returned (.int .i64 i) ∧ (decide (0 ≤ i)) = (!l.all lenE) ∧ Below w.heap.size w w' := by
  have HL := Lib.hid hr.1
  obtain ⟨r, hq⟩ : ∃ r, l.all lenE = r := ⟨_, rfl⟩
  rw [hq]
  have HQ : Hid ((l.drop 0).all lenE = r) := hq
  clear hq
  go_enter Try.func40, Try.ntmps40
  go_wp2
  go_loopw [8] (fun i wr => ∃ k : Nat, k ≤ n ∧ i = .int .i64 k ∧ Hid ((l.drop k).all lenE = r) ∧ Below w.heap.size w wr) (fun i _ => n - (intOf i).toNat)
  case atStart => exact ⟨0, by omega, rfl, HQ, Below.refl _ _⟩
  case round =>
    obtain ⟨k, hk, rfl, HA, hbl⟩ := hrel
    by_cases hlt : k < n
    · obtain ⟨b1, o1, x, rfl, hB1, hx, hc1⟩ := (hr.below hbl).item hlt
      have HE := Lib.hid (all_step (f := lenE) hx)
      clear hx
      obtain ⟨v, hv⟩ : ∃ v, lenE x = v := ⟨_, rfl⟩
      have CE := Lib.hid (fun W => notLen_any x W v hv)
      have HV := Lib.hid hv
      clear hv
      cases v
      · have HR : Hid (r = false) := by have := HA.out; rw [HE.out, HV.out] at this; exact this.symm
        go_wp2_with (go_at_call 39; refine (CE.out _).mono ?_; rintro e w2 ⟨rfl, rfl⟩)
        go_ret
        exact ⟨_, rfl, by rw [HR.out]; simp, hbl⟩
      · have HA2 : Hid ((l.drop (k + 1)).all lenE = r) := by have := HA.out; rw [HE.out, HV.out] at this; exact this
        go_wp2_with (go_at_call 39; refine (CE.out _).mono ?_; rintro e w2 ⟨rfl, rfl⟩)
        go_roundw
        case rel => exact ⟨k + 1, by omega, by go_num, HA2, hbl⟩
        case measure => simp [intOf]; omega
    · have hkn : k = n := by omega
      subst hkn
      have HR : Hid (r = true) := by have := HA.out; rw [List.drop_of_length_le (by rw [HL.out]; exact Nat.le_refl _)] at this; exact this.symm
      go_wp2
      go_ret
      exact ⟨_, rfl, by rw [HR.out]; rfl, hbl⟩
theorem containsLen_any (a : Option Addr) (n c : Nat) (l : List Int) (w : World) (hr : Row w a n l) (hn : n ≤ 140737488355328) :
    Calls Try.prog 38 #[.slice a n c, .func (.func 39) #[] #[]] w fun e w' => e = .returned (.bool (!l.all lenE)) ∧ Below w.heap.size w w' := by
  have C := Lib.hid (indexLen_any a n c l w hr hn)
  clear hr hn
  go_enter Try.func38, Try.ntmps38
  go_wp2_with (go_at_call 40; refine C.out.mono ?_; rintro e w1 ⟨i, rfl, hi, hb⟩)
  go_ret
  exact ⟨by rw [← hi]; rfl, hb⟩
theorem rightLens_any (a : Option Addr) (n c : Nat) (l : List Int) (w : World) (hr : Row w a n l) (hn : n ≤ 140737488355328) (r : Bool) (hq : l.all lenE = r) :
    Calls Try.prog 36 #[.slice a n c] w fun e w' => e = .returned (.bool r) ∧ Below w.heap.size w w' := by
  have C := Lib.hid (containsLen_any a n c l w hr hn)
  have HQ := Lib.hid hq
  clear hr hn hq
  go_enter Try.func36, Try.ntmps36
  go_wp2_with (go_at_call 38; refine C.out.mono ?_; rintro e w1 ⟨rfl, hb⟩)
  go_ret
  exact ⟨by rw [HQ.out]; simp, hb⟩
/-! ### A number among some -/
set_option maxHeartbeats 1000000 in
set_option maxRecDepth 100000 in
theorem indexOf_any (a : Option Addr) (n c : Nat) (l : List Int) (x : Int) (w : World) (hr : Row w a n l) (hn : n ≤ 140737488355328) :
    Calls Try.prog 37 #[.slice a n c, .int .i64 x] w fun e w' => ∃ i, e = .returned (.int .i64 i) ∧ (decide (0 ≤ i)) = l.contains x ∧ w' = w := by
  have HL := Lib.hid hr.1
  obtain ⟨r, hq⟩ : ∃ r, l.contains x = r := ⟨_, rfl⟩
  rw [hq]
  have HQ : Hid ((l.drop 0).contains x = r) := hq
  clear hq
  go_enter Try.func37, Try.ntmps37
  go_wp2
  go_loopw [8] (fun i wr => ∃ k : Nat, k ≤ n ∧ i = .int .i64 k ∧ Hid ((l.drop k).contains x = r) ∧ wr = w) (fun i _ => n - (intOf i).toNat)
  case atStart => exact ⟨0, by omega, rfl, HQ, rfl⟩
  case round =>
    obtain ⟨k, hk, rfl, HA, rfl⟩ := hrel
    by_cases hlt : k < n
    · obtain ⟨b1, o1, y, rfl, hB1, hx, hc1⟩ := hr.item hlt
      have HE : Hid ((l.drop k).contains x = (x == y || (l.drop (k + 1)).contains x)) := by show _ = _; rw [take_cons_drop hx, List.contains_cons]
      clear hx
      by_cases hv : x = y
      · have HR : Hid (r = true) := by have := HA.out; rw [HE.out, hv, beq_self_eq_true] at this; exact this.symm
        go_wp2
        go_ret
        exact ⟨_, rfl, by rw [HR.out]; simp, rfl⟩
      · have HA2 : Hid ((l.drop (k + 1)).contains x = r) := by have := HA.out; rw [HE.out, beq_eq_false_iff_ne.2 hv] at this; exact this
        go_wp2
        go_roundw
        case rel => exact ⟨k + 1, by omega, by go_num, HA2, by trivial⟩
        case measure => simp [intOf]; omega
    · have hkn : k = n := by omega
      subst hkn
      have HR : Hid (r = false) := by have := HA.out; rw [List.drop_of_length_le (by rw [HL.out]; exact Nat.le_refl _)] at this; exact this.symm
      go_wp2
      go_ret
      exact ⟨_, rfl, by rw [HR.out]; rfl, rfl⟩
theorem contains_any (a : Option Addr) (n c : Nat) (l : List Int) (x : Int) (w : World) (hr : Row w a n l) (hn : n ≤ 140737488355328) (r : Bool) (hq : l.contains x = r) :
    Calls Try.prog 29 #[.slice a n c, .int .i64 x] w fun e w' => e = .returned (.bool r) ∧ w' = w := by
  have C := Lib.hid (indexOf_any a n c l x w hr hn)
  have HQ := Lib.hid hq
  clear hr hn hq
  go_enter Try.func29, Try.ntmps29
  go_wp2_with (go_at_call 37; refine C.out.mono ?_; rintro e w1 ⟨i, rfl, hi, rfl⟩; have HI := Lib.hid (hi.trans HQ.out); clear hi)
  go_ret
  exact ⟨by rw [← HI.out]; rfl, rfl⟩
end Go.Proofs.Ythicoekoeffpaaa
