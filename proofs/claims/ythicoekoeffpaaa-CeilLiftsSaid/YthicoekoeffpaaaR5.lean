/- What is proved here: contracts of the document's bit and Active. Conditions: numbers fit 64 bits; the row is not too long. -/
import Derived.Test.YthicoekoeffpaaaBi
namespace Go.Proofs.Ythicoekoeffpaaa
open Go.ChangeShapes Go.WideShapes Go.RowKit

def Fit (h : Int) : Prop := -9223372036854775808 ≤ h ∧ h ≤ 9223372036854775807
theorem half_pow (h : Int) (i : Nat) : h / 2 ^ (i + 1) = h / 2 ^ i / 2 := by
  rw [Int.pow_succ, ← Int.ediv_ediv_of_nonneg (Int.le_of_lt (Int.pow_pos (by decide)))]
theorem half_fit {x : Int} (h : Fit x) : Fit (x / 2) := by unfold Fit at *; omega
theorem tdiv_even {z : Int} (h : z % 2 = 0) : z.tdiv 2 = z / 2 := by
  obtain ⟨q, rfl⟩ : ∃ q, z = 2 * q := ⟨z / 2, by omega⟩
  rw [Int.mul_tdiv_cancel_left _ (by decide)]; omega
theorem tmod_two (y : Int) : y.tmod 2 = y % 2 ∨ (y.tmod 2 = -1 ∧ y % 2 = 1) := by
  rcases Int.le_total 0 y with h | h
  · left; exact Int.tmod_eq_emod_of_nonneg h
  · obtain ⟨n, rfl⟩ : ∃ n, y = -n := ⟨-y, by omega⟩
    rw [Int.neg_tmod, Int.tmod_eq_emod_of_nonneg (show 0 ≤ n by omega)]
    omega
set_option maxHeartbeats 1000000 in
set_option maxRecDepth 100000 in
theorem bitR_any (h : Int) (b : Nat) (w : World) (hf : Fit h) (hb : b < 64) (r : Bool) (hq : bitOf h b = r) :
    Calls Try.prog 33 #[.int .i64 h, .int .i64 b] w fun e w' => e = .returned (.bool r) ∧ w' = w := by
  have HQ := Lib.hid hq
  clear hq
  have HF : Hid (Fit h) := hf
  clear hf
  have HZ : Hid (h = h / 2 ^ 0) := by show _ = _; simp
  go_enter Try.func33, Try.ntmps33
  go_wp2
  go_loopw [0, 5] (fun x i wr => ∃ (k : Nat) (y : Int), k ≤ b ∧ i = .int .i64 k ∧ x = .int .i64 y ∧ Hid (y = h / 2 ^ k) ∧ Hid (Fit y) ∧ wr = w) (fun _ i _ => b - (intOf i).toNat)
  case atStart => exact ⟨0, h, by omega, rfl, rfl, HZ, HF, rfl⟩
  case round =>
    obtain ⟨k, y, hk, rfl, rfl, HY, HFy, rfl⟩ := hrel
    obtain ⟨f1, f2⟩ := HFy.out
    have t1 := tmod_two y
    by_cases hlt : k < b
    · have i1 : (0 : Int) ≤ (k : Int) := by omega
      have HN : Hid (y / 2 = h / 2 ^ (k + 1)) := by show _ = _; rw [half_pow, ← HY.out]
      have HFn : Hid (Fit (y / 2)) := half_fit HFy.out
      by_cases ho : y.tmod 2 < 0
      · have d1 : decide (y.tmod 2 < 0) = true := decide_eq_true ho
        have w1 : IntKind.i64.wrap (y - 1) = y - 1 := IntWalk.i64_in _ (by omega)
        have w2 : (y - 1).tdiv 2 = y / 2 := by rw [tdiv_even (by omega)]; omega
        have w3 : IntKind.i64.wrap (y / 2) = y / 2 := IntWalk.i64_in _ (by omega)
        clear HY
        go_wp2
        go_roundw
        case rel => exact ⟨k + 1, y / 2, by omega, by go_num, by first | rfl | simp [w2, w3], HN, HFn, by trivial⟩
        case measure => simp [intOf]; omega
      · have d1 : decide (y.tmod 2 < 0) = false := decide_eq_false ho
        have w1 : IntKind.i64.wrap (y - y.tmod 2) = y - y.tmod 2 := IntWalk.i64_in _ (by omega)
        have w2 : (y - y.tmod 2).tdiv 2 = y / 2 := by rw [tdiv_even (by omega)]; omega
        have w3 : IntKind.i64.wrap (y / 2) = y / 2 := IntWalk.i64_in _ (by omega)
        clear HY
        go_wp2
        go_roundw
        case rel => exact ⟨k + 1, y / 2, by omega, by go_num, by first | rfl | simp [w2, w3], HN, HFn, by trivial⟩
        case measure => simp [intOf]; omega
    · obtain rfl : b = k := by omega
      have HR : Hid (r = decide (y % 2 = 1)) := by show _ = _; rw [← HQ.out, HY.out]; rfl
      by_cases ho : y.tmod 2 = 0
      · have HR2 : Hid (r = false) := by show _ = _; rw [HR.out]; simp; omega
        have d1 : (y.tmod 2 == 0) = true := by simpa using ho
        have d2 : (y.tmod 2 != 0) = false := by simp [bne, d1]
        clear HR HY ho t1
        go_wp2
        go_ret
        exact ⟨by rw [HR2.out]; first | rfl | simp [d2], rfl⟩
      · have HR2 : Hid (r = true) := by show _ = _; rw [HR.out]; simp; omega
        have d1 : (y.tmod 2 == 0) = false := by simpa using ho
        have d2 : (y.tmod 2 != 0) = true := by simp [bne, d1]
        clear HR HY ho t1
        go_wp2
        go_ret
        exact ⟨by rw [HR2.out]; first | rfl | simp [d2], rfl⟩
set_option maxHeartbeats 1000000 in
set_option maxRecDepth 100000 in
theorem activeR_any (p h : Int) (a : Option Addr) (n c : Nat) (l : List Int) (w : World) (hr : Row w a n l) (hn : n ≤ 140737488355328) (hf : Fit h) (r : Int) (hq : acV p h l = r) :
    Calls Try.prog 21 #[.int .i64 p, .int .i64 h, .slice a n c] w fun e w' => e = .returned (.int .i64 r) ∧ w' = w := by
  have HQ : Hid (gre p l (bitOf h) (min n 64) = r) := by show _ = _; rw [← hq, hr.1]; rfl
  clear hq
  have HF : Hid (Fit h) := hf
  clear hf
  go_enter Try.func21, Try.ntmps21
  go_wp2
  go_loopw [7, 8] (fun s i wr => ∃ (k : Nat) (M : Int), k ≤ min n 64 ∧ i = .int .i64 k ∧ s = .int .i64 M ∧ Hid (M = gre p l (bitOf h) k) ∧ wr = w) (fun _ i _ => n - (intOf i).toNat)
  case atStart => exact ⟨0, p, by omega, rfl, rfl, (gre_zero p l _).symm, rfl⟩
  case round =>
    obtain ⟨k, M, hk, rfl, rfl, HM, rfl⟩ := hrel
    by_cases hlt : k < n
    · have d0 : decide ((k : Int) < (n : Int)) = true := decide_eq_true (by omega)
      by_cases hlt2 : k < 64
      · have d1 : decide ((k : Int) < 64) = true := decide_eq_true (by omega)
        obtain ⟨b1, o1, x, rfl, hB1, hx, hc1⟩ := hr.item hlt
        have i1 : (0 : Int) ≤ (k : Int) := by omega
        have i2 : (k : Int) < (n : Int) := by omega
        obtain ⟨v, hv⟩ : ∃ v, bitOf h k = v := ⟨_, rfl⟩
        have CB := Lib.hid (bitR_any h k wr HF.out hlt2 v hv)
        cases v
        · have HN : Hid (M = gre p l (bitOf h) (k + 1)) := by show _ = _; rw [gre_skip hv]; exact HM.out
          clear hv hx HM
          go_wp2_with (go_at_call 33; refine CB.out.mono ?_; rintro e w2 ⟨rfl, rfl⟩)
          go_roundw
          case rel => exact ⟨k + 1, M, by omega, by go_num, rfl, HN, by trivial⟩
          case measure => simp [intOf]; omega
        · have HN : Hid (max M x = gre p l (bitOf h) (k + 1)) := by show _ = _; rw [gre_max hv, ← HM.out, getD_of hx]
          clear hv hx HM
          go_wp2_with (go_at_call 33; refine CB.out.mono ?_; rintro e w2 ⟨rfl, rfl⟩)
          go_roundw
          case rel => exact ⟨k + 1, max M x, by omega, by go_num, rfl, HN, by trivial⟩
          case measure => simp [intOf]; omega
      · have d1 : decide ((k : Int) < 64) = false := decide_eq_false (by omega)
        have HR : Hid (M = r) := by show _ = _; rw [HM.out, ← HQ.out, show min n 64 = k by omega]
        clear HM
        go_wp2
        go_ret
        exact ⟨by rw [← HR.out]; rfl, rfl⟩
    · have d0 : decide ((k : Int) < (n : Int)) = false := decide_eq_false (by omega)
      have HR : Hid (M = r) := by show _ = _; rw [HM.out, ← HQ.out, show min n 64 = k by omega]
      clear HM
      go_wp2
      go_ret
      exact ⟨by rw [← HR.out]; rfl, rfl⟩
end Go.Proofs.Ythicoekoeffpaaa
