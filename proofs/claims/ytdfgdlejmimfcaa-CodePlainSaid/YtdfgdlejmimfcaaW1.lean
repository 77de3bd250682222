/- What is proved here: the walks of the laws CodeOne and CodeSizes. Conditions: numbers fit 64 bits. -/
import Derived.Test.YtdfgdlejmimfcaaKnown
namespace Go.Proofs.Ytdfgdlejmimfcaa
open Go.ChangeShapes Go.WideShapes Go.RowKit

theorem put_as {n : Int} (hf : Fits n) : ∃ S : ByteArray, S.data.toList = enc (turn n) ∧ ∀ w, Calls Try.prog 11 #[.int .i64 n] w fun e w' => e = .returned (.string S) ∧ Below w.heap.size w w' :=
  ⟨bs (enc (turn n)), bs_data _, fun w => put_any n hf w⟩
theorem turn_inj {a b : Int} (h : turn a = turn b) : a = b := by rw [← unturn_turn a, h, unturn_turn]
theorem begins_not {S T : ByteArray} {a b : Int} (hS : S.data.toList = enc (turn a)) (hT : T.data.toList = enc (turn b)) (hab : ¬ a = b) : ((T.extract 0 S.size).toList == S.toList) = false := by
  rw [Lib.toList_data, Lib.toList_data, Lib.extract_data, List.drop_zero, Nat.sub_zero]
  rw [beq_eq_false_iff_ne]
  intro h
  apply hab
  have h2 : enc (turn a) ++ (enc (turn b)).drop S.size = enc (turn b) := by rw [← hS, ← h, hT, List.take_append_drop]
  exact turn_inj (enc_prefix h2)
theorem begins_self (S : ByteArray) : ((S.extract 0 S.size).toList == S.toList) = true := by
  rw [Lib.toList_data, Lib.toList_data, Lib.extract_data, List.drop_zero, Nat.sub_zero, Lib.size_eq, List.take_length, beq_self_eq_true]

set_option maxHeartbeats 2000000 in
set_option maxRecDepth 100000 in
theorem one_walk (a b : Int) (ha : Fits a) (hb : Fits b) (w : World) : Calls Try.prog 7 #[.int .i64 a, .int .i64 b] w fun e w' => e = .returned (.bool true) ∧ Below w.heap.size w w' := by
  obtain ⟨S, hS, cS⟩ := put_as ha
  obtain ⟨T, hT, cT⟩ := put_as hb
  have CS := Lib.hid cS
  have CT := Lib.hid cT
  clear cS cT
  have hs10 : S.size ≤ 10 := by rw [Lib.size_eq, hS]; exact enc_ten (turn_fits ha)
  have ht10 : T.size ≤ 10 := by rw [Lib.size_eq, hT]; exact enc_ten (turn_fits hb)
  have G := Below.refl w.heap.size w
  by_cases hab : a = b
  · subst hab
    clear CT hT ht10 T hS hb
    have f1 := begins_self S
    go_enter Try.func7, Try.ntmps7
    go_wp2_with fail
    refine (CS.out _).mono ?_; rintro e w1 ⟨rfl, hb⟩
    replace G := G.trans (hb.mono G.size); clear hb
    go_wp2_with fail
    refine (CS.out _).mono ?_; rintro e w2 ⟨rfl, hb⟩
    replace G := G.trans (hb.mono G.size); clear hb
    go_wp2_with fail
    refine (known_any _).mono ?_; rintro e w3 ⟨rfl, hb⟩
    replace G := G.trans (hb.mono G.size); clear hb
    go_wp2
    go_ret
    exact ⟨rfl, G⟩
  · have he : (a == b) = false := by simpa using hab
    have f1 := begins_not hS hT hab
    have f2 := begins_not hT hS (fun h => hab h.symm)
    clear hS hT hab
    rcases (show S.size < T.size ∨ (S.size ≤ T.size ∧ T.size ≤ S.size) ∨ T.size < S.size by omega) with hl | ⟨hl, hl2⟩ | hl
    all_goals
      go_enter Try.func7, Try.ntmps7
      go_wp2_with fail
      refine (CS.out _).mono ?_; rintro e w1 ⟨rfl, hb⟩
      replace G := G.trans (hb.mono G.size); clear hb
      go_wp2_with fail
      refine (CT.out _).mono ?_; rintro e w2 ⟨rfl, hb⟩
      replace G := G.trans (hb.mono G.size); clear hb
      go_wp2_with fail
      refine (known_any _).mono ?_; rintro e w3 ⟨rfl, hb⟩
      replace G := G.trans (hb.mono G.size); clear hb
      go_wp2
      go_ret
      exact ⟨rfl, G⟩

/-! ### CodeSizes -/
theorem enc_pair (x : Nat) : (enc (2 * x + 1)).length = (enc (2 * x)).length := by
  by_cases h : 2 * x < 128
  · rw [enc_lo h, enc_lo (by omega)]; rfl
  · rw [enc_hi (show 128 ≤ 2 * x by omega), enc_hi (show 128 ≤ 2 * x + 1 by omega), List.length_cons, List.length_cons, show (2 * x + 1) / 128 = 2 * x / 128 by omega]
/-- How far a number is from 0. -/
def far (a : Int) : Int := max a (-1 - a)
theorem sz_far (a : Int) : sz a = (enc (2 * (far a).toNat)).length := by
  unfold sz far
  by_cases h : 0 ≤ a
  · have : turn a = 2 * (max a (-1 - a)).toNat := by have := turn_pos h; omega
    rw [this]
  · have : turn a = 2 * (max a (-1 - a)).toNat + 1 := by have := turn_neg (n := a) (by omega); omega
    rw [this, enc_pair]
theorem sz_mono {a b : Int} (h : far a ≤ far b) : sz a ≤ sz b := by
  rw [sz_far, sz_far]
  exact enc_mono (by omega)
theorem sz_pow (j : Nat) (n : Int) (hn : n = 64 * 128 ^ j) : sz n = j + 2 ∧ sz (n - 1) = j + 1 ∧ sz (-n) = j + 1 := by
  have hp : 0 < 128 ^ j := Nat.pow_pos (by decide)
  have h1 : n = ((64 * 128 ^ j : Nat) : Int) := by rw [hn]; simp
  have f1 : 2 * (far n).toNat = 128 ^ (j + 1) := by unfold far; rw [Nat.pow_succ]; omega
  have f2 : 2 * (far (n - 1)).toNat + 2 = 128 ^ (j + 1) := by unfold far; rw [Nat.pow_succ]; omega
  have f3 : 2 * (far (-n)).toNat + 2 = 128 ^ (j + 1) := by unfold far; rw [Nat.pow_succ]; omega
  have f4 : 128 ^ j ≤ 2 * (far (n - 1)).toNat := by rw [Nat.pow_succ] at f2; omega
  have e : (far (-n)) = far (n - 1) := by unfold far; omega
  refine ⟨?_, ?_, ?_⟩
  · rw [sz_far, f1]
    have l1 := enc_len_lo (k := j + 1) (Nat.le_refl (128 ^ (j + 1)))
    have l2 := enc_len (k := j + 2) (u := 128 ^ (j + 1)) (by omega) (by rw [Nat.pow_succ 128 (j + 1)]; have : 0 < 128 ^ (j + 1) := Nat.pow_pos (by decide); omega)
    omega
  · rw [sz_far]
    have l1 := enc_len_lo f4
    have l2 := enc_len (k := j + 1) (u := 2 * (far (n - 1)).toNat) (by omega) (by omega)
    omega
  · rw [sz_far, e]
    have l1 := enc_len_lo f4
    have l2 := enc_len (k := j + 1) (u := 2 * (far (n - 1)).toNat) (by omega) (by omega)
    omega
theorem far_wrap {a : Int} (h : Fits a) : max a (wrap64 (-wrap64 (a + 1))) = far a := by
  obtain ⟨h1, h2⟩ := h
  unfold far wrap64; omega
theorem fits_lit {n : Int} (h1 : -9223372036854775808 ≤ n) (h2 : n ≤ 9223372036854775807) : Fits n := ⟨h1, h2⟩
set_option maxHeartbeats 2000000 in
set_option maxRecDepth 100000 in
theorem sizes0 (a b k : Int) (ha : Fits a) (hb : Fits b) (hk0 : 0 ≤ k) (hk1 : k ≤ 255) (hk : k % 8 = 0) (w : World) : Calls Try.prog 6 #[.int .i64 a, .int .i64 b, .int .u8 k] w fun e w' => e = .returned (.bool true) ∧ Below w.heap.size w w' := by
  obtain ⟨S, hS, cS⟩ := put_as ha
  have CS := Lib.hid cS
  have hS1 : S.size ≤ sz a := by rw [Lib.size_eq, hS]; exact Nat.le_refl _
  have hS2 : sz a ≤ S.size := by rw [Lib.size_eq, hS]; exact Nat.le_refl _
  have h1 : 1 ≤ sz a := enc_pos _
  have h10 : sz a ≤ 10 := enc_ten (turn_fits ha)
  have hx := far_wrap ha
  have hy := far_wrap hb
  obtain ⟨z1, z2, z3⟩ := sz_pow 0 64 (by decide)
  have e1 : ((sz 64 : Nat) : Int) = 2 := by rw [z1]; rfl
  have e2 : ((sz 63 : Nat) : Int) = 1 := by have : sz 63 = 1 := z2; rw [this]; rfl
  have e3 : ((sz (-64) : Nat) : Int) = 1 := by rw [z3]; rfl
  have G := Below.refl w.heap.size w
  clear cS hS z1 z2 z3
  by_cases hf : far b < far a
  · go_enter Try.func6, Try.ntmps6
    go_wp2_with (first
      | (go_at_call 13; refine (size_any _ (by first | assumption | exact fits_lit (by decide) (by decide)) _).mono ?_; rintro e w' ⟨rfl, rfl⟩)
      | (go_at_call 11; refine (CS.out _).mono ?_; rintro e w' ⟨rfl, hg⟩; replace G := G.trans (hg.mono G.size); clear hg)
      | (go_at_call 10; refine (known_any _).mono ?_; rintro e w' ⟨rfl, hg⟩; replace G := G.trans (hg.mono G.size); clear hg))
    go_ret
    exact ⟨rfl, G⟩
  · have hm := sz_mono (a := a) (b := b) (by omega)
    go_enter Try.func6, Try.ntmps6
    go_wp2_with (first
      | (go_at_call 13; refine (size_any _ (by first | assumption | exact fits_lit (by decide) (by decide)) _).mono ?_; rintro e w' ⟨rfl, rfl⟩)
      | (go_at_call 11; refine (CS.out _).mono ?_; rintro e w' ⟨rfl, hg⟩; replace G := G.trans (hg.mono G.size); clear hg)
      | (go_at_call 10; refine (known_any _).mono ?_; rintro e w' ⟨rfl, hg⟩; replace G := G.trans (hg.mono G.size); clear hg))
    go_ret
    exact ⟨rfl, G⟩
set_option maxHeartbeats 2000000 in
set_option maxRecDepth 100000 in
theorem sizes1 (a b k : Int) (ha : Fits a) (hb : Fits b) (hk0 : 0 ≤ k) (hk1 : k ≤ 255) (hk : k % 8 = 1) (w : World) : Calls Try.prog 6 #[.int .i64 a, .int .i64 b, .int .u8 k] w fun e w' => e = .returned (.bool true) ∧ Below w.heap.size w w' := by
  obtain ⟨S, hS, cS⟩ := put_as ha
  have CS := Lib.hid cS
  have hS1 : S.size ≤ sz a := by rw [Lib.size_eq, hS]; exact Nat.le_refl _
  have hS2 : sz a ≤ S.size := by rw [Lib.size_eq, hS]; exact Nat.le_refl _
  have h1 : 1 ≤ sz a := enc_pos _
  have h10 : sz a ≤ 10 := enc_ten (turn_fits ha)
  have hx := far_wrap ha
  have hy := far_wrap hb
  obtain ⟨z1, z2, z3⟩ := sz_pow 1 8192 (by decide)
  have e1 : ((sz 8192 : Nat) : Int) = 3 := by rw [z1]; rfl
  have e2 : ((sz 8191 : Nat) : Int) = 2 := by have : sz 8191 = 2 := z2; rw [this]; rfl
  have e3 : ((sz (-8192) : Nat) : Int) = 2 := by rw [z3]; rfl
  have G := Below.refl w.heap.size w
  clear cS hS z1 z2 z3
  by_cases hf : far b < far a
  · go_enter Try.func6, Try.ntmps6
    go_wp2_with (first
      | (go_at_call 13; refine (size_any _ (by first | assumption | exact fits_lit (by decide) (by decide)) _).mono ?_; rintro e w' ⟨rfl, rfl⟩)
      | (go_at_call 11; refine (CS.out _).mono ?_; rintro e w' ⟨rfl, hg⟩; replace G := G.trans (hg.mono G.size); clear hg)
      | (go_at_call 10; refine (known_any _).mono ?_; rintro e w' ⟨rfl, hg⟩; replace G := G.trans (hg.mono G.size); clear hg))
    go_ret
    exact ⟨rfl, G⟩
  · have hm := sz_mono (a := a) (b := b) (by omega)
    go_enter Try.func6, Try.ntmps6
    go_wp2_with (first
      | (go_at_call 13; refine (size_any _ (by first | assumption | exact fits_lit (by decide) (by decide)) _).mono ?_; rintro e w' ⟨rfl, rfl⟩)
      | (go_at_call 11; refine (CS.out _).mono ?_; rintro e w' ⟨rfl, hg⟩; replace G := G.trans (hg.mono G.size); clear hg)
      | (go_at_call 10; refine (known_any _).mono ?_; rintro e w' ⟨rfl, hg⟩; replace G := G.trans (hg.mono G.size); clear hg))
    go_ret
    exact ⟨rfl, G⟩
set_option maxHeartbeats 2000000 in
set_option maxRecDepth 100000 in
theorem sizes2 (a b k : Int) (ha : Fits a) (hb : Fits b) (hk0 : 0 ≤ k) (hk1 : k ≤ 255) (hk : k % 8 = 2) (w : World) : Calls Try.prog 6 #[.int .i64 a, .int .i64 b, .int .u8 k] w fun e w' => e = .returned (.bool true) ∧ Below w.heap.size w w' := by
  obtain ⟨S, hS, cS⟩ := put_as ha
  have CS := Lib.hid cS
  have hS1 : S.size ≤ sz a := by rw [Lib.size_eq, hS]; exact Nat.le_refl _
  have hS2 : sz a ≤ S.size := by rw [Lib.size_eq, hS]; exact Nat.le_refl _
  have h1 : 1 ≤ sz a := enc_pos _
  have h10 : sz a ≤ 10 := enc_ten (turn_fits ha)
  have hx := far_wrap ha
  have hy := far_wrap hb
  obtain ⟨z1, z2, z3⟩ := sz_pow 2 1048576 (by decide)
  have e1 : ((sz 1048576 : Nat) : Int) = 4 := by rw [z1]; rfl
  have e2 : ((sz 1048575 : Nat) : Int) = 3 := by have : sz 1048575 = 3 := z2; rw [this]; rfl
  have e3 : ((sz (-1048576) : Nat) : Int) = 3 := by rw [z3]; rfl
  have G := Below.refl w.heap.size w
  clear cS hS z1 z2 z3
  by_cases hf : far b < far a
  · go_enter Try.func6, Try.ntmps6
    go_wp2_with (first
      | (go_at_call 13; refine (size_any _ (by first | assumption | exact fits_lit (by decide) (by decide)) _).mono ?_; rintro e w' ⟨rfl, rfl⟩)
      | (go_at_call 11; refine (CS.out _).mono ?_; rintro e w' ⟨rfl, hg⟩; replace G := G.trans (hg.mono G.size); clear hg)
      | (go_at_call 10; refine (known_any _).mono ?_; rintro e w' ⟨rfl, hg⟩; replace G := G.trans (hg.mono G.size); clear hg))
    go_ret
    exact ⟨rfl, G⟩
  · have hm := sz_mono (a := a) (b := b) (by omega)
    go_enter Try.func6, Try.ntmps6
    go_wp2_with (first
      | (go_at_call 13; refine (size_any _ (by first | assumption | exact fits_lit (by decide) (by decide)) _).mono ?_; rintro e w' ⟨rfl, rfl⟩)
      | (go_at_call 11; refine (CS.out _).mono ?_; rintro e w' ⟨rfl, hg⟩; replace G := G.trans (hg.mono G.size); clear hg)
      | (go_at_call 10; refine (known_any _).mono ?_; rintro e w' ⟨rfl, hg⟩; replace G := G.trans (hg.mono G.size); clear hg))
    go_ret
    exact ⟨rfl, G⟩
set_option maxHeartbeats 2000000 in
set_option maxRecDepth 100000 in
theorem sizes3 (a b k : Int) (ha : Fits a) (hb : Fits b) (hk0 : 0 ≤ k) (hk1 : k ≤ 255) (hk : k % 8 = 3) (w : World) : Calls Try.prog 6 #[.int .i64 a, .int .i64 b, .int .u8 k] w fun e w' => e = .returned (.bool true) ∧ Below w.heap.size w w' := by
  obtain ⟨S, hS, cS⟩ := put_as ha
  have CS := Lib.hid cS
  have hS1 : S.size ≤ sz a := by rw [Lib.size_eq, hS]; exact Nat.le_refl _
  have hS2 : sz a ≤ S.size := by rw [Lib.size_eq, hS]; exact Nat.le_refl _
  have h1 : 1 ≤ sz a := enc_pos _
  have h10 : sz a ≤ 10 := enc_ten (turn_fits ha)
  have hx := far_wrap ha
  have hy := far_wrap hb
  obtain ⟨z1, z2, z3⟩ := sz_pow 3 134217728 (by decide)
  have e1 : ((sz 134217728 : Nat) : Int) = 5 := by rw [z1]; rfl
  have e2 : ((sz 134217727 : Nat) : Int) = 4 := by have : sz 134217727 = 4 := z2; rw [this]; rfl
  have e3 : ((sz (-134217728) : Nat) : Int) = 4 := by rw [z3]; rfl
  have G := Below.refl w.heap.size w
  clear cS hS z1 z2 z3
  by_cases hf : far b < far a
  · go_enter Try.func6, Try.ntmps6
    go_wp2_with (first
      | (go_at_call 13; refine (size_any _ (by first | assumption | exact fits_lit (by decide) (by decide)) _).mono ?_; rintro e w' ⟨rfl, rfl⟩)
      | (go_at_call 11; refine (CS.out _).mono ?_; rintro e w' ⟨rfl, hg⟩; replace G := G.trans (hg.mono G.size); clear hg)
      | (go_at_call 10; refine (known_any _).mono ?_; rintro e w' ⟨rfl, hg⟩; replace G := G.trans (hg.mono G.size); clear hg))
    go_ret
    exact ⟨rfl, G⟩
  · have hm := sz_mono (a := a) (b := b) (by omega)
    go_enter Try.func6, Try.ntmps6
    go_wp2_with (first
      | (go_at_call 13; refine (size_any _ (by first | assumption | exact fits_lit (by decide) (by decide)) _).mono ?_; rintro e w' ⟨rfl, rfl⟩)
      | (go_at_call 11; refine (CS.out _).mono ?_; rintro e w' ⟨rfl, hg⟩; replace G := G.trans (hg.mono G.size); clear hg)
      | (go_at_call 10; refine (known_any _).mono ?_; rintro e w' ⟨rfl, hg⟩; replace G := G.trans (hg.mono G.size); clear hg))
    go_ret
    exact ⟨rfl, G⟩
set_option maxHeartbeats 2000000 in
set_option maxRecDepth 100000 in
theorem sizes4 (a b k : Int) (ha : Fits a) (hb : Fits b) (hk0 : 0 ≤ k) (hk1 : k ≤ 255) (hk : k % 8 = 4) (w : World) : Calls Try.prog 6 #[.int .i64 a, .int .i64 b, .int .u8 k] w fun e w' => e = .returned (.bool true) ∧ Below w.heap.size w w' := by
  obtain ⟨S, hS, cS⟩ := put_as ha
  have CS := Lib.hid cS
  have hS1 : S.size ≤ sz a := by rw [Lib.size_eq, hS]; exact Nat.le_refl _
  have hS2 : sz a ≤ S.size := by rw [Lib.size_eq, hS]; exact Nat.le_refl _
  have h1 : 1 ≤ sz a := enc_pos _
  have h10 : sz a ≤ 10 := enc_ten (turn_fits ha)
  have hx := far_wrap ha
  have hy := far_wrap hb
  obtain ⟨z1, z2, z3⟩ := sz_pow 4 17179869184 (by decide)
  have e1 : ((sz 17179869184 : Nat) : Int) = 6 := by rw [z1]; rfl
  have e2 : ((sz 17179869183 : Nat) : Int) = 5 := by have : sz 17179869183 = 5 := z2; rw [this]; rfl
  have e3 : ((sz (-17179869184) : Nat) : Int) = 5 := by rw [z3]; rfl
  have G := Below.refl w.heap.size w
  clear cS hS z1 z2 z3
  by_cases hf : far b < far a
  · go_enter Try.func6, Try.ntmps6
    go_wp2_with (first
      | (go_at_call 13; refine (size_any _ (by first | assumption | exact fits_lit (by decide) (by decide)) _).mono ?_; rintro e w' ⟨rfl, rfl⟩)
      | (go_at_call 11; refine (CS.out _).mono ?_; rintro e w' ⟨rfl, hg⟩; replace G := G.trans (hg.mono G.size); clear hg)
      | (go_at_call 10; refine (known_any _).mono ?_; rintro e w' ⟨rfl, hg⟩; replace G := G.trans (hg.mono G.size); clear hg))
    go_ret
    exact ⟨rfl, G⟩
  · have hm := sz_mono (a := a) (b := b) (by omega)
    go_enter Try.func6, Try.ntmps6
    go_wp2_with (first
      | (go_at_call 13; refine (size_any _ (by first | assumption | exact fits_lit (by decide) (by decide)) _).mono ?_; rintro e w' ⟨rfl, rfl⟩)
      | (go_at_call 11; refine (CS.out _).mono ?_; rintro e w' ⟨rfl, hg⟩; replace G := G.trans (hg.mono G.size); clear hg)
      | (go_at_call 10; refine (known_any _).mono ?_; rintro e w' ⟨rfl, hg⟩; replace G := G.trans (hg.mono G.size); clear hg))
    go_ret
    exact ⟨rfl, G⟩
set_option maxHeartbeats 2000000 in
set_option maxRecDepth 100000 in
theorem sizes5 (a b k : Int) (ha : Fits a) (hb : Fits b) (hk0 : 0 ≤ k) (hk1 : k ≤ 255) (hk : k % 8 = 5) (w : World) : Calls Try.prog 6 #[.int .i64 a, .int .i64 b, .int .u8 k] w fun e w' => e = .returned (.bool true) ∧ Below w.heap.size w w' := by
  obtain ⟨S, hS, cS⟩ := put_as ha
  have CS := Lib.hid cS
  have hS1 : S.size ≤ sz a := by rw [Lib.size_eq, hS]; exact Nat.le_refl _
  have hS2 : sz a ≤ S.size := by rw [Lib.size_eq, hS]; exact Nat.le_refl _
  have h1 : 1 ≤ sz a := enc_pos _
  have h10 : sz a ≤ 10 := enc_ten (turn_fits ha)
  have hx := far_wrap ha
  have hy := far_wrap hb
  obtain ⟨z1, z2, z3⟩ := sz_pow 5 2199023255552 (by decide)
  have e1 : ((sz 2199023255552 : Nat) : Int) = 7 := by rw [z1]; rfl
  have e2 : ((sz 2199023255551 : Nat) : Int) = 6 := by have : sz 2199023255551 = 6 := z2; rw [this]; rfl
  have e3 : ((sz (-2199023255552) : Nat) : Int) = 6 := by rw [z3]; rfl
  have G := Below.refl w.heap.size w
  clear cS hS z1 z2 z3
  by_cases hf : far b < far a
  · go_enter Try.func6, Try.ntmps6
    go_wp2_with (first
      | (go_at_call 13; refine (size_any _ (by first | assumption | exact fits_lit (by decide) (by decide)) _).mono ?_; rintro e w' ⟨rfl, rfl⟩)
      | (go_at_call 11; refine (CS.out _).mono ?_; rintro e w' ⟨rfl, hg⟩; replace G := G.trans (hg.mono G.size); clear hg)
      | (go_at_call 10; refine (known_any _).mono ?_; rintro e w' ⟨rfl, hg⟩; replace G := G.trans (hg.mono G.size); clear hg))
    go_ret
    exact ⟨rfl, G⟩
  · have hm := sz_mono (a := a) (b := b) (by omega)
    go_enter Try.func6, Try.ntmps6
    go_wp2_with (first
      | (go_at_call 13; refine (size_any _ (by first | assumption | exact fits_lit (by decide) (by decide)) _).mono ?_; rintro e w' ⟨rfl, rfl⟩)
      | (go_at_call 11; refine (CS.out _).mono ?_; rintro e w' ⟨rfl, hg⟩; replace G := G.trans (hg.mono G.size); clear hg)
      | (go_at_call 10; refine (known_any _).mono ?_; rintro e w' ⟨rfl, hg⟩; replace G := G.trans (hg.mono G.size); clear hg))
    go_ret
    exact ⟨rfl, G⟩
set_option maxHeartbeats 2000000 in
set_option maxRecDepth 100000 in
theorem sizes6 (a b k : Int) (ha : Fits a) (hb : Fits b) (hk0 : 0 ≤ k) (hk1 : k ≤ 255) (hk : k % 8 = 6) (w : World) : Calls Try.prog 6 #[.int .i64 a, .int .i64 b, .int .u8 k] w fun e w' => e = .returned (.bool true) ∧ Below w.heap.size w w' := by
  obtain ⟨S, hS, cS⟩ := put_as ha
  have CS := Lib.hid cS
  have hS1 : S.size ≤ sz a := by rw [Lib.size_eq, hS]; exact Nat.le_refl _
  have hS2 : sz a ≤ S.size := by rw [Lib.size_eq, hS]; exact Nat.le_refl _
  have h1 : 1 ≤ sz a := enc_pos _
  have h10 : sz a ≤ 10 := enc_ten (turn_fits ha)
  have hx := far_wrap ha
  have hy := far_wrap hb
  obtain ⟨z1, z2, z3⟩ := sz_pow 6 281474976710656 (by decide)
  have e1 : ((sz 281474976710656 : Nat) : Int) = 8 := by rw [z1]; rfl
  have e2 : ((sz 281474976710655 : Nat) : Int) = 7 := by have : sz 281474976710655 = 7 := z2; rw [this]; rfl
  have e3 : ((sz (-281474976710656) : Nat) : Int) = 7 := by rw [z3]; rfl
  have G := Below.refl w.heap.size w
  clear cS hS z1 z2 z3
  by_cases hf : far b < far a
  · go_enter Try.func6, Try.ntmps6
    go_wp2_with (first
      | (go_at_call 13; refine (size_any _ (by first | assumption | exact fits_lit (by decide) (by decide)) _).mono ?_; rintro e w' ⟨rfl, rfl⟩)
      | (go_at_call 11; refine (CS.out _).mono ?_; rintro e w' ⟨rfl, hg⟩; replace G := G.trans (hg.mono G.size); clear hg)
      | (go_at_call 10; refine (known_any _).mono ?_; rintro e w' ⟨rfl, hg⟩; replace G := G.trans (hg.mono G.size); clear hg))
    go_ret
    exact ⟨rfl, G⟩
  · have hm := sz_mono (a := a) (b := b) (by omega)
    go_enter Try.func6, Try.ntmps6
    go_wp2_with (first
      | (go_at_call 13; refine (size_any _ (by first | assumption | exact fits_lit (by decide) (by decide)) _).mono ?_; rintro e w' ⟨rfl, rfl⟩)
      | (go_at_call 11; refine (CS.out _).mono ?_; rintro e w' ⟨rfl, hg⟩; replace G := G.trans (hg.mono G.size); clear hg)
      | (go_at_call 10; refine (known_any _).mono ?_; rintro e w' ⟨rfl, hg⟩; replace G := G.trans (hg.mono G.size); clear hg))
    go_ret
    exact ⟨rfl, G⟩
set_option maxHeartbeats 2000000 in
set_option maxRecDepth 100000 in
theorem sizes7 (a b k : Int) (ha : Fits a) (hb : Fits b) (hk0 : 0 ≤ k) (hk1 : k ≤ 255) (hk : k % 8 = 7) (w : World) : Calls Try.prog 6 #[.int .i64 a, .int .i64 b, .int .u8 k] w fun e w' => e = .returned (.bool true) ∧ Below w.heap.size w w' := by
  obtain ⟨S, hS, cS⟩ := put_as ha
  have CS := Lib.hid cS
  have hS1 : S.size ≤ sz a := by rw [Lib.size_eq, hS]; exact Nat.le_refl _
  have hS2 : sz a ≤ S.size := by rw [Lib.size_eq, hS]; exact Nat.le_refl _
  have h1 : 1 ≤ sz a := enc_pos _
  have h10 : sz a ≤ 10 := enc_ten (turn_fits ha)
  have hx := far_wrap ha
  have hy := far_wrap hb
  obtain ⟨z1, z2, z3⟩ := sz_pow 7 36028797018963968 (by decide)
  have e1 : ((sz 36028797018963968 : Nat) : Int) = 9 := by rw [z1]; rfl
  have e2 : ((sz 36028797018963967 : Nat) : Int) = 8 := by have : sz 36028797018963967 = 8 := z2; rw [this]; rfl
  have e3 : ((sz (-36028797018963968) : Nat) : Int) = 8 := by rw [z3]; rfl
  have G := Below.refl w.heap.size w
  clear cS hS z1 z2 z3
  by_cases hf : far b < far a
  · go_enter Try.func6, Try.ntmps6
    go_wp2_with (first
      | (go_at_call 13; refine (size_any _ (by first | assumption | exact fits_lit (by decide) (by decide)) _).mono ?_; rintro e w' ⟨rfl, rfl⟩)
      | (go_at_call 11; refine (CS.out _).mono ?_; rintro e w' ⟨rfl, hg⟩; replace G := G.trans (hg.mono G.size); clear hg)
      | (go_at_call 10; refine (known_any _).mono ?_; rintro e w' ⟨rfl, hg⟩; replace G := G.trans (hg.mono G.size); clear hg))
    go_ret
    exact ⟨rfl, G⟩
  · have hm := sz_mono (a := a) (b := b) (by omega)
    go_enter Try.func6, Try.ntmps6
    go_wp2_with (first
      | (go_at_call 13; refine (size_any _ (by first | assumption | exact fits_lit (by decide) (by decide)) _).mono ?_; rintro e w' ⟨rfl, rfl⟩)
      | (go_at_call 11; refine (CS.out _).mono ?_; rintro e w' ⟨rfl, hg⟩; replace G := G.trans (hg.mono G.size); clear hg)
      | (go_at_call 10; refine (known_any _).mono ?_; rintro e w' ⟨rfl, hg⟩; replace G := G.trans (hg.mono G.size); clear hg))
    go_ret
    exact ⟨rfl, G⟩
theorem sizes_walk (a b k : Int) (ha : Fits a) (hb : Fits b) (hk0 : 0 ≤ k) (hk1 : k ≤ 255) (w : World) : Calls Try.prog 6 #[.int .i64 a, .int .i64 b, .int .u8 k] w fun e w' => e = .returned (.bool true) ∧ Below w.heap.size w w' := by
  rcases (show k % 8 = 0 ∨ k % 8 = 1 ∨ k % 8 = 2 ∨ k % 8 = 3 ∨ k % 8 = 4 ∨ k % 8 = 5 ∨ k % 8 = 6 ∨ k % 8 = 7 by omega) with h | h | h | h | h | h | h | h
  · exact sizes0 a b k ha hb hk0 hk1 h w
  · exact sizes1 a b k ha hb hk0 hk1 h w
  · exact sizes2 a b k ha hb hk0 hk1 h w
  · exact sizes3 a b k ha hb hk0 hk1 h w
  · exact sizes4 a b k ha hb hk0 hk1 h w
  · exact sizes5 a b k ha hb hk0 hk1 h w
  · exact sizes6 a b k ha hb hk0 hk1 h w
  · exact sizes7 a b k ha hb hk0 hk1 h w
end Go.Proofs.Ytdfgdlejmimfcaa
