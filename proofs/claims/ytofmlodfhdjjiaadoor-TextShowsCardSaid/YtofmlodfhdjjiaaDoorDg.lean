/- What is proved here: the contract of the document's Digits. Conditions: the number fits 64 bits. -/
import Derived.Test.YtofmlodfhdjjiaaDoorIns
namespace Go.Proofs.YtofmlodfhdjjiaaDoor
open Go.ChangeShapes Go.WideShapes Go.RowKit

/-- A digit as a byte. -/
def dgB (d : Nat) : UInt8 := UInt8.ofNat (48 + d)
theorem dgB_val {d : Nat} (h : d < 10) : ((dgB d).toNat : Int) = 48 + (d : Int) := by unfold dgB; rw [digit_byte h]; omega
theorem dec_step {u : Nat} (h : 10 ≤ u) : Lib.decDigits u = Lib.decDigits (u / 10) ++ [dgB (u % 10)] := by
  rw [Lib.decDigits, dif_neg (by omega)]; rfl
theorem dec_last {u : Nat} (h : u < 10) : Lib.decDigits u = [dgB u] := Lib.decDigits_one h
theorem itoa_p (u : Nat) : Lib.itoa (u : Int) = Lib.decDigits u := Lib.itoa_nonneg u
theorem itoa_n {u : Nat} (h : 1 ≤ u) : Lib.itoa (-(u : Int)) = 45 :: Lib.decDigits u := Lib.itoa_neg u h
theorem tm_pos (u : Nat) : Int.tmod (u : Int) 10 = ((u % 10 : Nat) : Int) := (Int.ofNat_tmod u 10).symm
theorem td_pos (u : Nat) : Int.tdiv (u : Int) 10 = ((u / 10 : Nat) : Int) := (Int.ofNat_tdiv u 10).symm
theorem tm_neg (u : Nat) : Int.tmod (-(u : Int)) 10 = -((u % 10 : Nat) : Int) := by rw [Int.neg_tmod, tm_pos]
theorem td_neg (u : Nat) : Int.tdiv (-(u : Int)) 10 = -((u / 10 : Nat) : Int) := by rw [Int.neg_tdiv, td_pos]

set_option maxHeartbeats 300000 in
set_option maxRecDepth 100000 in
theorem digits_pos : ∀ (k u : Nat), u ≤ k → u ≤ 9223372036854775807 → ∀ w, Calls Tryd.prog 28 #[.int .i64 (u : Int)] w fun e w' => e = .returned (.string (bs (Lib.decDigits u))) ∧ Below w.heap.size w w' := by
  intro k
  induction k with
  | zero =>
    intro u hu hf w
    obtain rfl : u = 0 := by omega
    obtain ⟨B0, hB0, hB1, hcv0⟩ := conv_one 48 (dgB 0) (by rw [dgB_val (by omega)]; rfl)
    have HB : Hid (bs (Lib.decDigits 0) = B0) := by show _ = _; rw [dec_last (by omega), ← hB0, bs_of]
    have hcv := hcv0 w
    go_enter Tryd.func28, Tryd.ntmps28
    go_wp2
    go_ret
    exact ⟨by rw [HB.out]; rfl, below_alloc _ _⟩
  | succ k ih =>
    intro u hu hf w
    obtain ⟨q, hq⟩ : ∃ q, q = u / 10 := ⟨_, rfl⟩
    obtain ⟨d, hd⟩ : ∃ d, d = u % 10 := ⟨_, rfl⟩
    have hdl : d < 10 := by omega
    obtain ⟨c, hc⟩ : ∃ c : Int, (48 : Int) + (d : Int) = c := ⟨_, rfl⟩
    obtain ⟨B0, hB0, hB1, hcv0⟩ := conv_one c (dgB d) (by rw [← hc, dgB_val hdl])
    have hu1 : c % 256 = c := by omega
    have hd0 : decide ((d : Int) < 0) = false := by simp
    have t1 : Int.tmod (u : Int) 10 = d := by rw [tm_pos, hd]
    have t2 : Int.tdiv (u : Int) 10 = q := by rw [td_pos, hq]
    have hcv := hcv0 w
    have HW : Hid (wrap64 (q : Int) = q) := by show _ = _; unfold wrap64; omega
    by_cases h10 : 10 ≤ u
    · have CI := Lib.hid (ih q (by omega) (by omega))
      have hq1 : ((q : Int) != 0) = true := by simp; omega
      have HB : Hid (bs (Lib.decDigits u) = bs (Lib.decDigits q) ++ B0) := by
        show _ = _
        rw [← bs_of (bs (Lib.decDigits q) ++ B0), app_list, bs_data, hB0, dec_step h10, hq, hd]
      obtain ⟨S, hS⟩ : ∃ S, S = bs (Lib.decDigits q) := ⟨_, rfl⟩
      rw [← hS] at CI HB
      have hSl : S.size ≤ 30 := by
        have h1 : (Lib.itoa (q : Int)).length ≤ 21 := itoa_len ⟨by omega, by omega⟩
        rw [itoa_p] at h1
        rw [hS, bs_size]; omega
      clear hS hB0 hcv0 hq hd ih hu hf
      have hwq := HW.out
      go_enter Tryd.func28, Tryd.ntmps28
      go_wp2_with (go_at_call 28; refine (CI.out _).mono ?_; rintro e w2 ⟨rfl, hb⟩)
      go_ret
      exact ⟨by rw [HB.out]; rfl, (below_alloc _ _).trans (hb.mono (by simp))⟩
    · have hq0 : q = 0 := by omega
      subst hq0
      have HB : Hid (bs (Lib.decDigits u) = B0) := by show _ = _; rw [dec_last (by omega), show u = d by omega, ← hB0, bs_of]
      have hu0 : decide ((u : Int) < 0) = false := by simp
      clear hB0 hcv0 hq hd ih hu hf
      have hwq := HW.out
      go_enter Tryd.func28, Tryd.ntmps28
      go_wp2
      go_ret
      exact ⟨by rw [HB.out]; rfl, below_alloc _ _⟩
end Go.Proofs.YtofmlodfhdjjiaaDoor
