/- What is proved here: the contract of the document's Digits, below nought too. Conditions: the number fits 64 bits. -/
import Derived.Test.YtofmlodfhdjjiaaDoorDg
namespace Go.Proofs.YtofmlodfhdjjiaaDoor
open Go.ChangeShapes Go.WideShapes Go.RowKit

set_option maxHeartbeats 300000 in
set_option maxRecDepth 100000 in
theorem digits_neg : ∀ (k u : Nat), u ≤ k → 1 ≤ u → u ≤ 9223372036854775808 → ∀ w, Calls Tryd.prog 28 #[.int .i64 (-(u : Int))] w fun e w' => e = .returned (.string (bs (45 :: Lib.decDigits u))) ∧ Below w.heap.size w w' := by
  intro k
  induction k with
  | zero => intro u hu h1; omega
  | succ k ih =>
    intro u hu hu1' hf w
    obtain ⟨x, hx⟩ : ∃ x : Int, x = -(u : Int) := ⟨_, rfl⟩
    obtain ⟨q, hq⟩ : ∃ q, q = u / 10 := ⟨_, rfl⟩
    obtain ⟨d, hd⟩ : ∃ d, d = u % 10 := ⟨_, rfl⟩
    obtain ⟨y, hy⟩ : ∃ y : Int, y = -(q : Int) := ⟨_, rfl⟩
    obtain ⟨r, hr⟩ : ∃ r : Int, r = -(d : Int) := ⟨_, rfl⟩
    have hdl : d < 10 := by omega
    obtain ⟨c, hc⟩ : ∃ c : Int, (48 : Int) + (d : Int) = c := ⟨_, rfl⟩
    obtain ⟨B0, hB0, hB1, hcv0⟩ := conv_one c (dgB d) (by rw [← hc, dgB_val hdl])
    have hu1 : c % 256 = c := by omega
    have t1 : Int.tmod x 10 = r := by rw [hx, tm_neg, hr, hd]
    have t2 : Int.tdiv x 10 = y := by rw [hx, td_neg, hy, hq]
    have hcv := hcv0 w
    have HW1 : Hid (wrap64 (Int.tdiv x 10) = y) := by show _ = _; rw [t2]; unfold wrap64; omega
    have HW2 : Hid (wrap64 (-r) = (d : Int)) := by show _ = _; unfold wrap64; omega
    rw [← hx]
    have hx0 : decide (x < 0) = true := by simp; omega
    by_cases h10 : 10 ≤ u
    · have CI := Lib.hid (ih q (by omega) (by omega) (by omega))
      rw [← hy] at CI
      have hq1 : (y != 0) = true := by simp; omega
      have HB : Hid (bs (45 :: Lib.decDigits u) = bs (45 :: Lib.decDigits q) ++ B0) := by
        show _ = _
        rw [← bs_of (bs (45 :: Lib.decDigits q) ++ B0), app_list, bs_data, hB0, dec_step h10, hq, hd]; rfl
      obtain ⟨S, hS⟩ : ∃ S, S = bs (45 :: Lib.decDigits q) := ⟨_, rfl⟩
      rw [← hS] at CI HB
      have hSl : S.size ≤ 30 := by
        have h1 : (Lib.itoa (-(q : Int))).length ≤ 21 := itoa_len ⟨by omega, by omega⟩
        rw [itoa_n (by omega)] at h1
        rw [hS, bs_size]; omega
      by_cases hd0 : d = 0
      · have hr0 : decide (r < 0) = false := by simp; omega
        have hrd : r = (d : Int) := by omega
        rw [hrd] at t1
        have hd1 : decide ((d : Int) < 0) = false := by simp
        clear HW2
        clear hS hB0 hcv0 hq hd ih hu hf hx hy hr hrd hr0 hd0 t2
        have t2' := HW1.out
        go_enter Tryd.func28, Tryd.ntmps28
        go_wp2_with (go_at_call 28; refine (CI.out _).mono ?_; rintro e w2 ⟨rfl, hb⟩)
        go_ret
        exact ⟨by rw [HB.out]; rfl, (below_alloc _ _).trans (hb.mono (by simp))⟩
      · have hr0 : decide (r < 0) = true := by simp; omega
        clear hS hB0 hcv0 hq hd ih hu hf hx hy hr hd0 t2
        have t2' := HW1.out
        have hnr' := HW2.out
        go_enter Tryd.func28, Tryd.ntmps28
        go_wp2_with (go_at_call 28; refine (CI.out _).mono ?_; rintro e w2 ⟨rfl, hb⟩)
        go_ret
        exact ⟨by rw [HB.out]; rfl, (below_alloc _ _).trans (hb.mono (by simp))⟩
    · have hq0 : y = 0 := by omega
      have hr0 : decide (r < 0) = true := by simp; omega
      rw [hq0] at t2
      have HB : Hid (bs (45 :: Lib.decDigits u) = ⟨#[45]⟩ ++ B0) := by
        show _ = _
        rw [← bs_of (⟨#[45]⟩ ++ B0), app_list, hB0, dec_last (by omega), show u = d by omega]; rfl
      clear hB0 hcv0 hq hd ih hu hf hx hy hr hq0
      have hnr' := HW2.out
      go_enter Tryd.func28, Tryd.ntmps28
      go_wp2
      go_ret
      exact ⟨by rw [HB.out]; rfl, below_alloc _ _⟩
theorem digits_any (n : Int) (hf : Fits n) (w : World) : Calls Tryd.prog 28 #[.int .i64 n] w fun e w' => e = .returned (.string (bs (Lib.itoa n))) ∧ Below w.heap.size w w' := by
  obtain ⟨h1, h2⟩ := hf
  by_cases hn : n < 0
  · obtain ⟨u, rfl⟩ : ∃ u : Nat, n = -(u : Int) := ⟨n.natAbs, by omega⟩
    rw [itoa_n (by omega)]
    exact digits_neg u u (Nat.le_refl _) (by omega) (by omega) w
  · obtain ⟨u, rfl⟩ : ∃ u : Nat, n = (u : Int) := ⟨n.toNat, by omega⟩
    rw [itoa_p]
    exact digits_pos u u (Nat.le_refl _) (by omega) w
end Go.Proofs.YtofmlodfhdjjiaaDoor
