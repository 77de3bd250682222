/- What is proved here: the contract of the document's Deep for layer 7. Conditions: the row is not too long. -/
import Derived.Test.YtkkoekfdncoifaaDoorRs
import Derived.Test.YtkkoekfdncoifaaDoorDp
namespace Go.Proofs.YtkkoekfdncoifaaDoor
open Go.ChangeShapes Go.WideShapes Go.RowKit Go.Maps

set_option maxHeartbeats 1000000 in
set_option maxRecDepth 100000 in
theorem deepR_any (a : Option Addr) (n c : Nat) (L : List (Int × Int × Int)) (w : World) (hr : RowI w a n L) (hn : n ≤ 1000000) :
    Calls Tryd.prog 12 #[.slice a n c] w fun e w' => e = .returned (.tuple #[.int .i64 (dA L), .int .i64 (tE L)]) ∧ Below w.heap.size w w' := by
  have cs := stacksR_any a n c L w hr hn
  unfold GotT at cs
  obtain ⟨x, hx⟩ : ∃ x, x = tE L := ⟨_, rfl⟩
  rw [← hx] at cs ⊢
  have hP : ∃ P : List (List UInt8), P = tA L ∧ (∀ s ∈ P, s.length ≤ 16) ∧ P.length ≤ 200 ∧ dA L = dp P P.length := by
    by_cases h0 : tE L = 0
    · refine ⟨tL L, by unfold tA; rw [if_pos h0], tL_le h0, ?_, ?_⟩
      · rw [tL_len]; exact (can_len (mE_zero (wE_zero (tE_zero h0).1).1).1).2
      · unfold dA; rw [if_pos h0, tL_len]
    · refine ⟨[], by unfold tA; rw [if_neg h0], by simp, by simp, ?_⟩
      unfold dA; rw [if_neg h0]; rfl
  obtain ⟨P, hP1, hP2, hP3, hP4⟩ := hP
  rw [← hP1] at cs
  rw [hP4]
  have HLe := Lib.hid (dp_le hP2)
  have C := Lib.hid cs
  obtain ⟨d, hd⟩ : ∃ d, d = dp P P.length := ⟨_, rfl⟩
  rw [← hd]
  have HQ := Lib.hid hd
  clear cs hr hx hP1 hP2 hP4 hd
  go_enter Tryd.func12, Tryd.ntmps12
  go_wp2_with (go_at_call 10; refine C.out.mono ?_; rintro e w1 ⟨a1, n1, c1, rfl, hr1, hb1⟩)
  have HN1 := Lib.hid hr1.1
  have hn1 : n1 ≤ 200 := by rw [hr1.1]; exact hP3
  clear hP3
  go_loopw [6, 7] (fun v i wr => ∃ k : Nat, k ≤ n1 ∧ i = .int .i64 k ∧ v = .int .i64 (dp P k : Nat) ∧ Below w1.heap.size w1 wr) (fun _ i _ => n1 - (intOf i).toNat)
  case atStart => exact ⟨0, by omega, rfl, rfl, Below.refl _ _⟩
  case round =>
    obtain ⟨k, hk, rfl, rfl, hbl⟩ := hrel
    by_cases hlt : k < n1
    · obtain ⟨b, off, rfl, hB, hc⟩ := (hr1.below hbl).at_ hlt
      have hs := bs_size (P.getD k [])
      have hmx : max (dp P k : Int) ((bs (P.getD k [])).size : Int) = (dp P (k + 1) : Nat) := by rw [dp_succ, hs]; omega
      have h1 := HLe.out k
      have h2 := HLe.out (k + 1)
      have hs2 : (bs (P.getD k [])).size ≤ 16 := by rw [hs]; have := dp_succ P k; omega
      generalize bs (P.getD k []) = S at hc hmx hs2
      obtain ⟨D2, hD2⟩ : ∃ D2, D2 = dp P (k + 1) := ⟨_, rfl⟩
      rw [← hD2] at hmx h2
      have HD2 := Lib.hid hD2
      clear hD2 hs
      go_wp2
      go_roundw
      case rel => exact ⟨k + 1, by omega, by go_num, by rw [← HD2.out], hbl⟩
      case measure => simp [intOf]; omega
    · obtain rfl : k = n1 := by omega
      have HQ2 : Hid (d = dp P k) := by show _ = _; rw [HQ.out, HN1.out]
      go_wp2
      go_ret2
      exact ⟨by rw [HQ2.out]; rfl, keep_below hb1 hbl⟩
end Go.Proofs.YtkkoekfdncoifaaDoor
