/- What is proved here: the contract of text.named. Condition: the tables of names hold what their initialisers lay ('Nms'). -/
import Derived.Test.YtofmlodfhdjjiaaDoorNum
namespace Go.Proofs.YtofmlodfhdjjiaaDoor
open Go.ChangeShapes Go.WideShapes Go.RowKit

/-- What text.named answers. -/
def nmd (l : List UInt8) : Int × Int := if named l = 0 then (0, 3) else (named l, 0)
theorem nmd_no {l : List UInt8} (h : ∀ k : Nat, 1 ≤ k → k < 26 → (opNameOf k).data.toList ≠ l) : nmd l = (0, 3) := by
  unfold nmd
  by_cases h0 : named l = 0
  · rw [if_pos h0]
  · obtain ⟨h1, h2⟩ := named_ok h0
    have hk := kn_iff.1 h1
    rw [onm_in h1] at h2
    exact absurd h2 (h _ (by omega) (by omega))
theorem nmd_yes {l : List UInt8} {k : Nat} (h1 : 1 ≤ k) (h2 : k < 26) (h : (opNameOf k).data.toList = l) : nmd l = ((k : Int), 0) := by
  have hk : kn (k : Int) = true := kn_iff.2 (by omega)
  have hn := named_onm hk
  rw [onm_in hk] at hn
  simp only [Int.toNat_natCast, h] at hn
  unfold nmd
  rw [if_neg (by omega), hn]
theorem name_nat (k : Nat) (h1 : 1 ≤ k) (h2 : k < 26) (w : World) (hn : Nms w) : Calls Tryd.prog 22 #[.int .i64 k] w fun e w' => e = .returned (.string (opNameOf k)) ∧ w = w' := by
  have := name_any k w hn
  rw [onm_in (kn_iff.2 (by omega))] at this
  exact this
set_option maxHeartbeats 1000000 in
theorem named_any (s : ByteArray) (w : World) (hN : Nms w) :
    Calls Tryd.prog 45 #[.string s] w fun e w' => e = .returned (.tuple #[.int .i64 (nmd s.data.toList).1, .int .i64 (nmd s.data.toList).2]) ∧ w = w' := by
  have CN := Lib.hid (fun (k : Nat) (h1 : 1 ≤ k) (h2 : k < 26) => name_nat k h1 h2 w hN)
  obtain ⟨R, hR⟩ : ∃ R, R = nmd s.data.toList := ⟨_, rfl⟩
  have HR := Lib.hid hR
  rw [← hR]
  clear hR hN
  go_enter Tryd.func45, Tryd.ntmps45
  go_wp2
  go_loopw [4] (fun i wr => ∃ k : Nat, 1 ≤ k ∧ k ≤ 26 ∧ i = .int .i64 k ∧ w = wr ∧ Hid (∀ j : Nat, 1 ≤ j → j < k → (opNameOf j).data.toList ≠ s.data.toList))
    (fun i _ => 26 - (intOf i).toNat)
  case atStart => exact ⟨1, by omega, by omega, rfl, rfl, fun j h1 h2 => absurd h2 (by omega)⟩
  case round =>
    obtain ⟨k, h1, h2, rfl, rfl, HJ⟩ := hrel
    by_cases hk : k < 26
    · obtain ⟨S, hS⟩ : ∃ S, S = opNameOf k := ⟨_, rfl⟩
      have cS := CN.out k h1 hk
      rw [← hS] at cS
      have CS := Lib.hid cS
      by_cases he : S = s
      · have HQ : Hid (R = ((k : Int), 0)) := by
          show _ = _
          rw [HR.out, nmd_yes h1 hk (by rw [← hS, he])]
        rw [he] at CS
        clear cS CN hS HJ HR
        go_wp2_with (go_at_call 22; refine CS.out.mono ?_; rintro e w2 ⟨rfl, rfl⟩)
        go_ret2
        rw [HQ.out]
        exact ⟨rfl, rfl⟩
      · have he2 : (S.toList == s.toList) = false := by
          rw [beq_eq_false_iff_ne, Lib.toList_data, Lib.toList_data]
          intro h; exact he (by rw [← bs_of S, ← bs_of s, h])
        have HJ2 : Hid (∀ j : Nat, 1 ≤ j → j < k + 1 → (opNameOf j).data.toList ≠ s.data.toList) := by
          intro j hj1 hj2
          rcases Nat.lt_or_ge j k with h | h
          · exact HJ.out j hj1 h
          · obtain rfl : j = k := by omega
            rw [← hS]
            intro h; exact he (by rw [← bs_of S, ← bs_of s, h])
        clear cS CN hS HJ HR he
        go_wp2_with (go_at_call 22; refine CS.out.mono ?_; rintro e w2 ⟨rfl, rfl⟩)
        go_roundw
        case rel => exact ⟨k + 1, by omega, by omega, by go_num, trivial, HJ2⟩
        case measure => simp [intOf]; omega
    · have HQ : Hid (R = (0, 3)) := by
        show _ = _
        rw [HR.out, nmd_no (fun j h1 h2 => HJ.out j h1 (by omega))]
      clear HJ HR CN
      go_wp2
      go_ret2
      rw [HQ.out]
      exact ⟨rfl, rfl⟩
end Go.Proofs.YtofmlodfhdjjiaaDoor
