/- What is proved here: where a run reads or writes a block, that block is held; the numbers of a right LoadL, StoreL, StoreR or Out. Conditions: New takes the row; the state agrees with its place. -/
import Derived.Test.YthncbnalnfbpnaaGreatDoorGh
import Derived.Test.YthncbnalnfbpnaaGreatDoorGa
namespace Go.Proofs.YthncbnalnfbpnaaGreatDoor
theorem lock_of {L : List (Int × Int × Int)} {v : V} (h : Agr L v) (w : Takes L) (ho : (at_ L v.pl).1 = 17 ∨ (at_ L v.pl).1 = 18) : (hb L (sk L v.pl)).testBit (at_ L v.pl).2.1.toNat = true := by
  have h1 := held_get w.bds h.pl ho
  rw [hb_test]
  unfold lkd at h1
  rw [List.any_eq_true] at h1 ⊢
  obtain ⟨t, ht, h2⟩ := h1
  rw [Bool.and_eq_true, beq_iff_eq, beq_iff_eq] at h2
  exact ⟨t, ht, by rw [Bool.and_eq_true, beq_iff_eq, beq_iff_eq]; exact ⟨h2.1, by rw [h2.2]⟩⟩
theorem bit_one (n j : Nat) (h : n.testBit j = true) : (n >>> j) &&& 1 = 1 := by
  rw [Nat.and_one_is_mod, Nat.shiftRight_eq_div_pow]
  rw [Nat.testBit_eq_decide_div_mod_eq, decide_eq_true_eq] at h
  exact h
end Go.Proofs.YthncbnalnfbpnaaGreatDoor
