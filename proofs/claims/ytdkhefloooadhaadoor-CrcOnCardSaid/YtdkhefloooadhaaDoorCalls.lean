/- What is proved here: contracts of crc.overHalf, crc.On and crc.Of. Condition: the table of half bytes holds what it is laid as ('Hal'). -/
import Derived.Test.YtdkhefloooadhaaDoorCrc
import Derived.Test.YtdkhefloooadhaaDoorChecked
import Derived.WalkKit
import Derived.Lib.Hide
import Derived.Lib.Strings
import Derived.Lib.Small
import Derived.Lib.Walk
import Derived.Laws.BitsAllLaws
import Derived.Outline
import Derived.Below
namespace Go.Proofs.YtdkhefloooadhaaDoor
open Go.ChangeShapes Go.WideShapes Go.RowKit

/-- The table of half bytes. -/
def Hal (w : World) : Prop := 0 < w.heap.size ∧ ∀ i : Nat, i < 16 → w.cell? ⟨0, i, none⟩ = some (.int .u16 (tab i).toNat)
theorem Hal.below {w w' : World} (h : Hal w) (g : Below w.heap.size w w') : Hal w' :=
  ⟨Nat.lt_of_lt_of_le h.1 g.size, fun i hi => (g.cell (p := ⟨0, i, none⟩) h.1).trans (h.2 i hi)⟩

theorem half_index (c : BitVec 16) (h : Nat) (hh : h < 16) : ∃ k : Nat, k < 16 ∧ bits .xor .u16 ((c.toNat : Int) / 4096) (h : Int) = (k : Int) ∧
    bits .xor .u16 (IntKind.u16.wrap ((c.toNat : Int) * 16)) ((tab k).toNat : Int) = ((half c h).toNat : Int) := by
  have hc : c.toNat < 65536 := c.isLt
  have e : (2 : Nat) ^ 16 = 65536 := rfl
  refine ⟨(c.toNat / 4096) ^^^ h, Nat.xor_lt_two_pow (n := 4) (by omega) (by omega), ?_, ?_⟩
  · have := u16_xor_nat (c.toNat / 4096) h (by omega) (by omega)
    rw [← this]; congr 1
  · have h1 : IntKind.u16.wrap ((c.toNat : Int) * 16) = ((BitVec.ofNat 16 (c.toNat * 16)).toNat : Int) := by
      rw [IntKind.wrap_u16, BitVec.toNat_ofNat, e]; omega
    rw [h1, u16_xor_nat _ _ (BitVec.isLt _) (BitVec.isLt _), ← BitVec.toNat_xor, half_tab]
    rfl

set_option maxRecDepth 100000 in
theorem half_any (c : BitVec 16) (h : Nat) (hh : h < 16) (w : World) (hn : Hal w) :
    Calls Tryd.prog 21 #[.int .u16 c.toNat, .int .u8 h] w fun e w' => e = .returned (.int .u16 (half c h).toNat) ∧ w = w' := by
  obtain ⟨k, hk, hx, hy⟩ := half_index c h hh
  have hcell := hn.2 k hk
  obtain ⟨t, ht⟩ : ∃ t : Int, t = (tab k).toNat := ⟨_, rfl⟩
  obtain ⟨r, hr⟩ : ∃ r : Int, r = (half c h).toNat := ⟨_, rfl⟩
  rw [← ht] at hy hcell
  rw [← hr] at hy ⊢
  clear ht hr
  go_enter Tryd.func21, Tryd.ntmps21
  go_wp2
  go_ret
  exact ⟨rfl, rfl⟩

theorem half_at (c d : BitVec 16) (v : Int) (h : Nat) (hh : h < 16) (hv : v = (h : Int)) (hd : half c h = d) (w : World) (hn : Hal w) :
    Calls Tryd.prog 21 #[.int .u16 c.toNat, .int .u8 v] w fun e w' => e = .returned (.int .u16 d.toNat) ∧ w = w' := by
  subst hv hd; exact half_any c h hh w hn

/-- The sum that a number stands for. -/
def sm (n : Int) : BitVec 16 := BitVec.ofInt 16 n
theorem sm_val (n : Int) : ((sm n).toNat : Int) = n % 65536 := by
  unfold sm
  rw [BitVec.toNat_ofInt]
  simp only [show (2 ^ 16 : Nat) = 65536 from rfl]; omega
theorem sm_nat (c : BitVec 16) : sm c.toNat = c := by
  unfold sm; rw [BitVec.ofInt_natCast]; exact (BitVec.ofNat_toNat 16 c).trans (BitVec.setWidth_eq c)
theorem crc_take (c : BitVec 16) (s : ByteArray) (k : Nat) (h : k < s.size) : crc c (s.data.toList.take (k + 1)) = stp (crc c (s.data.toList.take k)) s[k] := by
  have hk : k < s.data.toList.length := by simpa using h
  rw [List.take_succ_eq_append_getElem hk, crc_append, crc_cons, crc_nil]
  congr 1
theorem byte_lo (b : UInt8) : bits .and .u8 (b.toNat : Int) 15 = (b.toNat : Int) % 16 := by
  have h := u8_and_nat b.toNat 15 b.toNat_lt (by omega)
  have h1 : b.toNat &&& 15 = b.toNat % 16 := Nat.and_two_pow_sub_one_eq_mod b.toNat 4
  rw [h1] at h; exact h

set_option maxHeartbeats 1000000 in
set_option maxRecDepth 100000 in
theorem on_any (n : Int) (s : ByteArray) (hs : s.size ≤ maxLen) (w : World) (hn : Hal w) :
    Calls Tryd.prog 15 #[.int .i64 n, .string s] w fun e w' => e = .returned (.int .i64 (crc (sm n) s.data.toList).toNat) ∧ w = w' := by
  replace hs : s.size ≤ 9223372036854775807 := hs
  have H0 : Hid (IntKind.u16.wrap n = ((sm n).toNat : Int)) := by show _ = _; rw [sm_val, IntKind.wrap_u16]
  have HN := Lib.hid hn
  have hz := H0.out
  clear hn
  go_enter Tryd.func15, Tryd.ntmps15
  go_wp2
  go_loop [5, 11] (fun c i => ∃ (k : Nat) (x : BitVec 16), k ≤ s.size ∧ i = .int .i64 k ∧ c = .int .u16 x.toNat ∧ Hid (x = crc (sm n) (s.data.toList.take k))) (fun _ i => s.size - (intOf i).toNat)
  case atStart => exact ⟨0, sm n, by omega, rfl, rfl, rfl⟩
  case round =>
    obtain ⟨k, x, hk, rfl, rfl, HX⟩ := hrel
    by_cases hlt : k < s.size
    · obtain ⟨y, hy⟩ : ∃ y, half x (s[k].toNat / 16) = y := ⟨_, rfl⟩
      obtain ⟨z, hz2⟩ : ∃ z, half y (s[k].toNat % 16) = z := ⟨_, rfl⟩
      have C1 := Lib.hid (fun W h => half_at x y ((s[k].toNat : Int) / 16) (s[k].toNat / 16) (by have := s[k].toNat_lt; omega) (by omega) hy W h)
      have C2 := Lib.hid (fun W h => half_at y z ((s[k].toNat : Int) % 16) (s[k].toNat % 16) (by omega) (by omega) hz2 W h)
      have HX2 : Hid (z = crc (sm n) (s.data.toList.take (k + 1))) := by
        show _ = _
        rw [← hz2, ← hy, half_two, crc_take _ _ _ hlt, HX.out]
      have hlo := byte_lo s[k]
      clear hy hz2 HX hz H0
      go_wp2_with fail
      refine (C1.out _ HN.out).mono ?_; rintro e w' ⟨rfl, rfl⟩
      go_wp2_with fail
      refine (C2.out _ HN.out).mono ?_; rintro e w' ⟨rfl, rfl⟩
      go_wp2
      go_round
      case rel => exact ⟨k + 1, _, by omega, by go_num, rfl, HX2⟩
      case measure => simp [intOf]; omega
    · have hkn : k = s.size := by omega
      have HX2 : Hid (x = crc (sm n) s.data.toList) := by
        show _ = _
        rw [HX.out, List.take_of_length_le (by simp; omega)]
      go_wp2
      go_ret
      exact ⟨by rw [HX2.out]; rfl, rfl⟩

set_option maxRecDepth 100000 in
theorem of_any (s : ByteArray) (hs : s.size ≤ maxLen) (w : World) (hn : Hal w) :
    Calls Tryd.prog 13 #[.string s] w fun e w' => e = .returned (.int .i64 (crc 0#16 s.data.toList).toNat) ∧ w = w' := by
  have c := Lib.hid (on_any 0 s hs w hn)
  rw [show sm 0 = 0#16 by decide +kernel] at c
  go_enter Tryd.func13, Tryd.ntmps13
  go_wp2_with (go_at_call 15; refine c.out.mono ?_; rintro e w' ⟨rfl, rfl⟩)
  go_ret
  exact ⟨rfl, rfl⟩
end Go.Proofs.YtdkhefloooadhaaDoor
