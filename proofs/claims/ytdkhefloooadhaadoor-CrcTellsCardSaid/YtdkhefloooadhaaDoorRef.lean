/- What is proved here: the contract of the document's On. Condition: the string has at most a million bytes. -/
import Derived.Test.YtdkhefloooadhaaDoorW1
namespace Go.Proofs.YtdkhefloooadhaaDoor
open Go.ChangeShapes Go.WideShapes Go.RowKit

theorem xor_i64 (a b : Nat) (ha : a < 65536) (hb : b < 65536) : bits .xor .i64 (a : Int) (b : Int) = ((a ^^^ b : Nat) : Int) := by
  unfold bits
  show IntKind.i64.wrap ((BitVec.ofInt 64 a ^^^ BitVec.ofInt 64 b).toNat : Int) = _
  have h : a ^^^ b < 2 ^ 16 := Nat.xor_lt_two_pow (by omega) (by omega)
  rw [BitVec.ofInt_natCast, BitVec.ofInt_natCast, BitVec.toNat_xor, BitVec.toNat_ofNat, BitVec.toNat_ofNat, Nat.mod_eq_of_lt (by omega), Nat.mod_eq_of_lt (by omega), IntKind.wrap_i64]
  omega
theorem ref_start (n : Int) : ((n.tmod 65536) + 65536).tmod 65536 = ((sm n).toNat : Int) := by
  rw [sm_val]
  by_cases h : 0 ≤ n
  · rw [Int.tmod_eq_emod_of_nonneg h, Int.tmod_eq_emod_of_nonneg (by omega)]; omega
  · obtain ⟨m, rfl⟩ : ∃ m, n = -m := ⟨-n, by omega⟩
    rw [Int.neg_tmod, Int.tmod_eq_emod_of_nonneg (a := m) (by omega), Int.tmod_eq_emod_of_nonneg (by omega)]
    omega
theorem ref_byte (x : BitVec 16) (b : UInt8) : bits .xor .i64 (x.toNat : Int) (256 * (b.toNat : Int)) = ((x ^^^ up b).toNat : Int) := by
  have hb := b.toNat_lt
  have h := xor_i64 x.toNat (b.toNat * 256) x.isLt (by omega)
  rw [show (256 * (b.toNat : Int)) = ((b.toNat * 256 : Nat) : Int) by omega, h, BitVec.toNat_xor]
  unfold up
  rw [BitVec.toNat_ofNat, Nat.mod_eq_of_lt (show b.toNat * 256 < 2 ^ 16 by omega)]
theorem ref_hi (x : BitVec 16) (N : Int) (hN : N = (x.toNat : Int)) (h : 65536 ≤ 2 * N) : bits .xor .i64 (2 * N - 65536) 4129 = ((rnd x).toNat : Int) := by
  have hx := x.isLt
  subst hN
  rw [rnd_nat, if_pos (by omega), ← xor_i64 _ _ (by omega) (by omega)]
  congr 1; omega
theorem ref_lo (x : BitVec 16) (N : Int) (hN : N = (x.toNat : Int)) (h : ¬ 65536 ≤ 2 * N) : 2 * N = ((rnd x).toNat : Int) := by
  subst hN
  rw [rnd_nat, if_neg (by omega)]; omega

set_option maxHeartbeats 1000000 in
set_option maxRecDepth 100000 in
theorem onR_any (n : Int) (s : ByteArray) (hs : s.size ≤ 1000000) (w : World) :
    Calls Tryd.prog 16 #[.int .i64 n, .string s] w fun e w' => e = .returned (.int .i64 (crc (sm n) s.data.toList).toNat) ∧ w = w' := by
  obtain ⟨Z, hZ⟩ : ∃ Z : Int, ((sm n).toNat : Int) = Z := ⟨_, rfl⟩
  have hz1 : 0 ≤ Z := by omega
  have hz2 : Z < 65536 := by have := (sm n).isLt; omega
  have h0 : (wrap64 (n.tmod 65536 + 65536)).tmod 65536 = Z := by
    have h1 := Int.tmod_lt_of_pos n (show (0 : Int) < 65536 by omega)
    have h2 := Int.lt_tmod_of_pos n (show (0 : Int) < 65536 by omega)
    rw [IntWalk.wrap64_in _ (by omega), ref_start n, hZ]
  have HZ := Lib.hid hZ
  clear hZ
  go_enter Tryd.func16, Tryd.ntmps16
  go_wp2
  go_loop [5, 6] (fun v i => ∃ (k : Nat) (N : Int), k ≤ s.size ∧ i = .int .i64 k ∧ v = .int .i64 N ∧ 0 ≤ N ∧ N < 65536 ∧ Hid (N = ((crc (sm n) (s.data.toList.take k)).toNat : Int))) (fun _ i => s.size - (intOf i).toNat)
  case atStart => exact ⟨0, Z, by omega, rfl, rfl, hz1, hz2, HZ.out.symm⟩
  case round =>
    obtain ⟨k, N, hk, rfl, rfl, hN1, hN2, HN⟩ := hrel
    by_cases hlt : k < s.size
    · obtain ⟨x, hx⟩ : ∃ x, crc (sm n) (s.data.toList.take k) = x := ⟨_, rfl⟩
      obtain ⟨M, hM⟩ : ∃ M : Int, ((x ^^^ up s[k]).toNat : Int) = M := ⟨_, rfl⟩
      have hM1 : 0 ≤ M := by omega
      have hM2 : M < 65536 := by have := (x ^^^ up s[k]).isLt; omega
      have hb : bits .xor .i64 N (wrap64 (256 * wrap64 (s[k].toNat : Int))) = M := by
        have h8 := s[k].toNat_lt
        rw [IntWalk.wrap64_in (s[k].toNat : Int) (by omega), IntWalk.wrap64_in _ (by omega), HN.out, hx, ref_byte, hM]
      have HS : Hid (crc (sm n) (s.data.toList.take (k + 1)) = rnds 8 (x ^^^ up s[k])) := by
        show _ = _
        rw [crc_take _ _ _ hlt, hx]; rfl
      have HM := Lib.hid hM
      clear hx hM HN h0 hz1 hz2 HZ
      go_wp2
      go_loop [5, 7] (fun v i => ∃ (r : Nat) (N : Int), r ≤ 8 ∧ i = .int .i64 r ∧ v = .int .i64 N ∧ 0 ≤ N ∧ N < 65536 ∧ Hid (N = ((rnds r (x ^^^ up s[k])).toNat : Int))) (fun _ i => 8 - (intOf i).toNat)
      case atStart => exact ⟨0, M, by omega, rfl, rfl, hM1, hM2, HM.out.symm⟩
      case round =>
        obtain ⟨r, R, hr, rfl, rfl, hR1, hR2, HR⟩ := hrel
        clear hb hM1 hM2 HM
        by_cases hr8 : r < 8
        · have HQ : Hid (((rnd (rnds r (x ^^^ up s[k]))).toNat : Int) = ((rnds (r + 1) (x ^^^ up s[k])).toNat : Int)) := by show _ = _; rw [rnds_last]
          by_cases h2 : 65536 ≤ 2 * R
          · obtain ⟨R', hR'⟩ : ∃ R' : Int, ((rnd (rnds r (x ^^^ up s[k]))).toNat : Int) = R' := ⟨_, rfl⟩
            have hq := ref_hi _ R HR.out h2
            rw [hR'] at hq HQ
            have q1 : 0 ≤ R' := by omega
            have q2 : R' < 65536 := by have := (rnd (rnds r (x ^^^ up s[k]))).isLt; omega
            clear hR' HR
            go_wp2
            go_round
            case rel => exact ⟨r + 1, R', by omega, by go_num, rfl, q1, q2, HQ.out⟩
            case measure => simp [intOf]; omega
          · have hq := Lib.hid (ref_lo _ R HR.out h2)
            clear HR
            go_wp2
            go_round
            case rel => exact ⟨r + 1, 2 * R, by omega, by go_num, rfl, by omega, by omega, hq.out.trans HQ.out⟩
            case measure => simp [intOf]; omega
        · obtain rfl : r = 8 := by omega
          have HQ : Hid (R = ((crc (sm n) (s.data.toList.take (k + 1))).toNat : Int)) := by show _ = _; rw [HS.out]; exact HR.out
          clear HR hN1 hN2
          go_wp2
          go_round
          case rel => exact ⟨k + 1, R, by omega, by go_num, rfl, hR1, hR2, HQ⟩
          case measure => simp [intOf]; omega
    · have HX2 : Hid (N = ((crc (sm n) s.data.toList).toNat : Int)) := by
        show _ = _
        rw [HN.out, List.take_of_length_le (by simp; omega)]
      clear HN
      go_wp2
      go_ret
      exact ⟨by rw [← HX2.out]; rfl, rfl⟩
end Go.Proofs.YtdkhefloooadhaaDoor
