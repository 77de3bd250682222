/- What is proved here: the walk of the law CrcLines. Condition: the table of half bytes holds what it is laid as. -/
import Derived.Test.YtdkhefloooadhaaDoorW1
namespace Go.Proofs.YtdkhefloooadhaaDoor
open Go.ChangeShapes Go.WideShapes Go.RowKit

theorem u8_of (a : Int) (h0 : 0 ≤ a) (h1 : a < 256) : ∃ x : UInt8, a = (x.toNat : Int) :=
  ⟨UInt8.ofNat a.toNat, by rw [UInt8.toNat_ofNat']; omega⟩
theorem size_alloc_heap (w : World) (o : Obj) : (w.alloc o).heap.size = w.heap.size + 1 := by simp
theorem lines_sum (l : List UInt8) (x y u v : UInt8) (h : crc 0#16 (l ++ [x, y]) = crc 0#16 (l ++ [u, v])) : x = u ∧ y = v := by
  rw [crc_append, crc_append] at h
  exact crc_two_inj h

/-- '==' of two arrays of two bytes. -/
theorem eq_bytes (a b c d : Int) (w : World) : (Op.equalIn 10000 38 (.agg #[.int .u8 a, .int .u8 b]) (.agg #[.int .u8 c, .int .u8 d])).run Tryd.prog w = .ok (a == c && b == d) w := by
  have u5 := Tryd.underlying5
  have a5 := Tryd.isAgg5
  have z5 := Tryd.sizeOf5
  rw [show (10000 : Nat) = 9999 + 1 from rfl, Op.equalIn]
  simp only [Sem.run_bind, run_underlying Tryd.underlying38, Result.andThen_ok]
  simp only [Std.Legacy.Range.forIn_eq_forIn_range', Std.Legacy.Range.size, Nat.sub_zero, Nat.add_sub_cancel, Nat.div_one, List.range'_succ, List.range'_zero, List.forIn_cons, List.forIn_nil]
  go_simp
  by_cases h1 : a = c <;> by_cases h2 : b = d <;> simp [h1, h2]

set_option maxHeartbeats 1000000 in
set_option maxRecDepth 100000 in
theorem lines_walk (s : ByteArray) (a0 a1 b0 b1 : UInt8) (hs : s.size ≤ maxLen) (w : World) (hn : Hal w) :
    Calls Tryd.prog 9 #[.string s, .agg #[.int .u8 a0.toNat, .int .u8 a1.toNat], .agg #[.int .u8 b0.toNat, .int .u8 b1.toNat]] w fun e w' => e = .returned (.bool true) ∧ Below w.heap.size w w' := by
  replace hs : s.size ≤ 9223372036854775807 := hs
  have KN := Lib.hid known_any
  have G2 : ∀ o1 o2, Below w.heap.size w ((w.alloc o1).alloc o2) := fun o1 o2 => ((Below.refl _ _).alloc (Nat.le_refl _) _).alloc (by simp) _
  by_cases h1 : 500 < s.size
  · go_enter Tryd.func9, Tryd.ntmps9
    go_wp2_with (go_at_call 10; refine (KN.out _ (hn.below (G2 _ _))).mono ?_; rintro e w' ⟨rfl, hb⟩; replace hb := (G2 _ _).trans (hb.mono (G2 _ _).size))
    go_ret
    exact ⟨rfl, hb⟩
  have h3 : s.size ≤ 500 := by omega
  clear h1 hs
  obtain ⟨A, hA⟩ : ∃ A, bs [a0, a1] = A := ⟨_, rfl⟩
  obtain ⟨B, hB⟩ : ∃ B, bs [b0, b1] = B := ⟨_, rfl⟩
  have hAs : A.size ≤ 2 := by rw [← hA, bs_size]; exact Nat.le_refl _
  have hBs : B.size ≤ 2 := by rw [← hB, bs_size]; exact Nat.le_refl _
  obtain ⟨M, hM⟩ : ∃ M : Int, ((crc 0#16 (s.data.toList ++ [a0, a1])).toNat : Int) = M := ⟨_, rfl⟩
  obtain ⟨N, hN⟩ : ∃ N : Int, ((crc 0#16 (s.data.toList ++ [b0, b1])).toNat : Int) = N := ⟨_, rfl⟩
  have C1 := Lib.hid (of_at (s := s ++ A) (n := M) (by simp; omega) (by rw [app_list, ← hA, bs_data, hM]))
  have C2 := Lib.hid (of_at (s := s ++ B) (n := N) (by simp; omega) (by rw [app_list, ← hB, bs_data, hN]))
  have hcv1 := conv_two _ _ a0 a1 rfl rfl ((w.alloc (.cells #[.int .u8 a0.toNat, .int .u8 a1.toNat] 38)).alloc (.cells #[.int .u8 b0.toNat, .int .u8 b1.toNat] 38))
  have hcv2 := conv_two _ _ b0 b1 rfl rfl (((w.alloc (.cells #[.int .u8 a0.toNat, .int .u8 a1.toNat] 38)).alloc (.cells #[.int .u8 b0.toNat, .int .u8 b1.toNat] 38)).alloc (.cells #[.int .u8 a0.toNat, .int .u8 a1.toNat] 5))
  rw [hA] at hcv1
  rw [hB] at hcv2
  simp only [size_alloc_heap] at hcv1 hcv2
  have G4 : ∀ o1 o2 o3, Below w.heap.size w (((w.alloc o1).alloc o2).alloc o3) := fun o1 o2 o3 => (G2 o1 o2).alloc (G2 o1 o2).size _
  have G5 : ∀ o1 o2 o3 o4, Below w.heap.size w ((((w.alloc o1).alloc o2).alloc o3).alloc o4) := fun o1 o2 o3 o4 => (G4 o1 o2 o3).alloc (G4 o1 o2 o3).size _
  have HT : Hid ((M = N) ↔ (a0 = b0 ∧ a1 = b1)) := by
    constructor
    · intro h
      rw [← hM, ← hN] at h
      exact lines_sum s.data.toList _ _ _ _ (BitVec.eq_of_toNat_eq (by omega))
    · rintro ⟨rfl, rfl⟩; rw [← hM, ← hN]
  clear hA hB hM hN
  by_cases heq : a0 = b0 ∧ a1 = b1
  · obtain ⟨rfl, rfl⟩ := heq
    obtain rfl : M = N := HT.out.2 ⟨rfl, rfl⟩
    have he : ∀ W : World, (Op.equalIn 10000 38 (.agg #[.int .u8 a0.toNat, .int .u8 a1.toNat]) (.agg #[.int .u8 a0.toNat, .int .u8 a1.toNat])).run Tryd.prog W = .ok true W := fun W => by rw [eq_bytes]; simp
    go_enter Tryd.func9, Tryd.ntmps9
    go_wp2_with fail
    refine (C1.out _ (hn.below (G4 _ _ _))).mono ?_; rintro e w' ⟨rfl, rfl⟩
    go_wp2_with fail
    refine (C2.out _ (hn.below (G5 _ _ _ _))).mono ?_; rintro e w' ⟨rfl, rfl⟩
    go_wp2_with fail
    refine (KN.out _ (hn.below (G5 _ _ _ _))).mono ?_; rintro e w' ⟨rfl, hb⟩
    replace hb := (G5 _ _ _ _).trans (hb.mono (G5 _ _ _ _).size)
    go_wp2
    go_ret
    exact ⟨rfl, hb⟩
  · have he : ∀ W : World, (Op.equalIn 10000 38 (.agg #[.int .u8 a0.toNat, .int .u8 a1.toNat]) (.agg #[.int .u8 b0.toNat, .int .u8 b1.toNat])).run Tryd.prog W = .ok false W := fun W => by
      rw [eq_bytes]
      have : ¬ ((a0.toNat : Int) = b0.toNat ∧ (a1.toNat : Int) = b1.toNat) := fun ⟨h, h'⟩ => heq ⟨UInt8.toNat_inj.1 (by omega), UInt8.toNat_inj.1 (by omega)⟩
      simpa using this
    have hMN : (M == N) = false := by rw [beq_eq_false_iff_ne]; exact fun h => heq (HT.out.1 h)
    clear heq
    go_enter Tryd.func9, Tryd.ntmps9
    go_wp2_with fail
    refine (C1.out _ (hn.below (G4 _ _ _))).mono ?_; rintro e w' ⟨rfl, rfl⟩
    go_wp2_with fail
    refine (C2.out _ (hn.below (G5 _ _ _ _))).mono ?_; rintro e w' ⟨rfl, rfl⟩
    go_wp2_with fail
    refine (KN.out _ (hn.below (G5 _ _ _ _))).mono ?_; rintro e w' ⟨rfl, hb⟩
    replace hb := (G5 _ _ _ _).trans (hb.mono (G5 _ _ _ _).size)
    go_wp2
    go_ret
    exact ⟨rfl, hb⟩
end Go.Proofs.YtdkhefloooadhaaDoor
