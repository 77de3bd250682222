/- What is proved here: contracts of nat.Add, Mul, Ceil, foremost, Most, Least. Conditions: those each theorem states. contracts of the document's Right, Add, Mul, Ceil. -/
import Derived.Test.YtngehojibcmieaaGreatDoorQE1
import Derived.Test.YtngehojibcmieaaGreatDoorQShelf
import Derived.Deep.LoopGhost
import Derived.WalkSpells
set_option maxRecDepth 100000
set_option maxHeartbeats 8000000
section
namespace Go.Proofs.YtngehojibcmieaaGreatDoor.Kd
open Go.ChangeShapes Go.WideShapes Go.RowKit
theorem add_wrong {l : List Int} (h : al l = false) : addE l = 1 ∧ addV l = 0 := by unfold addE addV; rw [h]; exact ⟨rfl, rfl⟩
theorem add_big {l : List Int} (h : al l = true) (h2 : 4611686018427387904 ≤ l.sum) : addE l = 4 ∧ addV l = 0 := by
 unfold addE addV
 rw [if_pos h, if_pos h, if_neg (by omega), if_neg (by omega)]; exact ⟨rfl, rfl⟩
theorem add_ok {l : List Int} (h : al l = true) (h2 : l.sum < 4611686018427387904) : addE l = 0 ∧ addV l = l.sum := by
 unfold addE addV
 rw [if_pos h, if_pos h, if_pos h2, if_pos h2]; exact ⟨rfl, rfl⟩
theorem add_any (a : Option Addr) (n c : Nat) (l : List Int) (w : World) (hr : Row w a n l) (hn : n ≤ 1000000000000) :
  Calls Tryz.prog 98 #[.slice a n c] w fun e w' => e = .returned (.tuple #[.int .i64 (addV l), .int .i64 (addE l)]) ∧ Below w.heap.size w w' := by
 have HL := Lib.hid hr.1
 have C := Lib.hid (allRight_any a n c l w hr hn)
 cases ha : al l
 ·obtain ⟨e1, e2⟩ := add_wrong ha
  rw [e1, e2]
  rw [ha] at C
  clear e1 e2 ha hr
  go_enter Tryz.func98, Tryz.ntmps98
  go_wp2_with (go_at_call 141; refine C.out.mono ?_; rintro e w1 ⟨rfl, hb⟩)
  go_ret2
  exact ⟨rfl, hb⟩
 rw [ha] at C
 have HA := Lib.hid ha
 clear ha
 go_enter Tryz.func98, Tryz.ntmps98
 go_wp2_with (go_at_call 141; refine C.out.mono ?_; rintro e w1 ⟨rfl, hb⟩)
 go_loopw [4, 12] (fun s i wr => ∃ k : Nat, ∃ S : Int, k ≤ n ∧ i = .int .i64 k ∧ s = .int .i64 S ∧ Hid (S = ps l k) ∧ 0 ≤ S ∧ S < 4611686018427387904 ∧ Below w.heap.size w wr) (fun _ i _ => n - (intOf i).toNat)
 case atStart => exact ⟨0, 0, by omega, rfl, rfl, (ps_zero l).symm, by omega, by omega, hb⟩
 case round =>
  obtain ⟨k, S, hk, rfl, rfl, HS, hS1, hS2, hbl⟩ := hrel
  by_cases hlt : k < n
  ·obtain ⟨b1, o1, x, rfl, hB1, hx, hc1⟩ := (hr.below hbl).at_ hlt
   have hx2 := rt_iff.1 (hx ▸ al_at.1 HA.out k (by rw [← HL.out]; exact hlt))
   obtain ⟨hx3, hx4⟩ := hx2
   have HP : Hid (ps l (k + 1) = S + x) := by
    show _ = _
    rw [ps_succ (by rw [← HL.out]; exact hlt), hx, HS.out]
   have hle := Lib.hid (ps_le HA.out (k + 1))
   obtain ⟨T, hT⟩ : ∃ T, T = S + x := ⟨_, rfl⟩
   have hw : IntKind.i64.wrap (S + x) = S + x := by rw [IntKind.wrap_i64]; omega
   have ce := fun W => right_any (S + x) W
   cases hv : rt (S + x)
   ·rw [hv] at ce
    have HQ : Hid (addE l = 4 ∧ addV l = 0) := by
     refine add_big HA.out ?_
     have h1 := rt_no.1 hv
     have h2 := hle.out
     rw [HP.out] at h2
     omega
    have CE := Lib.hid ce
    clear ce hx hv hT
    go_wp2_with (go_at_call 142; refine (CE.out _).mono ?_; rintro e w2 ⟨rfl, rfl⟩)
    go_ret2
    exact ⟨by rw [HQ.out.1, HQ.out.2]; rfl, hbl⟩
   ·rw [hv] at ce
    have HS2 : Hid (S + x = ps l (k + 1)) := by show _ = _; rw [HP.out]
    have h1 := rt_iff.1 hv
    obtain ⟨h1, h2⟩ := h1
    have CE := Lib.hid ce
    clear ce hv hx hT
    go_wp2_with (go_at_call 142; refine (CE.out _).mono ?_; rintro e w2 ⟨rfl, rfl⟩)
    go_roundw
    case rel => exact ⟨k + 1, S + x, by omega, by go_num, rfl, HS2, h1, h2, hbl⟩
    case measure => simp [intOf]; omega
  ·have hkn : k = n := by omega
   subst hkn
   have HQ : Hid (addE l = 0 ∧ addV l = S) := by
    have e : ps l k = l.sum := by rw [HL.out]; exact ps_all l
    obtain ⟨h1, h2⟩ := add_ok HA.out (by rw [← e, ← HS.out]; exact hS2)
    exact ⟨h1, by rw [h2, HS.out, e]⟩
   go_wp2
   go_ret2
   exact ⟨by rw [HQ.out.1, HQ.out.2]; rfl, hbl⟩
theorem al2 (x y : Int) : al [x, y] = (rt x && rt y) := by simp [al]
theorem mul64_at (x y : Int) (hx1 : 0 ≤ x) (hx : x < 18446744073709551616) (hy1 : 0 ≤ y) (hy : y < 18446744073709551616) (w : World) :
  Calls Tryz.prog 219 #[.int .u64 x, .int .u64 y] w fun e w' => ∃ h t : Int, e = .returned (.tuple #[.int .u64 h, .int .u64 t]) ∧ 0 ≤ h ∧ 0 ≤ t ∧ t < 18446744073709551616 ∧ Hid (x * y = h * 18446744073709551616 + t) ∧ w' = w := by
 obtain ⟨A, rfl⟩ := Int.eq_ofNat_of_zero_le hx1
 obtain ⟨B, rfl⟩ := Int.eq_ofNat_of_zero_le hy1
 refine (Tryz.bits_Mul64 A B (by omega) (by omega) w).mono ?_
 rintro e w' ⟨rfl, rfl⟩
 refine ⟨_, _, rfl, by omega, by omega, by omega, ?_, rfl⟩
 show _ = _
 rw [← Int.natCast_mul]
 omega
theorem mul_any (x y : Int) (w : World) :
  Calls Tryz.prog 182 #[.int .i64 x, .int .i64 y] w fun e w' => e = .returned (.tuple #[.int .i64 (mulV x y), .int .i64 (mulE x y)]) ∧ Below w.heap.size w w' := by
 have C := allRight_any (some ⟨w.heap.size, 0, none⟩) 2 2 [x, y] _ (lit_ints w #[.int .i64 x, .int .i64 y] [x, y] 2 rfl rfl (by simp)) (by omega)
 rw [al2] at C
 have hb0 := below_alloc w (.cells #[.int .i64 x, .int .i64 y] 3)
 cases ha : rt x && rt y
 ·have e1 : mulE x y = 1 := by unfold mulE; rw [ha]; rfl
  have e2 : mulV x y = 0 := by unfold mulV; rw [ha]; rfl
  rw [e1, e2]
  rw [ha] at C
  have C' := Lib.hid C
  clear e1 e2 ha C
  go_enter Tryz.func182, Tryz.ntmps182
  go_wp2_with (go_at_call 141; refine C'.out.mono ?_; rintro e w1 ⟨rfl, hb⟩)
  go_ret2
  exact ⟨rfl, keep_below hb0 hb⟩
 rw [ha] at C
 have C' := Lib.hid C
 clear C
 have ha' := ha
 rw [Bool.and_eq_true] at ha'
 obtain ⟨r1, r2⟩ := ha'
 obtain ⟨x1, x2⟩ := rt_iff.1 r1
 obtain ⟨y1, y2⟩ := rt_iff.1 r2
 have wA : IntKind.u64.wrap x = x := by rw [IntKind.wrap_u64]; omega
 have wB : IntKind.u64.wrap y = y := by rw [IntKind.wrap_u64]; omega
 have HE : Hid (mulE x y = (if x * y < 4611686018427387904 then 0 else 4)) := by show _ = _; unfold mulE; rw [if_pos ha]
 have HV : Hid (mulV x y = (if x * y < 4611686018427387904 then x * y else 0)) := by show _ = _; unfold mulV; rw [if_pos ha]
 have CM := Lib.hid (fun W => mul64_at x y x1 (by omega) y1 (by omega) W)
 clear ha r1 r2
 go_enter Tryz.func182, Tryz.ntmps182
 go_wp2_with fail
 refine C'.out.mono ?_; rintro e w1 ⟨rfl, hb⟩
 replace hb := keep_below hb0 hb
 go_wp2_with fail
 refine (CM.out _).mono ?_; rintro e w2 ⟨h, t, rfl, h1, h2, h3, H4, rfl⟩
 by_cases hh : 0 < h
 ·have HQ : Hid (mulE x y = 4 ∧ mulV x y = 0) := by
   rw [HE.out, HV.out, H4.out, if_neg (by omega), if_neg (by omega)]; exact ⟨rfl, rfl⟩
  clear H4 HE HV
  go_wp2
  go_ret2
  exact ⟨by rw [HQ.out.1, HQ.out.2]; rfl, hb⟩
 ·obtain rfl : h = 0 := by omega
  by_cases ht : 4611686018427387904 ≤ t
  ·have HQ : Hid (mulE x y = 4 ∧ mulV x y = 0) := by
    rw [HE.out, HV.out, H4.out, if_neg (by omega), if_neg (by omega)]; exact ⟨rfl, rfl⟩
   clear H4 HE HV
   go_wp2
   go_ret2
   exact ⟨by rw [HQ.out.1, HQ.out.2]; rfl, hb⟩
  ·have HQ : Hid (mulE x y = 0 ∧ mulV x y = t) := by
    rw [HE.out, HV.out, H4.out, if_pos (by omega), if_pos (by omega)]; exact ⟨rfl, by omega⟩
   have wT : IntKind.i64.wrap t = t := by rw [IntKind.wrap_i64]; omega
   clear H4 HE HV
   go_wp2
   go_ret2
   exact ⟨by rw [HQ.out.1, HQ.out.2]; rfl, hb⟩
theorem ceil_wrong {x y : Int} (h : (rt x && rt y) = false ∨ y = 0) : ceE x y = 1 ∧ ceV x y = 0 := by
 unfold ceE ceV
 rcases h with h | h
 ·rw [h]; exact ⟨rfl, rfl⟩
 ·subst h; simp
theorem ceil_right {x y : Int} (h : (rt x && rt y) = true) (h2 : y ≠ 0) : ceE x y = 0 ∧ ceV x y = (if 0 < x % y then x / y + 1 else x / y) := by
 unfold ceE ceV
 rw [h]; simp [h2]
theorem ceil_any (x y : Int) (w : World) :
  Calls Tryz.prog 181 #[.int .i64 x, .int .i64 y] w fun e w' => e = .returned (.tuple #[.int .i64 (ceV x y), .int .i64 (ceE x y)]) ∧ Below w.heap.size w w' := by
 have C := allRight_any (some ⟨w.heap.size, 0, none⟩) 2 2 [x, y] _ (lit_ints w #[.int .i64 x, .int .i64 y] [x, y] 2 rfl rfl (by simp)) (by omega)
 rw [al2] at C
 have hb0 := below_alloc w (.cells #[.int .i64 x, .int .i64 y] 3)
 cases ha : rt x && rt y
 ·obtain ⟨e1, e2⟩ := ceil_wrong (Or.inl ha)
  rw [e1, e2]
  rw [ha] at C
  have C' := Lib.hid C
  clear e1 e2 ha C
  go_enter Tryz.func181, Tryz.ntmps181
  go_wp2_with fail
  refine C'.out.mono ?_; rintro e w1 ⟨rfl, hb⟩
  replace hb := keep_below hb0 hb
  go_wp2
  go_ret2
  exact ⟨rfl, hb⟩
 rw [ha] at C
 have C' := Lib.hid C
 clear C
 by_cases hy : y = 0
 ·obtain ⟨e1, e2⟩ := ceil_wrong (x := x) (Or.inr hy)
  rw [e1, e2]
  subst hy
  clear e1 e2 ha
  go_enter Tryz.func181, Tryz.ntmps181
  go_wp2_with fail
  refine C'.out.mono ?_; rintro e w1 ⟨rfl, hb⟩
  replace hb := keep_below hb0 hb
  go_wp2
  go_ret2
  exact ⟨rfl, hb⟩
 obtain ⟨e1, e2⟩ := ceil_right ha hy
 rw [Bool.and_eq_true] at ha
 obtain ⟨r1, r2⟩ := ha
 obtain ⟨x1, x2⟩ := rt_iff.1 r1
 obtain ⟨y1, y2⟩ := rt_iff.1 r2
 have hy1 : 1 ≤ y := by omega
 rw [e1, e2]
 have dq : x.tdiv y = x / y := Int.tdiv_eq_ediv_of_nonneg x1
 have dm : x.tmod y = x % y := Int.tmod_eq_emod_of_nonneg x1
 have q1 : 0 ≤ x / y := Int.ediv_nonneg x1 y1
 have q2 : x / y ≤ x := Int.ediv_le_self y x1
 obtain ⟨q, hq⟩ : ∃ q, q = x / y := ⟨_, rfl⟩
 obtain ⟨m, hm⟩ : ∃ m, m = x % y := ⟨_, rfl⟩
 rw [← hq, ← hm]
 rw [← hq] at dq q1 q2
 rw [← hm] at dm
 clear hq hm e1 e2 r1 r2
 have wq : IntKind.i64.wrap q = q := by rw [IntKind.wrap_i64]; omega
 have wq1 : IntKind.i64.wrap (q + 1) = q + 1 := by rw [IntKind.wrap_i64]; omega
 by_cases h0 : 0 < m
 ·rw [if_pos h0]
  go_enter Tryz.func181, Tryz.ntmps181
  go_wp2_with fail
  refine C'.out.mono ?_; rintro e w1 ⟨rfl, hb⟩
  replace hb := keep_below hb0 hb
  go_wp2
  go_ret2
  exact ⟨rfl, hb⟩
 ·rw [if_neg h0]
  go_enter Tryz.func181, Tryz.ntmps181
  go_wp2_with fail
  refine C'.out.mono ?_; rintro e w1 ⟨rfl, hb⟩
  replace hb := keep_below hb0 hb
  go_wp2
  go_ret2
  exact ⟨rfl, hb⟩
/-! ### The document's answers -/
theorem mul_big {x y : Int} (h : (rt x && rt y) = true) (h2 : 4611686018427387904 ≤ x * y) : mulE x y = 4 ∧ mulV x y = 0 := by
 unfold mulE mulV; rw [if_pos h, if_pos h, if_neg (by omega), if_neg (by omega)]; exact ⟨rfl, rfl⟩
theorem mul_ok {x y : Int} (h : (rt x && rt y) = true) (h2 : x * y < 4611686018427387904) : mulE x y = 0 ∧ mulV x y = x * y := by
 unfold mulE mulV; rw [if_pos h, if_pos h, if_pos h2, if_pos h2]; exact ⟨rfl, rfl⟩
end Go.Proofs.YtngehojibcmieaaGreatDoor.Kd
end
