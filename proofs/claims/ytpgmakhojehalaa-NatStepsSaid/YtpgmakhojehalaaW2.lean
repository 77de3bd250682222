/- What is proved here: the walks of the laws NatCeils, NatMuls, NatSteps. Conditions: none. -/
import Derived.Test.YtpgmakhojehalaaW1
namespace Go.Proofs.Ytpgmakhojehalaa
open Go.ChangeShapes Go.WideShapes Go.RowKit

/-- A quotient that is rounded up is the least number that times the other one is not below. -/
theorem ce_spec {x y : Int} (hx : rt x = true) (hy : rt y = true) (h0 : y ≠ 0) :
    ceE x y = 0 ∧ 0 ≤ ceV x y ∧ ceV x y ≤ x ∧ x ≤ ceV x y * y ∧ (ceV x y - 1) * y < x := by
  obtain ⟨e1, e2⟩ := ceil_right (x := x) (y := y) (by rw [hx, hy]; rfl) h0
  obtain ⟨x1, x2⟩ := rt_iff.1 hx
  obtain ⟨y1, y2⟩ := rt_iff.1 hy
  have hd := Int.emod_add_mul_ediv x y
  have m1 := Int.emod_nonneg x h0
  have m2 := Int.emod_lt_of_pos x (b := y) (by omega)
  have q1 : 0 ≤ x / y := Int.ediv_nonneg x1 y1
  have q2 : x / y ≤ y * (x / y) := by
    have := Int.mul_le_mul_of_nonneg_right (a := 1) (b := y) (c := x / y) (by omega) q1
    omega
  refine ⟨e1, ?_⟩
  rw [e2]
  generalize x / y = d at *
  generalize x % y = m at *
  split
  · rw [Int.add_mul, Int.one_mul, Int.mul_comm d y, Int.sub_mul, Int.add_mul, Int.one_mul, Int.mul_comm d y]
    omega
  · rw [Int.sub_mul, Int.one_mul, Int.mul_comm d y]
    omega
theorem ce_le {x y p q : Int} (hy : 0 < y) (h1 : (p - 1) * y < x) (h2 : x ≤ q * y) : p ≤ q := by
  have := Int.lt_of_mul_lt_mul_right (Int.lt_of_lt_of_le h1 h2) (by omega)
  omega
theorem ce_zero {x y : Int} (h : ceE x y = 0) : rt x = true ∧ rt y = true ∧ y ≠ 0 := by
  cases hb : (rt x && rt y)
  · rw [(ceil_wrong (x := x) (y := y) (Or.inl hb)).1] at h; cases h
  · rw [Bool.and_eq_true] at hb
    refine ⟨hb.1, hb.2, fun h0 => ?_⟩
    rw [(ceil_wrong (x := x) (y := y) (Or.inr h0)).1] at h; cases h
theorem mulE_zero {x y : Int} (h : mulE x y = 0) : rt x = true ∧ rt y = true ∧ x * y < 4611686018427387904 ∧ mulV x y = x * y := by
  cases hb : (rt x && rt y)
  · rw [(mul_wrong hb).1] at h; cases h
  · have hb' := hb
    rw [Bool.and_eq_true] at hb'
    by_cases hs : x * y < 4611686018427387904
    · exact ⟨hb'.1, hb'.2, hs, (mul_ok hb hs).2⟩
    · rw [(mul_big hb (by omega)).1] at h; cases h
theorem ce_mul {x y : Int} (hx : rt (x * y) = true) (hy : rt y = true) (h0 : y ≠ 0) : ceE (x * y) y = 0 ∧ ceV (x * y) y = x := by
  obtain ⟨e1, e2⟩ := ceil_right (x := x * y) (y := y) (by rw [hx, hy]; rfl) h0
  refine ⟨e1, ?_⟩
  rw [e2, Int.mul_emod_left, if_neg (by omega), Int.mul_ediv_cancel _ h0]
set_option maxHeartbeats 2000000 in
set_option maxRecDepth 100000 in
theorem ceils_walk (x y : Int) (w : World) :
    Calls Try.prog 5 #[.int .i64 x, .int .i64 y] w fun e w' => e = .returned (.bool true) ∧ Below w.heap.size w w' := by
  have G := Below.refl w.heap.size w
  have KK := Lib.hid (fun W => known_any W)
  have R1 := right_any x
  have R2 := right_any y
  cases hx : rt x
  · rw [hx] at R1
    have RR := Lib.hid R1
    have C1 := Lib.hid (ceil_at (show (ceV x y, ceE x y) = (0, 1) by
      have := ceil_wrong (x := x) (y := y) (Or.inl (by rw [hx]; rfl))
      rw [this.1, this.2]))
    clear hx R1 R2
    go_enter Try.func5, Try.ntmps5
    go_wp2_with fail
    refine (C1.out _).mono ?_; rintro e v1 ⟨rfl, hb⟩
    replace G := keep_below G hb; clear hb
    go_wp2_with fail
    refine (RR.out _).mono ?_; rintro e v2 ⟨rfl, rfl⟩
    go_wp2_with fail
    refine (KK.out _).mono ?_; rintro e v3 ⟨rfl, hb⟩
    replace G := keep_below G hb; clear hb
    go_wp2
    go_ret
    exact ⟨rfl, G⟩
  rw [hx] at R1
  have RR := Lib.hid R1
  clear R1
  cases hy : rt y
  · rw [hy] at R2
    have RS := Lib.hid R2
    have C1 := Lib.hid (ceil_at (show (ceV x y, ceE x y) = (0, 1) by
      have := ceil_wrong (x := x) (y := y) (Or.inl (by rw [hy]; simp))
      rw [this.1, this.2]))
    clear hx hy R2
    go_enter Try.func5, Try.ntmps5
    go_wp2_with fail
    refine (C1.out _).mono ?_; rintro e v1 ⟨rfl, hb⟩
    replace G := keep_below G hb; clear hb
    go_wp2_with fail
    refine (RR.out _).mono ?_; rintro e v2 ⟨rfl, rfl⟩
    go_wp2_with fail
    refine (RS.out _).mono ?_; rintro e v3 ⟨rfl, rfl⟩
    go_wp2_with fail
    refine (KK.out _).mono ?_; rintro e v4 ⟨rfl, hb⟩
    replace G := keep_below G hb; clear hb
    go_wp2
    go_ret
    exact ⟨rfl, G⟩
  rw [hy] at R2
  have RS := Lib.hid R2
  clear R2
  by_cases h0 : y = 0
  · have C1 := Lib.hid (ceil_at (show (ceV x y, ceE x y) = (0, 1) by
      have := ceil_wrong (x := x) (y := y) (Or.inr h0)
      rw [this.1, this.2]))
    subst h0
    clear hx hy
    go_enter Try.func5, Try.ntmps5
    go_wp2_with fail
    refine (C1.out _).mono ?_; rintro e v1 ⟨rfl, hb⟩
    replace G := keep_below G hb; clear hb
    go_wp2_with fail
    refine (RR.out _).mono ?_; rintro e v2 ⟨rfl, rfl⟩
    go_wp2_with fail
    refine (RS.out _).mono ?_; rintro e v3 ⟨rfl, rfl⟩
    go_wp2_with fail
    refine (KK.out _).mono ?_; rintro e v4 ⟨rfl, hb⟩
    replace G := keep_below G hb; clear hb
    go_wp2
    go_ret
    exact ⟨rfl, G⟩
  obtain ⟨c1, c2, c3, c4, c5⟩ := ce_spec hx hy h0
  obtain ⟨x1, x2⟩ := rt_iff.1 hx
  obtain ⟨y1, y2⟩ := rt_iff.1 hy
  have y0 : 0 < y := by omega
  obtain ⟨q, hq⟩ : ∃ p, p = ceV x y := ⟨_, rfl⟩
  rw [← hq] at c2 c3 c4 c5
  have C1 := Lib.hid (ceil_at (show (ceV x y, ceE x y) = (q, 0) by rw [c1, ← hq]))
  obtain ⟨p, hp⟩ : ∃ p, p = mulV q y := ⟨_, rfl⟩
  obtain ⟨f, hf⟩ : ∃ p, p = mulE q y := ⟨_, rfl⟩
  have M1 := Lib.hid (mul_at (show (mulV q y, mulE q y) = (p, f) by rw [← hp, ← hf]))
  have hpf : f = 0 → ¬ p < x := by
    intro h
    rw [hf] at h
    have := (mulE_zero h).2.2.2
    omega
  obtain ⟨r, hr⟩ : ∃ p, p = ceV (x + 1) y := ⟨_, rfl⟩
  obtain ⟨g, hg⟩ : ∃ p, p = ceE (x + 1) y := ⟨_, rfl⟩
  have C2 := Lib.hid (ceil_at (show (ceV (x + 1) y, ceE (x + 1) y) = (r, g) by rw [← hr, ← hg]))
  have hgr : g = 0 → q ≤ r ∧ r ≤ q + 1 := by
    intro h
    rw [hg] at h
    obtain ⟨z1, z2, z3⟩ := ce_zero h
    obtain ⟨d1, d2, d3, d4, d5⟩ := ce_spec z1 z2 z3
    rw [← hr] at d2 d3 d4 d5
    refine ⟨ce_le (x := x + 1) y0 (by omega) d4, ce_le (x := x + 1) y0 d5 ?_⟩
    rw [Int.add_mul, Int.one_mul]; omega
  have w1 : IntKind.i64.wrap (x + 1) = x + 1 := by rw [IntKind.wrap_i64]; omega
  have w2 : IntKind.i64.wrap (q - 1) = q - 1 := by rw [IntKind.wrap_i64]; omega
  have w4 : IntKind.i64.wrap (q + 1) = q + 1 := by rw [IntKind.wrap_i64]; omega
  have hM : 0 < q → 0 ≤ y * (q - 1) ∧ y * (q - 1) < x := by
    intro h
    exact ⟨Int.mul_nonneg y1 (by omega), by rw [Int.mul_comm]; exact c5⟩
  obtain ⟨M, hMe⟩ : ∃ p, p = y * (q - 1) := ⟨_, rfl⟩
  rw [← hMe] at hM
  have w3 : 0 < q → IntKind.i64.wrap (y * (q - 1)) = M := by intro h; have := hM h; rw [IntKind.wrap_i64, hMe]; rw [hMe] at this; omega
  clear hq hp hf hr hg hMe c1 c4 c5 hx hy
  by_cases hq0 : 0 < q
  · obtain ⟨hM1, hM2⟩ := hM hq0
    have w3 := w3 hq0
    clear hM
    by_cases f0 : f = 0
    · have hp0 := hpf f0
      clear hpf
      by_cases g0 : g = 0
      · obtain ⟨g1, g2⟩ := hgr g0
        subst f0 g0
        clear hgr
        go_enter Try.func5, Try.ntmps5
        go_wp2_with fail
        refine (C1.out _).mono ?_; rintro e v1 ⟨rfl, hb⟩
        replace G := keep_below G hb; clear hb
        go_wp2_with fail
        refine (RR.out _).mono ?_; rintro e v2 ⟨rfl, rfl⟩
        go_wp2_with fail
        refine (RS.out _).mono ?_; rintro e v3 ⟨rfl, rfl⟩
        go_wp2_with fail
        refine (M1.out _).mono ?_; rintro e v4 ⟨rfl, hb⟩
        replace G := keep_below G hb; clear hb
        go_wp2_with fail
        refine (C2.out _).mono ?_; rintro e v5 ⟨rfl, hb⟩
        replace G := keep_below G hb; clear hb
        go_wp2_with fail
        refine (KK.out _).mono ?_; rintro e v6 ⟨rfl, hb⟩
        replace G := keep_below G hb; clear hb
        go_wp2
        go_ret
        exact ⟨rfl, G⟩
      · subst f0
        clear hgr
        go_enter Try.func5, Try.ntmps5
        go_wp2_with fail
        refine (C1.out _).mono ?_; rintro e v1 ⟨rfl, hb⟩
        replace G := keep_below G hb; clear hb
        go_wp2_with fail
        refine (RR.out _).mono ?_; rintro e v2 ⟨rfl, rfl⟩
        go_wp2_with fail
        refine (RS.out _).mono ?_; rintro e v3 ⟨rfl, rfl⟩
        go_wp2_with fail
        refine (M1.out _).mono ?_; rintro e v4 ⟨rfl, hb⟩
        replace G := keep_below G hb; clear hb
        go_wp2_with fail
        refine (C2.out _).mono ?_; rintro e v5 ⟨rfl, hb⟩
        replace G := keep_below G hb; clear hb
        go_wp2_with fail
        refine (KK.out _).mono ?_; rintro e v6 ⟨rfl, hb⟩
        replace G := keep_below G hb; clear hb
        go_wp2
        go_ret
        exact ⟨rfl, G⟩
    · clear hpf
      by_cases g0 : g = 0
      · obtain ⟨g1, g2⟩ := hgr g0
        subst g0
        clear hgr
        go_enter Try.func5, Try.ntmps5
        go_wp2_with fail
        refine (C1.out _).mono ?_; rintro e v1 ⟨rfl, hb⟩
        replace G := keep_below G hb; clear hb
        go_wp2_with fail
        refine (RR.out _).mono ?_; rintro e v2 ⟨rfl, rfl⟩
        go_wp2_with fail
        refine (RS.out _).mono ?_; rintro e v3 ⟨rfl, rfl⟩
        go_wp2_with fail
        refine (M1.out _).mono ?_; rintro e v4 ⟨rfl, hb⟩
        replace G := keep_below G hb; clear hb
        go_wp2_with fail
        refine (C2.out _).mono ?_; rintro e v5 ⟨rfl, hb⟩
        replace G := keep_below G hb; clear hb
        go_wp2_with fail
        refine (KK.out _).mono ?_; rintro e v6 ⟨rfl, hb⟩
        replace G := keep_below G hb; clear hb
        go_wp2
        go_ret
        exact ⟨rfl, G⟩
      · clear hgr
        go_enter Try.func5, Try.ntmps5
        go_wp2_with fail
        refine (C1.out _).mono ?_; rintro e v1 ⟨rfl, hb⟩
        replace G := keep_below G hb; clear hb
        go_wp2_with fail
        refine (RR.out _).mono ?_; rintro e v2 ⟨rfl, rfl⟩
        go_wp2_with fail
        refine (RS.out _).mono ?_; rintro e v3 ⟨rfl, rfl⟩
        go_wp2_with fail
        refine (M1.out _).mono ?_; rintro e v4 ⟨rfl, hb⟩
        replace G := keep_below G hb; clear hb
        go_wp2_with fail
        refine (C2.out _).mono ?_; rintro e v5 ⟨rfl, hb⟩
        replace G := keep_below G hb; clear hb
        go_wp2_with fail
        refine (KK.out _).mono ?_; rintro e v6 ⟨rfl, hb⟩
        replace G := keep_below G hb; clear hb
        go_wp2
        go_ret
        exact ⟨rfl, G⟩
  · obtain rfl : q = 0 := by omega
    clear hM w3
    by_cases f0 : f = 0
    · have hp0 := hpf f0
      clear hpf
      by_cases g0 : g = 0
      · obtain ⟨g1, g2⟩ := hgr g0
        subst f0 g0
        clear hgr
        go_enter Try.func5, Try.ntmps5
        go_wp2_with fail
        refine (C1.out _).mono ?_; rintro e v1 ⟨rfl, hb⟩
        replace G := keep_below G hb; clear hb
        go_wp2_with fail
        refine (RR.out _).mono ?_; rintro e v2 ⟨rfl, rfl⟩
        go_wp2_with fail
        refine (RS.out _).mono ?_; rintro e v3 ⟨rfl, rfl⟩
        go_wp2_with fail
        refine (M1.out _).mono ?_; rintro e v4 ⟨rfl, hb⟩
        replace G := keep_below G hb; clear hb
        go_wp2_with fail
        refine (C2.out _).mono ?_; rintro e v5 ⟨rfl, hb⟩
        replace G := keep_below G hb; clear hb
        go_wp2_with fail
        refine (KK.out _).mono ?_; rintro e v6 ⟨rfl, hb⟩
        replace G := keep_below G hb; clear hb
        go_wp2
        go_ret
        exact ⟨rfl, G⟩
      · subst f0
        clear hgr
        go_enter Try.func5, Try.ntmps5
        go_wp2_with fail
        refine (C1.out _).mono ?_; rintro e v1 ⟨rfl, hb⟩
        replace G := keep_below G hb; clear hb
        go_wp2_with fail
        refine (RR.out _).mono ?_; rintro e v2 ⟨rfl, rfl⟩
        go_wp2_with fail
        refine (RS.out _).mono ?_; rintro e v3 ⟨rfl, rfl⟩
        go_wp2_with fail
        refine (M1.out _).mono ?_; rintro e v4 ⟨rfl, hb⟩
        replace G := keep_below G hb; clear hb
        go_wp2_with fail
        refine (C2.out _).mono ?_; rintro e v5 ⟨rfl, hb⟩
        replace G := keep_below G hb; clear hb
        go_wp2_with fail
        refine (KK.out _).mono ?_; rintro e v6 ⟨rfl, hb⟩
        replace G := keep_below G hb; clear hb
        go_wp2
        go_ret
        exact ⟨rfl, G⟩
    · clear hpf
      by_cases g0 : g = 0
      · obtain ⟨g1, g2⟩ := hgr g0
        subst g0
        clear hgr
        go_enter Try.func5, Try.ntmps5
        go_wp2_with fail
        refine (C1.out _).mono ?_; rintro e v1 ⟨rfl, hb⟩
        replace G := keep_below G hb; clear hb
        go_wp2_with fail
        refine (RR.out _).mono ?_; rintro e v2 ⟨rfl, rfl⟩
        go_wp2_with fail
        refine (RS.out _).mono ?_; rintro e v3 ⟨rfl, rfl⟩
        go_wp2_with fail
        refine (M1.out _).mono ?_; rintro e v4 ⟨rfl, hb⟩
        replace G := keep_below G hb; clear hb
        go_wp2_with fail
        refine (C2.out _).mono ?_; rintro e v5 ⟨rfl, hb⟩
        replace G := keep_below G hb; clear hb
        go_wp2_with fail
        refine (KK.out _).mono ?_; rintro e v6 ⟨rfl, hb⟩
        replace G := keep_below G hb; clear hb
        go_wp2
        go_ret
        exact ⟨rfl, G⟩
      · clear hgr
        go_enter Try.func5, Try.ntmps5
        go_wp2_with fail
        refine (C1.out _).mono ?_; rintro e v1 ⟨rfl, hb⟩
        replace G := keep_below G hb; clear hb
        go_wp2_with fail
        refine (RR.out _).mono ?_; rintro e v2 ⟨rfl, rfl⟩
        go_wp2_with fail
        refine (RS.out _).mono ?_; rintro e v3 ⟨rfl, rfl⟩
        go_wp2_with fail
        refine (M1.out _).mono ?_; rintro e v4 ⟨rfl, hb⟩
        replace G := keep_below G hb; clear hb
        go_wp2_with fail
        refine (C2.out _).mono ?_; rintro e v5 ⟨rfl, hb⟩
        replace G := keep_below G hb; clear hb
        go_wp2_with fail
        refine (KK.out _).mono ?_; rintro e v6 ⟨rfl, hb⟩
        replace G := keep_below G hb; clear hb
        go_wp2
        go_ret
        exact ⟨rfl, G⟩
end Go.Proofs.Ytpgmakhojehalaa
