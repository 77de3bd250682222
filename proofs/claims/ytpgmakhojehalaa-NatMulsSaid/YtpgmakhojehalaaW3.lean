/- What is proved here: the walks of the laws NatMuls, NatSteps. Conditions: none. -/
import Derived.Test.YtpgmakhojehalaaW2
namespace Go.Proofs.Ytpgmakhojehalaa
open Go.ChangeShapes Go.WideShapes Go.RowKit

set_option maxHeartbeats 2000000 in
set_option maxRecDepth 100000 in
theorem muls_walk (x y z : Int) (w : World) :
    Calls Try.prog 8 #[.int .i64 x, .int .i64 y, .int .i64 z] w fun e w' => e = .returned (.bool true) ∧ Below w.heap.size w w' := by
  have G := Below.refl w.heap.size w
  have KK := Lib.hid (fun W => known_any W)
  obtain ⟨p, hp⟩ : ∃ p, p = mulV x y := ⟨_, rfl⟩
  obtain ⟨e, he⟩ : ∃ p, p = mulE x y := ⟨_, rfl⟩
  obtain ⟨q, hq⟩ : ∃ p, p = mulV y z := ⟨_, rfl⟩
  obtain ⟨f, hf⟩ : ∃ p, p = mulE y z := ⟨_, rfl⟩
  obtain ⟨r, hr⟩ : ∃ k, k = mulV p z := ⟨_, rfl⟩
  obtain ⟨g, hg⟩ : ∃ k, k = mulE p z := ⟨_, rfl⟩
  obtain ⟨s, hs⟩ : ∃ k, k = mulV x q := ⟨_, rfl⟩
  obtain ⟨h, hh⟩ : ∃ k, k = mulE x q := ⟨_, rfl⟩
  obtain ⟨u, hu⟩ : ∃ k, k = ceV r z := ⟨_, rfl⟩
  obtain ⟨i, hi⟩ : ∃ k, k = ceE r z := ⟨_, rfl⟩
  obtain ⟨v, hv⟩ : ∃ k, k = ceV p y := ⟨_, rfl⟩
  obtain ⟨j, hj⟩ : ∃ k, k = ceE p y := ⟨_, rfl⟩
  have M1 := Lib.hid (mul_at (show (mulV x y, mulE x y) = (p, e) by rw [← hp, ← he]))
  have M2 := Lib.hid (mul_at (show (mulV y z, mulE y z) = (q, f) by rw [← hq, ← hf]))
  have M3 := Lib.hid (mul_at (show (mulV p z, mulE p z) = (r, g) by rw [← hr, ← hg]))
  have M4 := Lib.hid (mul_at (show (mulV x q, mulE x q) = (s, h) by rw [← hs, ← hh]))
  have D1 := Lib.hid (ceil_at (show (ceV r z, ceE r z) = (u, i) by rw [← hu, ← hi]))
  have D2 := Lib.hid (ceil_at (show (ceV p y, ceE p y) = (v, j) by rw [← hv, ← hj]))
  by_cases e0 : e = 0
  · by_cases f0 : f = 0
    · by_cases g0 : g = 0
      · obtain ⟨rx, ry, b1, b2⟩ := mulE_zero (x := x) (y := y) (by rw [← he]; exact e0)
        obtain ⟨_, rz, b3, b4⟩ := mulE_zero (x := y) (y := z) (by rw [← hf]; exact f0)
        obtain ⟨rp, _, b5, b6⟩ := mulE_zero (x := p) (y := z) (by rw [← hg]; exact g0)
        obtain ⟨x1, x2⟩ := rt_iff.1 rx
        obtain ⟨y1, y2⟩ := rt_iff.1 ry
        obtain ⟨z1, z2⟩ := rt_iff.1 rz
        have pE : p = x * y := by rw [hp, b2]
        have qE : q = y * z := by rw [hq, b4]
        have rE : r = p * z := by rw [hr, b6]
        have eq : x * q = p * z := by rw [qE, pE, Int.mul_assoc]
        have p0 : 0 ≤ p := (rt_iff.1 rp).1
        have rq : rt q = true := by rw [qE]; exact rt_iff.2 ⟨Int.mul_nonneg y1 z1, b3⟩
        have rr : rt (p * z) = true := rt_iff.2 ⟨Int.mul_nonneg p0 z1, b5⟩
        have b7 := mul_ok (x := x) (y := q) (by rw [rx, rq]; rfl) (by rw [eq]; exact b5)
        have h0 : h = 0 := by rw [hh, b7.1]
        have sE : s = r := by rw [hs, b7.2, eq, rE]
        have cz : z ≠ 0 → i = 0 ∧ u = p := by
          intro h
          have := ce_mul (x := p) (y := z) rr rz h
          rw [hi, hu, rE]; exact this
        have cz0 : z = 0 → i = 1 := by
          intro h
          have := ceil_wrong (x := r) (y := z) (Or.inr h)
          rw [hi]; exact this.1
        have cy : y ≠ 0 → j = 0 ∧ v = x := by
          intro h
          have := ce_mul (x := x) (y := y) (by rw [← pE]; exact rp) ry h
          rw [hj, hv, pE]; exact this
        have cy0 : y = 0 → j = 1 := by
          intro h
          have := ceil_wrong (x := p) (y := y) (Or.inr h)
          rw [hj]; exact this.1
        clear hp he hq hf hr hg hs hh hu hi hv hj b1 b2 b3 b4 b5 b6 b7 rx ry rz rp rq rr pE qE rE eq
        subst e0 f0 g0 h0 sE
        by_cases hz : z = 0
        · have i1 := cz0 hz
          subst hz i1
          clear cz cz0
          by_cases hy : y = 0
          · have j1 := cy0 hy
            subst hy j1
            clear cy cy0
            go_enter Try.func8, Try.ntmps8
            go_wp2_with fail
            refine (M1.out _).mono ?_; rintro e v1 ⟨rfl, hb⟩
            replace G := keep_below G hb; clear hb
            go_wp2_with fail
            refine (M2.out _).mono ?_; rintro e v2 ⟨rfl, hb⟩
            replace G := keep_below G hb; clear hb
            go_wp2_with fail
            refine (M3.out _).mono ?_; rintro e v3 ⟨rfl, hb⟩
            replace G := keep_below G hb; clear hb
            go_wp2_with fail
            refine (M4.out _).mono ?_; rintro e v4 ⟨rfl, hb⟩
            replace G := keep_below G hb; clear hb
            go_wp2_with fail
            refine (D1.out _).mono ?_; rintro e v5 ⟨rfl, hb⟩
            replace G := keep_below G hb; clear hb
            go_wp2_with fail
            refine (D2.out _).mono ?_; rintro e v6 ⟨rfl, hb⟩
            replace G := keep_below G hb; clear hb
            go_wp2_with fail
            refine (KK.out _).mono ?_; rintro e v7 ⟨rfl, hb⟩
            replace G := keep_below G hb; clear hb
            go_wp2
            go_ret
            exact ⟨rfl, G⟩
          · obtain ⟨j1, v1⟩ := cy hy
            have hy2 : 0 < y := by omega
            subst j1 v1
            clear cy cy0
            go_enter Try.func8, Try.ntmps8
            go_wp2_with fail
            refine (M1.out _).mono ?_; rintro e v1 ⟨rfl, hb⟩
            replace G := keep_below G hb; clear hb
            go_wp2_with fail
            refine (M2.out _).mono ?_; rintro e v2 ⟨rfl, hb⟩
            replace G := keep_below G hb; clear hb
            go_wp2_with fail
            refine (M3.out _).mono ?_; rintro e v3 ⟨rfl, hb⟩
            replace G := keep_below G hb; clear hb
            go_wp2_with fail
            refine (M4.out _).mono ?_; rintro e v4 ⟨rfl, hb⟩
            replace G := keep_below G hb; clear hb
            go_wp2_with fail
            refine (D1.out _).mono ?_; rintro e v5 ⟨rfl, hb⟩
            replace G := keep_below G hb; clear hb
            go_wp2_with fail
            refine (D2.out _).mono ?_; rintro e v6 ⟨rfl, hb⟩
            replace G := keep_below G hb; clear hb
            go_wp2_with fail
            refine (KK.out _).mono ?_; rintro e v7 ⟨rfl, hb⟩
            replace G := keep_below G hb; clear hb
            go_wp2
            go_ret
            exact ⟨rfl, G⟩
        · obtain ⟨i1, u1⟩ := cz hz
          have hz2 : 0 < z := by omega
          subst i1 u1
          clear cz cz0
          by_cases hy : y = 0
          · have j1 := cy0 hy
            subst hy j1
            clear cy cy0
            go_enter Try.func8, Try.ntmps8
            go_wp2_with fail
            refine (M1.out _).mono ?_; rintro e v1 ⟨rfl, hb⟩
            replace G := keep_below G hb; clear hb
            go_wp2_with fail
            refine (M2.out _).mono ?_; rintro e v2 ⟨rfl, hb⟩
            replace G := keep_below G hb; clear hb
            go_wp2_with fail
            refine (M3.out _).mono ?_; rintro e v3 ⟨rfl, hb⟩
            replace G := keep_below G hb; clear hb
            go_wp2_with fail
            refine (M4.out _).mono ?_; rintro e v4 ⟨rfl, hb⟩
            replace G := keep_below G hb; clear hb
            go_wp2_with fail
            refine (D1.out _).mono ?_; rintro e v5 ⟨rfl, hb⟩
            replace G := keep_below G hb; clear hb
            go_wp2_with fail
            refine (D2.out _).mono ?_; rintro e v6 ⟨rfl, hb⟩
            replace G := keep_below G hb; clear hb
            go_wp2_with fail
            refine (KK.out _).mono ?_; rintro e v7 ⟨rfl, hb⟩
            replace G := keep_below G hb; clear hb
            go_wp2
            go_ret
            exact ⟨rfl, G⟩
          · obtain ⟨j1, v1⟩ := cy hy
            have hy2 : 0 < y := by omega
            subst j1 v1
            clear cy cy0
            go_enter Try.func8, Try.ntmps8
            go_wp2_with fail
            refine (M1.out _).mono ?_; rintro e v1 ⟨rfl, hb⟩
            replace G := keep_below G hb; clear hb
            go_wp2_with fail
            refine (M2.out _).mono ?_; rintro e v2 ⟨rfl, hb⟩
            replace G := keep_below G hb; clear hb
            go_wp2_with fail
            refine (M3.out _).mono ?_; rintro e v3 ⟨rfl, hb⟩
            replace G := keep_below G hb; clear hb
            go_wp2_with fail
            refine (M4.out _).mono ?_; rintro e v4 ⟨rfl, hb⟩
            replace G := keep_below G hb; clear hb
            go_wp2_with fail
            refine (D1.out _).mono ?_; rintro e v5 ⟨rfl, hb⟩
            replace G := keep_below G hb; clear hb
            go_wp2_with fail
            refine (D2.out _).mono ?_; rintro e v6 ⟨rfl, hb⟩
            replace G := keep_below G hb; clear hb
            go_wp2_with fail
            refine (KK.out _).mono ?_; rintro e v7 ⟨rfl, hb⟩
            replace G := keep_below G hb; clear hb
            go_wp2
            go_ret
            exact ⟨rfl, G⟩
      · subst e0 f0
        clear hp he hq hf hr hg hs hh hu hi hv hj
        go_enter Try.func8, Try.ntmps8
        go_wp2_with fail
        refine (M1.out _).mono ?_; rintro e v1 ⟨rfl, hb⟩
        replace G := keep_below G hb; clear hb
        go_wp2_with fail
        refine (M2.out _).mono ?_; rintro e v2 ⟨rfl, hb⟩
        replace G := keep_below G hb; clear hb
        go_wp2_with fail
        refine (M3.out _).mono ?_; rintro e v3 ⟨rfl, hb⟩
        replace G := keep_below G hb; clear hb
        go_wp2_with fail
        refine (M4.out _).mono ?_; rintro e v4 ⟨rfl, hb⟩
        replace G := keep_below G hb; clear hb
        go_wp2_with fail
        refine (KK.out _).mono ?_; rintro e v5 ⟨rfl, hb⟩
        replace G := keep_below G hb; clear hb
        go_wp2
        go_ret
        exact ⟨rfl, G⟩
    · subst e0
      clear hp he hq hf hr hg hs hh hu hi hv hj
      go_enter Try.func8, Try.ntmps8
      go_wp2_with fail
      refine (M1.out _).mono ?_; rintro e v1 ⟨rfl, hb⟩
      replace G := keep_below G hb; clear hb
      go_wp2_with fail
      refine (M2.out _).mono ?_; rintro e v2 ⟨rfl, hb⟩
      replace G := keep_below G hb; clear hb
      go_wp2_with fail
      refine (M3.out _).mono ?_; rintro e v3 ⟨rfl, hb⟩
      replace G := keep_below G hb; clear hb
      go_wp2_with fail
      refine (M4.out _).mono ?_; rintro e v4 ⟨rfl, hb⟩
      replace G := keep_below G hb; clear hb
      go_wp2_with fail
      refine (KK.out _).mono ?_; rintro e v5 ⟨rfl, hb⟩
      replace G := keep_below G hb; clear hb
      go_wp2
      go_ret
      exact ⟨rfl, G⟩
  · clear hp he hq hf hr hg hs hh hu hi hv hj
    go_enter Try.func8, Try.ntmps8
    go_wp2_with fail
    refine (M1.out _).mono ?_; rintro e v1 ⟨rfl, hb⟩
    replace G := keep_below G hb; clear hb
    go_wp2_with fail
    refine (M2.out _).mono ?_; rintro e v2 ⟨rfl, hb⟩
    replace G := keep_below G hb; clear hb
    go_wp2_with fail
    refine (M3.out _).mono ?_; rintro e v3 ⟨rfl, hb⟩
    replace G := keep_below G hb; clear hb
    go_wp2_with fail
    refine (M4.out _).mono ?_; rintro e v4 ⟨rfl, hb⟩
    replace G := keep_below G hb; clear hb
    go_wp2_with fail
    refine (KK.out _).mono ?_; rintro e v5 ⟨rfl, hb⟩
    replace G := keep_below G hb; clear hb
    go_wp2
    go_ret
    exact ⟨rfl, G⟩

theorem mo2 (x y : Int) : mo [x, y] = if x < y then y else x := by
  simp [mo, bst]
theorem lea2 (x y : Int) : lea [x, y] = if y < x then y else x := by
  simp [lea, bst]
set_option maxHeartbeats 2000000 in
set_option maxRecDepth 100000 in
theorem steps_walk (x y : Int) (w : World) :
    Calls Try.prog 9 #[.int .i64 x, .int .i64 y] w fun e w' => e = .returned (.bool true) ∧ Below w.heap.size w w' := by
  have G := Below.refl w.heap.size w
  have KK := Lib.hid (fun W => known_any W)
  obtain ⟨y', wy⟩ : ∃ k, IntKind.i64.wrap (y + 1) = k := ⟨_, rfl⟩
  have wy' := wy
  rw [IntKind.wrap_i64] at wy'
  obtain ⟨p, hp⟩ : ∃ p, p = ceV x y := ⟨_, rfl⟩
  obtain ⟨e, he⟩ : ∃ p, p = ceE x y := ⟨_, rfl⟩
  obtain ⟨q, hq⟩ : ∃ p, p = ceV x y' := ⟨_, rfl⟩
  obtain ⟨f, hf⟩ : ∃ p, p = ceE x y' := ⟨_, rfl⟩
  have C1 := Lib.hid (ceil_at (show (ceV x y, ceE x y) = (p, e) by rw [← hp, ← he]))
  have C2 := Lib.hid (ceil_at (show (ceV x y', ceE x y') = (q, f) by rw [← hq, ← hf]))
  have hqp : e = 0 → f = 0 → q ≤ p := by
    intro h1 h2
    rw [he] at h1
    rw [hf] at h2
    obtain ⟨a1, a2, a3⟩ := ce_zero h1
    obtain ⟨b1, b2, b3⟩ := ce_zero h2
    obtain ⟨_, c2, _, c4, _⟩ := ce_spec a1 a2 a3
    obtain ⟨_, _, _, _, d5⟩ := ce_spec b1 b2 b3
    obtain ⟨y1, y2⟩ := rt_iff.1 a2
    have ey : y' = y + 1 := by omega
    rw [← hq] at d5
    rw [← hp] at c2 c4
    refine ce_le (y := y') (x := x) (by omega) d5 ?_
    rw [ey, Int.mul_add, Int.mul_one]; omega
  obtain ⟨s, hs⟩ : ∃ p, p = addV [x, 0] := ⟨_, rfl⟩
  obtain ⟨g, hg⟩ : ∃ p, p = addE [x, 0] := ⟨_, rfl⟩
  have A1 := Lib.hid (fun W => add_at (c := 2) (show (addV [x, 0], addE [x, 0]) = (s, g) by rw [← hs, ← hg]) (by omega) _ (lit2 W x 0))
  obtain ⟨h, hh⟩ : ∃ p, p = mo [x, y] := ⟨_, rfl⟩
  obtain ⟨l, hl⟩ : ∃ p, p = lea [x, y] := ⟨_, rfl⟩
  have O1 := Lib.hid (fun W => most_at (c := 2) hh.symm (by omega) _ (lit2 W x y))
  have L1 := Lib.hid (fun W => least_at (c := 2) hl.symm (by omega) _ (lit2 W x y))
  rw [mo2] at hh
  rw [lea2] at hl
  have R1 := right_any x
  clear hp he hq hf wy'
  cases hx : rt x
  · rw [hx] at R1
    have RR := Lib.hid R1
    have g1 : g = 1 := by rw [hg]; exact (add_wrong (by rw [al2, hx]; rfl)).1
    subst g1
    clear hs hg hx R1
    by_cases e0 : e = 0
    · by_cases f0 : f = 0
      · have q0 := hqp e0 f0
        subst e0 f0
        clear hqp
        by_cases c1 : x < y
        · rw [if_pos c1] at hh
          rw [if_neg (by omega)] at hl
          subst hh hl
          go_enter Try.func9, Try.ntmps9
          go_wp2_with fail
          refine (C1.out _).mono ?_; rintro e v1 ⟨rfl, hb⟩
          replace G := keep_below G hb; clear hb
          go_wp2_with fail
          refine (C2.out _).mono ?_; rintro e v2 ⟨rfl, hb⟩
          replace G := keep_below G hb; clear hb
          go_wp2_with fail
          refine (A1.out _).mono ?_; rintro e v3 ⟨rfl, hb⟩
          replace G := keep_lit G hb; clear hb
          go_wp2_with fail
          refine (O1.out _).mono ?_; rintro e v4 ⟨rfl, hb⟩
          replace G := keep_lit G hb; clear hb
          go_wp2_with fail
          refine (L1.out _).mono ?_; rintro e v5 ⟨rfl, hb⟩
          replace G := keep_lit G hb; clear hb
          go_wp2_with fail
          refine (RR.out _).mono ?_; rintro e v6 ⟨rfl, rfl⟩
          go_wp2_with fail
          refine (KK.out _).mono ?_; rintro e v7 ⟨rfl, hb⟩
          replace G := keep_below G hb; clear hb
          go_wp2
          go_ret
          exact ⟨rfl, G⟩
        · rw [if_neg c1] at hh
          by_cases c2 : y < x
          · rw [if_pos c2] at hl
            subst hh hl
            clear c1
            go_enter Try.func9, Try.ntmps9
            go_wp2_with fail
            refine (C1.out _).mono ?_; rintro e v1 ⟨rfl, hb⟩
            replace G := keep_below G hb; clear hb
            go_wp2_with fail
            refine (C2.out _).mono ?_; rintro e v2 ⟨rfl, hb⟩
            replace G := keep_below G hb; clear hb
            go_wp2_with fail
            refine (A1.out _).mono ?_; rintro e v3 ⟨rfl, hb⟩
            replace G := keep_lit G hb; clear hb
            go_wp2_with fail
            refine (O1.out _).mono ?_; rintro e v4 ⟨rfl, hb⟩
            replace G := keep_lit G hb; clear hb
            go_wp2_with fail
            refine (L1.out _).mono ?_; rintro e v5 ⟨rfl, hb⟩
            replace G := keep_lit G hb; clear hb
            go_wp2_with fail
            refine (RR.out _).mono ?_; rintro e v6 ⟨rfl, rfl⟩
            go_wp2_with fail
            refine (KK.out _).mono ?_; rintro e v7 ⟨rfl, hb⟩
            replace G := keep_below G hb; clear hb
            go_wp2
            go_ret
            exact ⟨rfl, G⟩
          · rw [if_neg c2] at hl
            obtain rfl : x = y := by omega
            subst hh hl
            clear c1 c2
            go_enter Try.func9, Try.ntmps9
            go_wp2_with fail
            refine (C1.out _).mono ?_; rintro e v1 ⟨rfl, hb⟩
            replace G := keep_below G hb; clear hb
            go_wp2_with fail
            refine (C2.out _).mono ?_; rintro e v2 ⟨rfl, hb⟩
            replace G := keep_below G hb; clear hb
            go_wp2_with fail
            refine (A1.out _).mono ?_; rintro e v3 ⟨rfl, hb⟩
            replace G := keep_lit G hb; clear hb
            go_wp2_with fail
            refine (O1.out _).mono ?_; rintro e v4 ⟨rfl, hb⟩
            replace G := keep_lit G hb; clear hb
            go_wp2_with fail
            refine (L1.out _).mono ?_; rintro e v5 ⟨rfl, hb⟩
            replace G := keep_lit G hb; clear hb
            go_wp2_with fail
            refine (RR.out _).mono ?_; rintro e v6 ⟨rfl, rfl⟩
            go_wp2_with fail
            refine (KK.out _).mono ?_; rintro e v7 ⟨rfl, hb⟩
            replace G := keep_below G hb; clear hb
            go_wp2
            go_ret
            exact ⟨rfl, G⟩
      · subst e0
        clear hqp
        by_cases c1 : x < y
        · rw [if_pos c1] at hh
          rw [if_neg (by omega)] at hl
          subst hh hl
          go_enter Try.func9, Try.ntmps9
          go_wp2_with fail
          refine (C1.out _).mono ?_; rintro e v1 ⟨rfl, hb⟩
          replace G := keep_below G hb; clear hb
          go_wp2_with fail
          refine (C2.out _).mono ?_; rintro e v2 ⟨rfl, hb⟩
          replace G := keep_below G hb; clear hb
          go_wp2_with fail
          refine (A1.out _).mono ?_; rintro e v3 ⟨rfl, hb⟩
          replace G := keep_lit G hb; clear hb
          go_wp2_with fail
          refine (O1.out _).mono ?_; rintro e v4 ⟨rfl, hb⟩
          replace G := keep_lit G hb; clear hb
          go_wp2_with fail
          refine (L1.out _).mono ?_; rintro e v5 ⟨rfl, hb⟩
          replace G := keep_lit G hb; clear hb
          go_wp2_with fail
          refine (RR.out _).mono ?_; rintro e v6 ⟨rfl, rfl⟩
          go_wp2_with fail
          refine (KK.out _).mono ?_; rintro e v7 ⟨rfl, hb⟩
          replace G := keep_below G hb; clear hb
          go_wp2
          go_ret
          exact ⟨rfl, G⟩
        · rw [if_neg c1] at hh
          by_cases c2 : y < x
          · rw [if_pos c2] at hl
            subst hh hl
            clear c1
            go_enter Try.func9, Try.ntmps9
            go_wp2_with fail
            refine (C1.out _).mono ?_; rintro e v1 ⟨rfl, hb⟩
            replace G := keep_below G hb; clear hb
            go_wp2_with fail
            refine (C2.out _).mono ?_; rintro e v2 ⟨rfl, hb⟩
            replace G := keep_below G hb; clear hb
            go_wp2_with fail
            refine (A1.out _).mono ?_; rintro e v3 ⟨rfl, hb⟩
            replace G := keep_lit G hb; clear hb
            go_wp2_with fail
            refine (O1.out _).mono ?_; rintro e v4 ⟨rfl, hb⟩
            replace G := keep_lit G hb; clear hb
            go_wp2_with fail
            refine (L1.out _).mono ?_; rintro e v5 ⟨rfl, hb⟩
            replace G := keep_lit G hb; clear hb
            go_wp2_with fail
            refine (RR.out _).mono ?_; rintro e v6 ⟨rfl, rfl⟩
            go_wp2_with fail
            refine (KK.out _).mono ?_; rintro e v7 ⟨rfl, hb⟩
            replace G := keep_below G hb; clear hb
            go_wp2
            go_ret
            exact ⟨rfl, G⟩
          · rw [if_neg c2] at hl
            obtain rfl : x = y := by omega
            subst hh hl
            clear c1 c2
            go_enter Try.func9, Try.ntmps9
            go_wp2_with fail
            refine (C1.out _).mono ?_; rintro e v1 ⟨rfl, hb⟩
            replace G := keep_below G hb; clear hb
            go_wp2_with fail
            refine (C2.out _).mono ?_; rintro e v2 ⟨rfl, hb⟩
            replace G := keep_below G hb; clear hb
            go_wp2_with fail
            refine (A1.out _).mono ?_; rintro e v3 ⟨rfl, hb⟩
            replace G := keep_lit G hb; clear hb
            go_wp2_with fail
            refine (O1.out _).mono ?_; rintro e v4 ⟨rfl, hb⟩
            replace G := keep_lit G hb; clear hb
            go_wp2_with fail
            refine (L1.out _).mono ?_; rintro e v5 ⟨rfl, hb⟩
            replace G := keep_lit G hb; clear hb
            go_wp2_with fail
            refine (RR.out _).mono ?_; rintro e v6 ⟨rfl, rfl⟩
            go_wp2_with fail
            refine (KK.out _).mono ?_; rintro e v7 ⟨rfl, hb⟩
            replace G := keep_below G hb; clear hb
            go_wp2
            go_ret
            exact ⟨rfl, G⟩
    · clear hqp
      by_cases c1 : x < y
      · rw [if_pos c1] at hh
        rw [if_neg (by omega)] at hl
        subst hh hl
        go_enter Try.func9, Try.ntmps9
        go_wp2_with fail
        refine (C1.out _).mono ?_; rintro e v1 ⟨rfl, hb⟩
        replace G := keep_below G hb; clear hb
        go_wp2_with fail
        refine (C2.out _).mono ?_; rintro e v2 ⟨rfl, hb⟩
        replace G := keep_below G hb; clear hb
        go_wp2_with fail
        refine (A1.out _).mono ?_; rintro e v3 ⟨rfl, hb⟩
        replace G := keep_lit G hb; clear hb
        go_wp2_with fail
        refine (O1.out _).mono ?_; rintro e v4 ⟨rfl, hb⟩
        replace G := keep_lit G hb; clear hb
        go_wp2_with fail
        refine (L1.out _).mono ?_; rintro e v5 ⟨rfl, hb⟩
        replace G := keep_lit G hb; clear hb
        go_wp2_with fail
        refine (RR.out _).mono ?_; rintro e v6 ⟨rfl, rfl⟩
        go_wp2_with fail
        refine (KK.out _).mono ?_; rintro e v7 ⟨rfl, hb⟩
        replace G := keep_below G hb; clear hb
        go_wp2
        go_ret
        exact ⟨rfl, G⟩
      · rw [if_neg c1] at hh
        by_cases c2 : y < x
        · rw [if_pos c2] at hl
          subst hh hl
          clear c1
          go_enter Try.func9, Try.ntmps9
          go_wp2_with fail
          refine (C1.out _).mono ?_; rintro e v1 ⟨rfl, hb⟩
          replace G := keep_below G hb; clear hb
          go_wp2_with fail
          refine (C2.out _).mono ?_; rintro e v2 ⟨rfl, hb⟩
          replace G := keep_below G hb; clear hb
          go_wp2_with fail
          refine (A1.out _).mono ?_; rintro e v3 ⟨rfl, hb⟩
          replace G := keep_lit G hb; clear hb
          go_wp2_with fail
          refine (O1.out _).mono ?_; rintro e v4 ⟨rfl, hb⟩
          replace G := keep_lit G hb; clear hb
          go_wp2_with fail
          refine (L1.out _).mono ?_; rintro e v5 ⟨rfl, hb⟩
          replace G := keep_lit G hb; clear hb
          go_wp2_with fail
          refine (RR.out _).mono ?_; rintro e v6 ⟨rfl, rfl⟩
          go_wp2_with fail
          refine (KK.out _).mono ?_; rintro e v7 ⟨rfl, hb⟩
          replace G := keep_below G hb; clear hb
          go_wp2
          go_ret
          exact ⟨rfl, G⟩
        · rw [if_neg c2] at hl
          obtain rfl : x = y := by omega
          subst hh hl
          clear c1 c2
          go_enter Try.func9, Try.ntmps9
          go_wp2_with fail
          refine (C1.out _).mono ?_; rintro e v1 ⟨rfl, hb⟩
          replace G := keep_below G hb; clear hb
          go_wp2_with fail
          refine (C2.out _).mono ?_; rintro e v2 ⟨rfl, hb⟩
          replace G := keep_below G hb; clear hb
          go_wp2_with fail
          refine (A1.out _).mono ?_; rintro e v3 ⟨rfl, hb⟩
          replace G := keep_lit G hb; clear hb
          go_wp2_with fail
          refine (O1.out _).mono ?_; rintro e v4 ⟨rfl, hb⟩
          replace G := keep_lit G hb; clear hb
          go_wp2_with fail
          refine (L1.out _).mono ?_; rintro e v5 ⟨rfl, hb⟩
          replace G := keep_lit G hb; clear hb
          go_wp2_with fail
          refine (RR.out _).mono ?_; rintro e v6 ⟨rfl, rfl⟩
          go_wp2_with fail
          refine (KK.out _).mono ?_; rintro e v7 ⟨rfl, hb⟩
          replace G := keep_below G hb; clear hb
          go_wp2
          go_ret
          exact ⟨rfl, G⟩
  · rw [hx] at R1
    have RR := Lib.hid R1
    obtain ⟨x1, x2⟩ := rt_iff.1 hx
    have a0 := add_ok (l := [x, 0]) (by rw [al2, hx]; decide +kernel) (by rw [sum2]; omega)
    rw [sum2, Int.add_zero] at a0
    have g0 : g = 0 := by rw [hg, a0.1]
    have sE : x = s := by rw [hs, a0.2]
    subst g0 sE
    clear hs hg hx R1 a0
    by_cases e0 : e = 0
    · by_cases f0 : f = 0
      · have q0 := hqp e0 f0
        subst e0 f0
        clear hqp
        by_cases c1 : x < y
        · rw [if_pos c1] at hh
          rw [if_neg (by omega)] at hl
          subst hh hl
          go_enter Try.func9, Try.ntmps9
          go_wp2_with fail
          refine (C1.out _).mono ?_; rintro e v1 ⟨rfl, hb⟩
          replace G := keep_below G hb; clear hb
          go_wp2_with fail
          refine (C2.out _).mono ?_; rintro e v2 ⟨rfl, hb⟩
          replace G := keep_below G hb; clear hb
          go_wp2_with fail
          refine (A1.out _).mono ?_; rintro e v3 ⟨rfl, hb⟩
          replace G := keep_lit G hb; clear hb
          go_wp2_with fail
          refine (O1.out _).mono ?_; rintro e v4 ⟨rfl, hb⟩
          replace G := keep_lit G hb; clear hb
          go_wp2_with fail
          refine (L1.out _).mono ?_; rintro e v5 ⟨rfl, hb⟩
          replace G := keep_lit G hb; clear hb
          go_wp2_with fail
          refine (RR.out _).mono ?_; rintro e v6 ⟨rfl, rfl⟩
          go_wp2_with fail
          refine (KK.out _).mono ?_; rintro e v7 ⟨rfl, hb⟩
          replace G := keep_below G hb; clear hb
          go_wp2
          go_ret
          exact ⟨rfl, G⟩
        · rw [if_neg c1] at hh
          by_cases c2 : y < x
          · rw [if_pos c2] at hl
            subst hh hl
            clear c1
            go_enter Try.func9, Try.ntmps9
            go_wp2_with fail
            refine (C1.out _).mono ?_; rintro e v1 ⟨rfl, hb⟩
            replace G := keep_below G hb; clear hb
            go_wp2_with fail
            refine (C2.out _).mono ?_; rintro e v2 ⟨rfl, hb⟩
            replace G := keep_below G hb; clear hb
            go_wp2_with fail
            refine (A1.out _).mono ?_; rintro e v3 ⟨rfl, hb⟩
            replace G := keep_lit G hb; clear hb
            go_wp2_with fail
            refine (O1.out _).mono ?_; rintro e v4 ⟨rfl, hb⟩
            replace G := keep_lit G hb; clear hb
            go_wp2_with fail
            refine (L1.out _).mono ?_; rintro e v5 ⟨rfl, hb⟩
            replace G := keep_lit G hb; clear hb
            go_wp2_with fail
            refine (RR.out _).mono ?_; rintro e v6 ⟨rfl, rfl⟩
            go_wp2_with fail
            refine (KK.out _).mono ?_; rintro e v7 ⟨rfl, hb⟩
            replace G := keep_below G hb; clear hb
            go_wp2
            go_ret
            exact ⟨rfl, G⟩
          · rw [if_neg c2] at hl
            obtain rfl : x = y := by omega
            subst hh hl
            clear c1 c2
            go_enter Try.func9, Try.ntmps9
            go_wp2_with fail
            refine (C1.out _).mono ?_; rintro e v1 ⟨rfl, hb⟩
            replace G := keep_below G hb; clear hb
            go_wp2_with fail
            refine (C2.out _).mono ?_; rintro e v2 ⟨rfl, hb⟩
            replace G := keep_below G hb; clear hb
            go_wp2_with fail
            refine (A1.out _).mono ?_; rintro e v3 ⟨rfl, hb⟩
            replace G := keep_lit G hb; clear hb
            go_wp2_with fail
            refine (O1.out _).mono ?_; rintro e v4 ⟨rfl, hb⟩
            replace G := keep_lit G hb; clear hb
            go_wp2_with fail
            refine (L1.out _).mono ?_; rintro e v5 ⟨rfl, hb⟩
            replace G := keep_lit G hb; clear hb
            go_wp2_with fail
            refine (RR.out _).mono ?_; rintro e v6 ⟨rfl, rfl⟩
            go_wp2_with fail
            refine (KK.out _).mono ?_; rintro e v7 ⟨rfl, hb⟩
            replace G := keep_below G hb; clear hb
            go_wp2
            go_ret
            exact ⟨rfl, G⟩
      · subst e0
        clear hqp
        by_cases c1 : x < y
        · rw [if_pos c1] at hh
          rw [if_neg (by omega)] at hl
          subst hh hl
          go_enter Try.func9, Try.ntmps9
          go_wp2_with fail
          refine (C1.out _).mono ?_; rintro e v1 ⟨rfl, hb⟩
          replace G := keep_below G hb; clear hb
          go_wp2_with fail
          refine (C2.out _).mono ?_; rintro e v2 ⟨rfl, hb⟩
          replace G := keep_below G hb; clear hb
          go_wp2_with fail
          refine (A1.out _).mono ?_; rintro e v3 ⟨rfl, hb⟩
          replace G := keep_lit G hb; clear hb
          go_wp2_with fail
          refine (O1.out _).mono ?_; rintro e v4 ⟨rfl, hb⟩
          replace G := keep_lit G hb; clear hb
          go_wp2_with fail
          refine (L1.out _).mono ?_; rintro e v5 ⟨rfl, hb⟩
          replace G := keep_lit G hb; clear hb
          go_wp2_with fail
          refine (RR.out _).mono ?_; rintro e v6 ⟨rfl, rfl⟩
          go_wp2_with fail
          refine (KK.out _).mono ?_; rintro e v7 ⟨rfl, hb⟩
          replace G := keep_below G hb; clear hb
          go_wp2
          go_ret
          exact ⟨rfl, G⟩
        · rw [if_neg c1] at hh
          by_cases c2 : y < x
          · rw [if_pos c2] at hl
            subst hh hl
            clear c1
            go_enter Try.func9, Try.ntmps9
            go_wp2_with fail
            refine (C1.out _).mono ?_; rintro e v1 ⟨rfl, hb⟩
            replace G := keep_below G hb; clear hb
            go_wp2_with fail
            refine (C2.out _).mono ?_; rintro e v2 ⟨rfl, hb⟩
            replace G := keep_below G hb; clear hb
            go_wp2_with fail
            refine (A1.out _).mono ?_; rintro e v3 ⟨rfl, hb⟩
            replace G := keep_lit G hb; clear hb
            go_wp2_with fail
            refine (O1.out _).mono ?_; rintro e v4 ⟨rfl, hb⟩
            replace G := keep_lit G hb; clear hb
            go_wp2_with fail
            refine (L1.out _).mono ?_; rintro e v5 ⟨rfl, hb⟩
            replace G := keep_lit G hb; clear hb
            go_wp2_with fail
            refine (RR.out _).mono ?_; rintro e v6 ⟨rfl, rfl⟩
            go_wp2_with fail
            refine (KK.out _).mono ?_; rintro e v7 ⟨rfl, hb⟩
            replace G := keep_below G hb; clear hb
            go_wp2
            go_ret
            exact ⟨rfl, G⟩
          · rw [if_neg c2] at hl
            obtain rfl : x = y := by omega
            subst hh hl
            clear c1 c2
            go_enter Try.func9, Try.ntmps9
            go_wp2_with fail
            refine (C1.out _).mono ?_; rintro e v1 ⟨rfl, hb⟩
            replace G := keep_below G hb; clear hb
            go_wp2_with fail
            refine (C2.out _).mono ?_; rintro e v2 ⟨rfl, hb⟩
            replace G := keep_below G hb; clear hb
            go_wp2_with fail
            refine (A1.out _).mono ?_; rintro e v3 ⟨rfl, hb⟩
            replace G := keep_lit G hb; clear hb
            go_wp2_with fail
            refine (O1.out _).mono ?_; rintro e v4 ⟨rfl, hb⟩
            replace G := keep_lit G hb; clear hb
            go_wp2_with fail
            refine (L1.out _).mono ?_; rintro e v5 ⟨rfl, hb⟩
            replace G := keep_lit G hb; clear hb
            go_wp2_with fail
            refine (RR.out _).mono ?_; rintro e v6 ⟨rfl, rfl⟩
            go_wp2_with fail
            refine (KK.out _).mono ?_; rintro e v7 ⟨rfl, hb⟩
            replace G := keep_below G hb; clear hb
            go_wp2
            go_ret
            exact ⟨rfl, G⟩
    · clear hqp
      by_cases c1 : x < y
      · rw [if_pos c1] at hh
        rw [if_neg (by omega)] at hl
        subst hh hl
        go_enter Try.func9, Try.ntmps9
        go_wp2_with fail
        refine (C1.out _).mono ?_; rintro e v1 ⟨rfl, hb⟩
        replace G := keep_below G hb; clear hb
        go_wp2_with fail
        refine (C2.out _).mono ?_; rintro e v2 ⟨rfl, hb⟩
        replace G := keep_below G hb; clear hb
        go_wp2_with fail
        refine (A1.out _).mono ?_; rintro e v3 ⟨rfl, hb⟩
        replace G := keep_lit G hb; clear hb
        go_wp2_with fail
        refine (O1.out _).mono ?_; rintro e v4 ⟨rfl, hb⟩
        replace G := keep_lit G hb; clear hb
        go_wp2_with fail
        refine (L1.out _).mono ?_; rintro e v5 ⟨rfl, hb⟩
        replace G := keep_lit G hb; clear hb
        go_wp2_with fail
        refine (RR.out _).mono ?_; rintro e v6 ⟨rfl, rfl⟩
        go_wp2_with fail
        refine (KK.out _).mono ?_; rintro e v7 ⟨rfl, hb⟩
        replace G := keep_below G hb; clear hb
        go_wp2
        go_ret
        exact ⟨rfl, G⟩
      · rw [if_neg c1] at hh
        by_cases c2 : y < x
        · rw [if_pos c2] at hl
          subst hh hl
          clear c1
          go_enter Try.func9, Try.ntmps9
          go_wp2_with fail
          refine (C1.out _).mono ?_; rintro e v1 ⟨rfl, hb⟩
          replace G := keep_below G hb; clear hb
          go_wp2_with fail
          refine (C2.out _).mono ?_; rintro e v2 ⟨rfl, hb⟩
          replace G := keep_below G hb; clear hb
          go_wp2_with fail
          refine (A1.out _).mono ?_; rintro e v3 ⟨rfl, hb⟩
          replace G := keep_lit G hb; clear hb
          go_wp2_with fail
          refine (O1.out _).mono ?_; rintro e v4 ⟨rfl, hb⟩
          replace G := keep_lit G hb; clear hb
          go_wp2_with fail
          refine (L1.out _).mono ?_; rintro e v5 ⟨rfl, hb⟩
          replace G := keep_lit G hb; clear hb
          go_wp2_with fail
          refine (RR.out _).mono ?_; rintro e v6 ⟨rfl, rfl⟩
          go_wp2_with fail
          refine (KK.out _).mono ?_; rintro e v7 ⟨rfl, hb⟩
          replace G := keep_below G hb; clear hb
          go_wp2
          go_ret
          exact ⟨rfl, G⟩
        · rw [if_neg c2] at hl
          obtain rfl : x = y := by omega
          subst hh hl
          clear c1 c2
          go_enter Try.func9, Try.ntmps9
          go_wp2_with fail
          refine (C1.out _).mono ?_; rintro e v1 ⟨rfl, hb⟩
          replace G := keep_below G hb; clear hb
          go_wp2_with fail
          refine (C2.out _).mono ?_; rintro e v2 ⟨rfl, hb⟩
          replace G := keep_below G hb; clear hb
          go_wp2_with fail
          refine (A1.out _).mono ?_; rintro e v3 ⟨rfl, hb⟩
          replace G := keep_lit G hb; clear hb
          go_wp2_with fail
          refine (O1.out _).mono ?_; rintro e v4 ⟨rfl, hb⟩
          replace G := keep_lit G hb; clear hb
          go_wp2_with fail
          refine (L1.out _).mono ?_; rintro e v5 ⟨rfl, hb⟩
          replace G := keep_lit G hb; clear hb
          go_wp2_with fail
          refine (RR.out _).mono ?_; rintro e v6 ⟨rfl, rfl⟩
          go_wp2_with fail
          refine (KK.out _).mono ?_; rintro e v7 ⟨rfl, hb⟩
          replace G := keep_below G hb; clear hb
          go_wp2
          go_ret
          exact ⟨rfl, G⟩
end Go.Proofs.Ytpgmakhojehalaa
