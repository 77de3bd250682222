/- What is proved here: the walk of the law NatParts. Condition: slices are no longer than Go's. -/
import Derived.Test.YtpgmakhojehalaaW2
import Derived.Test.YtpgmakhojehalaaAp
namespace Go.Proofs.Ytpgmakhojehalaa
open Go.ChangeShapes Go.WideShapes Go.RowKit

theorem al_app (l m : List Int) : al (l ++ m) = (al l && al m) := by unfold al; rw [List.all_append]
theorem add_ne {l : List Int} (h : addE l ≠ 0) : addV l = 0 := by
  cases ha : al l
  · exact (add_wrong ha).2
  · by_cases hs : l.sum < 4611686018427387904
    · exact absurd (add_ok ha hs).1 h
    · exact (add_big ha (by omega)).2
theorem add_app {l m : List Int} (h : addE (l ++ m) = 0) : addE l = 0 ∧ addE m = 0 := by
  obtain ⟨h1, h2, _⟩ := addE_zero h
  rw [al_app, Bool.and_eq_true] at h1
  rw [List.sum_append] at h2
  have p1 := al_pos h1.1
  have p2 := al_pos h1.2
  exact ⟨(add_ok h1.1 (by omega)).1, (add_ok h1.2 (by omega)).1⟩
theorem add_both {l m : List Int} (h1 : addE l = 0) (h2 : addE m = 0) : addE (l ++ m) = addE [addV l, addV m] ∧ addV (l ++ m) = addV [addV l, addV m] := by
  obtain ⟨a1, a2, a3⟩ := addE_zero h1
  obtain ⟨b1, b2, b3⟩ := addE_zero h2
  have p1 := al_pos a1
  have p2 := al_pos b1
  have r1 : rt (addV l) = true := by rw [a3]; exact rt_iff.2 ⟨p1, a2⟩
  have r2 : rt (addV m) = true := by rw [b3]; exact rt_iff.2 ⟨p2, b2⟩
  have w1 : al (l ++ m) = true := by rw [al_app, a1, b1]; rfl
  have w2 : al [addV l, addV m] = true := by rw [al2, r1, r2]; rfl
  have s1 : (l ++ m).sum = l.sum + m.sum := List.sum_append
  have s2 : [addV l, addV m].sum = l.sum + m.sum := by rw [sum2, a3, b3]
  by_cases h : l.sum + m.sum < 4611686018427387904
  · obtain ⟨c1, c2⟩ := add_ok w1 (by rw [s1]; exact h)
    obtain ⟨d1, d2⟩ := add_ok w2 (by rw [s2]; exact h)
    exact ⟨by rw [c1, d1], by rw [c2, d2, s1, s2]⟩
  · obtain ⟨c1, c2⟩ := add_big w1 (by rw [s1]; omega)
    obtain ⟨d1, d2⟩ := add_big w2 (by rw [s2]; omega)
    exact ⟨by rw [c1, d1], by rw [c2, d2]⟩
set_option maxHeartbeats 4000000 in
set_option maxRecDepth 100000 in
theorem parts_walk (a : Option Addr) (n c : Nat) (l : List Int) (b : Option Addr) (m d : Nat) (k : List Int) (x : Int) (hmx : n ≤ maxLen) (hmy : m ≤ maxLen) (w : World) (hr : Row w a n l) (hs : Row w b m k) :
    Calls Try.prog 7 #[.slice a n c, .slice b m d, .int .i64 x] w fun e w' => e = .returned (.bool true) ∧ Below w.heap.size w w' := by
  have hm63 : n ≤ 9223372036854775807 := hmx
  have hn63 : m ≤ 9223372036854775807 := hmy
  have G := Below.refl w.heap.size w
  have KK := Lib.hid (fun W => known_any W)
  by_cases h40 : 40 < n
  · have h1 : (40 : Int) < (n : Int) := by omega
    clear hr hs
    go_enter Try.func7, Try.ntmps7
    go_wp2_with fail
    refine (KK.out _).mono ?_; rintro e v1 ⟨rfl, hb⟩
    replace G := keep_below G hb; clear hb
    go_wp2
    go_ret
    exact ⟨rfl, G⟩
  have h1 : ¬ (40 : Int) < (n : Int) := by omega
  by_cases h40b : 40 < m
  · have h2 : (40 : Int) < (m : Int) := by omega
    clear hr hs
    go_enter Try.func7, Try.ntmps7
    go_wp2_with fail
    refine (KK.out _).mono ?_; rintro e v1 ⟨rfl, hb⟩
    replace G := keep_below G hb; clear hb
    go_wp2
    go_ret
    exact ⟨rfl, G⟩
  have h2 : ¬ (40 : Int) < (m : Int) := by omega
  have HR := Lib.hid hr
  have HS := Lib.hid hs
  have C1 := Lib.hid (fun W (h : Below w.heap.size w W) => add_any a n c l W (HR.out.below h) (by omega))
  have C2 := Lib.hid (fun W (h : Below w.heap.size w W) => add_any b m d k W (HS.out.below h) (by omega))
  obtain ⟨u, hu⟩ : ∃ p, p = addV l := ⟨_, rfl⟩
  obtain ⟨e, he⟩ : ∃ p, p = addE l := ⟨_, rfl⟩
  obtain ⟨v, hv⟩ : ∃ p, p = addV k := ⟨_, rfl⟩
  obtain ⟨f, hf⟩ : ∃ p, p = addE k := ⟨_, rfl⟩
  obtain ⟨z, hz⟩ : ∃ p, p = addV (l ++ k) := ⟨_, rfl⟩
  obtain ⟨g, hg⟩ : ∃ p, p = addE (l ++ k) := ⟨_, rfl⟩
  rw [← hu, ← he] at C1
  rw [← hv, ← hf] at C2
  have F0 : e ≠ 0 ∨ f ≠ 0 → g ≠ 0 ∧ z = 0 := by
    intro h
    have hg0 : g ≠ 0 := by
      intro h0
      have := add_app (l := l) (m := k) (by rw [← hg]; exact h0)
      rw [he, hf] at h
      rcases h with h | h
      · exact h this.1
      · exact h this.2
    exact ⟨hg0, by rw [hz]; exact add_ne (by rw [← hg]; exact hg0)⟩
  have FA : Hid (e = 0 → f = 0 → g = addE [u, v] ∧ z = addV [u, v]) := by
    intro h1 h2
    rw [hg, hz, hu, hv]
    exact add_both (by rw [← he]; exact h1) (by rw [← hf]; exact h2)
  have FU : Hid (e = 0 → rt u = true) := by
    intro h
    obtain ⟨a1, a2, a3⟩ := addE_zero (by rw [← he]; exact h)
    rw [hu, a3]; exact rt_iff.2 ⟨al_pos a1, a2⟩
  have FV : Hid (f = 0 → rt v = true) := by
    intro h
    obtain ⟨a1, a2, a3⟩ := addE_zero (by rw [← hf]; exact h)
    rw [hv, a3]; exact rt_iff.2 ⟨al_pos a1, a2⟩
  have F0' := Lib.hid F0
  have C3 := Lib.hid (fun a' c' W (h : Row W a' (n + m) (l ++ k)) => add_any a' (n + m) c' (l ++ k) W h (by omega))
  rw [← hz, ← hg] at C3
  clear hu he hv hf hz hg F0 hr hs
  go_enter Try.func7, Try.ntmps7
  go_wp2_with fail
  refine (C1.out _ G).mono ?_; rintro e1 v1 ⟨rfl, hb⟩
  replace G := keep_below G hb; clear hb
  go_wp2_with fail
  refine (C2.out _ G).mono ?_; rintro e2 v2 ⟨rfl, hb⟩
  replace G := keep_below G hb; clear hb
  replace HR := Lib.hid (HR.out.below G)
  replace HS := Lib.hid (HS.out.below G)
  obtain ⟨j0, hj, hj0, hj1, hj2⟩ := info_parts int_info
  have HO : Hid ((v2.alloc (.cells #[] 3)).ownsRow v2.heap.size 3 1 (.slice (some ⟨v2.heap.size, 0, none⟩) 0 0) 0 []) := by
    refine ⟨by simp, Or.inr ⟨v2.heap.size, 0, #[], rfl, Nat.le_refl _, new_block _ _, by omega, by unfold maxLen; omega, rfl, rfl⟩⟩
  have B0 := below_alloc v2 (.cells #[] 3)
  go_wp2_with (at_builtin; refine wpList_append_row _ (by rfl) (.tmp 43) (.tmp 44) 22 rfl v2.heap.size j0 Try.underlying22 hj hj0 hj1 hj2 v2.heap.size 0 0 [] rfl HO.out a n c l rfl (HR.out.below B0) (by omega) (by simp) ?_)
  intro g1 p1 w10 hown1 hgrow1
  have B1 : Below v2.heap.size v2 w10 := B0.grown hgrow1 (by simp) (fun g hg => by cases hg; exact Nat.le_refl _)
  have hg1 := (hown1.lt g1 rfl).1
  clear hgrow1 HO
  go_wp2_with (at_builtin; refine wpList_append_row _ (by rfl) (.tmp 45) (.tmp 46) 22 rfl v2.heap.size j0 Try.underlying22 hj hj0 hj1 hj2 g1 n p1 _ rfl hown1 b m d k rfl (HS.out.below B1) (by omega) B1.size ?_)
  intro g2 p2 w11 hown2 hgrow2
  have B2 : Below v2.heap.size v2 w11 := B1.grown hgrow2 B1.size (fun g hg => by cases hg; exact hg1)
  have hown3 : w11.ownsRow v2.heap.size 3 1 (.slice (some ⟨g2, 0, none⟩) (n + m) p2) (n + m) ((l ++ k).map (Value.int .i64)) := by
    rw [List.map_append]; simpa using hown2
  obtain ⟨ar, nr, cr, hv, hR⟩ := Row.own hown3
  cases hv
  have HR9 := Lib.hid hR
  replace G := keep_below G B2
  clear hown1 hown2 hown3 hgrow2 B0 B1 B2 hR HR HS
  go_wp2_with fail
  refine (C3.out _ _ _ HR9.out).mono ?_; rintro e3 v3 ⟨rfl, hb⟩
  replace G := keep_below G hb; clear hb HR9
  by_cases e0 : e = 0
  · by_cases f0 : f = 0
    · obtain ⟨q1, q2⟩ := FA.out e0 f0
      have ru := FU.out e0
      have rv := FV.out f0
      subst e0 f0
      have A5 := Lib.hid (fun W => add_at (c := 2) (show (addV [u, v], addE [u, v]) = (z, g) by rw [← q1, ← q2]) (by omega) _ (lit2 W u v))
      obtain ⟨p, hp⟩ : ∃ p, p = mulV z x := ⟨_, rfl⟩
      obtain ⟨i, hi⟩ : ∃ p, p = mulE z x := ⟨_, rfl⟩
      obtain ⟨q, hq⟩ : ∃ p, p = mulV u x := ⟨_, rfl⟩
      obtain ⟨j, hj9⟩ : ∃ p, p = mulE u x := ⟨_, rfl⟩
      obtain ⟨r, hr⟩ : ∃ p, p = mulV v x := ⟨_, rfl⟩
      obtain ⟨y, hy⟩ : ∃ p, p = mulE v x := ⟨_, rfl⟩
      obtain ⟨s, hs⟩ : ∃ p, p = addV [q, r] := ⟨_, rfl⟩
      obtain ⟨t, ht⟩ : ∃ p, p = addE [q, r] := ⟨_, rfl⟩
      have M1 := Lib.hid (mul_at (show (mulV z x, mulE z x) = (p, i) by rw [← hp, ← hi]))
      have M2 := Lib.hid (mul_at (show (mulV u x, mulE u x) = (q, j) by rw [← hq, ← hj9]))
      have M3 := Lib.hid (mul_at (show (mulV v x, mulE v x) = (r, y) by rw [← hr, ← hy]))
      have A6 := Lib.hid (fun W => add_at (c := 2) (show (addV [q, r], addE [q, r]) = (s, t) by rw [← hs, ← ht]) (by omega) _ (lit2 W q r))
      by_cases g0 : g = 0
      · by_cases i0 : i = 0
        · obtain ⟨a1, a2, a3⟩ := addE_zero (l := [u, v]) (by rw [← q1]; exact g0)
          rw [sum2] at a2 a3
          have zE : z = u + v := by rw [q2, a3]
          obtain ⟨b1, b2, b3, b4⟩ := mulE_zero (x := z) (y := x) (by rw [← hi]; exact i0)
          obtain ⟨u1, u2⟩ := rt_iff.1 ru
          obtain ⟨v1', v2'⟩ := rt_iff.1 rv
          obtain ⟨x1, x2⟩ := rt_iff.1 b2
          have m1 := Int.mul_nonneg u1 x1
          have m2 := Int.mul_nonneg v1' x1
          have m3 : z * x = u * x + v * x := by rw [zE, Int.add_mul]
          have c1 := mul_ok (x := u) (y := x) (by rw [ru, b2]; rfl) (by omega)
          have c2 := mul_ok (x := v) (y := x) (by rw [rv, b2]; rfl) (by omega)
          have j0' : j = 0 := by rw [hj9, c1.1]
          have y0' : y = 0 := by rw [hy, c2.1]
          have qE : q = u * x := by rw [hq, c1.2]
          have rE : r = v * x := by rw [hr, c2.2]
          have rq : rt q = true := by rw [qE]; exact rt_iff.2 ⟨m1, by omega⟩
          have rr : rt r = true := by rw [rE]; exact rt_iff.2 ⟨m2, by omega⟩
          have d1 := add_ok (l := [q, r]) (by rw [al2, rq, rr]; rfl) (by rw [sum2, qE, rE]; omega)
          rw [sum2] at d1
          have t0 : t = 0 := by rw [ht, d1.1]
          have sE : s = p := by rw [hs, d1.2, hp, b4, m3, qE, rE]
          clear hp hi hq hj9 hr hy hs ht a1 a2 a3 b1 b2 b3 b4 m1 m2 m3 c1 c2 qE rE rq rr d1 q1 q2 zE ru rv FA FU FV F0'
          subst g0 i0 j0' y0' t0 sE
          go_wp2_with fail
          refine (A5.out _).mono ?_; rintro e v4 ⟨rfl, hb⟩
          replace G := keep_lit G hb; clear hb
          go_wp2_with fail
          refine (M1.out _).mono ?_; rintro e v5 ⟨rfl, hb⟩
          replace G := keep_below G hb; clear hb
          go_wp2_with fail
          refine (M2.out _).mono ?_; rintro e v6 ⟨rfl, hb⟩
          replace G := keep_below G hb; clear hb
          go_wp2_with fail
          refine (M3.out _).mono ?_; rintro e v7 ⟨rfl, hb⟩
          replace G := keep_below G hb; clear hb
          go_wp2_with fail
          refine (A6.out _).mono ?_; rintro e v8 ⟨rfl, hb⟩
          replace G := keep_lit G hb; clear hb
          go_wp2_with fail
          refine (KK.out _).mono ?_; rintro e v9 ⟨rfl, hb⟩
          replace G := keep_below G hb; clear hb
          go_wp2
          go_ret
          exact ⟨rfl, G⟩
        · clear hp hi hq hj9 hr hy hs ht q1 q2 ru rv FA FU FV F0'
          subst g0
          go_wp2_with fail
          refine (A5.out _).mono ?_; rintro e v4 ⟨rfl, hb⟩
          replace G := keep_lit G hb; clear hb
          go_wp2_with fail
          refine (M1.out _).mono ?_; rintro e v5 ⟨rfl, hb⟩
          replace G := keep_below G hb; clear hb
          go_wp2_with fail
          refine (M2.out _).mono ?_; rintro e v6 ⟨rfl, hb⟩
          replace G := keep_below G hb; clear hb
          go_wp2_with fail
          refine (M3.out _).mono ?_; rintro e v7 ⟨rfl, hb⟩
          replace G := keep_below G hb; clear hb
          go_wp2_with fail
          refine (A6.out _).mono ?_; rintro e v8 ⟨rfl, hb⟩
          replace G := keep_lit G hb; clear hb
          go_wp2_with fail
          refine (KK.out _).mono ?_; rintro e v9 ⟨rfl, hb⟩
          replace G := keep_below G hb; clear hb
          go_wp2
          go_ret
          exact ⟨rfl, G⟩
      · clear hp hi hq hj9 hr hy hs ht q1 q2 ru rv FA FU FV F0'
        go_wp2_with fail
        refine (A5.out _).mono ?_; rintro e v4 ⟨rfl, hb⟩
        replace G := keep_lit G hb; clear hb
        go_wp2_with fail
        refine (M1.out _).mono ?_; rintro e v5 ⟨rfl, hb⟩
        replace G := keep_below G hb; clear hb
        go_wp2_with fail
        refine (M2.out _).mono ?_; rintro e v6 ⟨rfl, hb⟩
        replace G := keep_below G hb; clear hb
        go_wp2_with fail
        refine (M3.out _).mono ?_; rintro e v7 ⟨rfl, hb⟩
        replace G := keep_below G hb; clear hb
        go_wp2_with fail
        refine (A6.out _).mono ?_; rintro e v8 ⟨rfl, hb⟩
        replace G := keep_lit G hb; clear hb
        go_wp2_with fail
        refine (KK.out _).mono ?_; rintro e v9 ⟨rfl, hb⟩
        replace G := keep_below G hb; clear hb
        go_wp2
        go_ret
        exact ⟨rfl, G⟩
    · obtain ⟨g0, z0⟩ := F0'.out (Or.inr f0)
      subst z0
      subst e0
      clear FA FU FV F0'
      go_wp2_with fail
      refine (KK.out _).mono ?_; rintro e v4 ⟨rfl, hb⟩
      replace G := keep_below G hb; clear hb
      go_wp2
      go_ret
      exact ⟨by show Ending.returned (Value.bool (g != 0)) = _; rw [bne_iff_ne.2 g0], G⟩
  · obtain ⟨g0, z0⟩ := F0'.out (Or.inl e0)
    subst z0
    clear FA FU FV F0'
    go_wp2_with fail
    refine (KK.out _).mono ?_; rintro e v4 ⟨rfl, hb⟩
    replace G := keep_below G hb; clear hb
    go_wp2
    go_ret
    exact ⟨by show Ending.returned (Value.bool (g != 0)) = _; rw [bne_iff_ne.2 g0], G⟩

end Go.Proofs.Ytpgmakhojehalaa
