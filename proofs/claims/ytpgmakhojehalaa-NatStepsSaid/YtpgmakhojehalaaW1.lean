/- What is proved here: the walks of the laws NatTells, NatOrders. Conditions: none beyond Go's own size of a slice. -/
import Derived.Test.YtpgmakhojehalaaNe
namespace Go.Proofs.Ytpgmakhojehalaa
open Go.ChangeShapes Go.WideShapes Go.RowKit

set_option maxHeartbeats 2000000 in
set_option maxRecDepth 100000 in
theorem tells_walk (a : Option Addr) (n c : Nat) (l : List Int) (x y : Int) (hmx : n ≤ maxLen) (w : World) (hr : Row w a n l) :
    Calls Try.prog 3 #[.slice a n c, .int .i64 x, .int .i64 y] w fun e w' => e = .returned (.bool true) ∧ Below w.heap.size w w' := by
  have hm63 : n ≤ 9223372036854775807 := hmx
  have G := Below.refl w.heap.size w
  have HR := Lib.hid hr
  by_cases h100 : 100 < n
  · have h1 : (100 : Int) < (n : Int) := by omega
    go_enter Try.func3, Try.ntmps3
    go_wp2_with fail
    refine (known_any _).mono ?_; rintro e w1 ⟨rfl, hb⟩
    go_wp2
    go_ret
    exact ⟨rfl, hb⟩
  have h1 : ¬ (100 : Int) < (n : Int) := by omega
  obtain ⟨p1, e1⟩ : ∃ p, p = addV l := ⟨_, rfl⟩
  obtain ⟨p2, e2⟩ : ∃ p, p = addE l := ⟨_, rfl⟩
  obtain ⟨p3, e3⟩ : ∃ p, p = mulV x y := ⟨_, rfl⟩
  obtain ⟨p4, e4⟩ : ∃ p, p = mulE x y := ⟨_, rfl⟩
  obtain ⟨p5, e5⟩ : ∃ p, p = ceV x y := ⟨_, rfl⟩
  obtain ⟨p6, e6⟩ : ∃ p, p = ceE x y := ⟨_, rfl⟩
  obtain ⟨p7, e7⟩ : ∃ p, p = rt x := ⟨_, rfl⟩
  obtain ⟨p8, e8⟩ : ∃ p, p = mo l := ⟨_, rfl⟩
  obtain ⟨p9, e9⟩ : ∃ p, p = lea l := ⟨_, rfl⟩
  have C1 := Lib.hid (fun W (h : Below w.heap.size w W) => e1 ▸ e2 ▸ add_any a n c l W (HR.out.below h) (by omega))
  have C2 := Lib.hid (fun W (h : Below w.heap.size w W) => e1 ▸ e2 ▸ addR_any a n c l W (HR.out.below h) (by omega))
  have C3 := Lib.hid (fun W => e3 ▸ e4 ▸ mul_any x y W)
  have C4 := Lib.hid (fun W => e3 ▸ e4 ▸ mulR_any x y W)
  have C5 := Lib.hid (fun W => e5 ▸ e6 ▸ ceil_any x y W)
  have C6 := Lib.hid (fun W => e5 ▸ e6 ▸ ceilR_any x y W)
  have C7 := Lib.hid (fun W => e7 ▸ right_any x W)
  have C8 := Lib.hid (fun W => e7 ▸ rightR_any x W)
  have C9 := Lib.hid (fun W (h : Below w.heap.size w W) => e8 ▸ most_any a n c l W (HR.out.below h) (by omega))
  have C10 := Lib.hid (fun W (h : Below w.heap.size w W) => e8 ▸ mostR_any a n c l W (HR.out.below h) (by omega))
  have C11 := Lib.hid (fun W (h : Below w.heap.size w W) => e9 ▸ least_any a n c l W (HR.out.below h) (by omega))
  have C12 := Lib.hid (fun W (h : Below w.heap.size w W) => e9 ▸ leastR_any a n c l W (HR.out.below h) (by omega))
  clear e1 e2 e3 e4 e5 e6 e7 e8 e9 hr h100
  go_enter Try.func3, Try.ntmps3
  go_wp2_with fail
  refine (C1.out _ G).mono ?_; rintro e v1 ⟨rfl, hb⟩
  replace G := keep_below G hb; clear hb
  go_wp2_with fail
  refine (C2.out _ G).mono ?_; rintro e v2 ⟨rfl, hb⟩
  replace G := keep_below G hb; clear hb
  go_wp2_with fail
  refine (C3.out _).mono ?_; rintro e v3 ⟨rfl, hb⟩
  replace G := keep_below G hb; clear hb
  go_wp2_with fail
  refine (C4.out _).mono ?_; rintro e v4 ⟨rfl, hb⟩
  replace G := keep_below G hb; clear hb
  go_wp2_with fail
  refine (C5.out _).mono ?_; rintro e v5 ⟨rfl, hb⟩
  replace G := keep_below G hb; clear hb
  go_wp2_with fail
  refine (C6.out _).mono ?_; rintro e v6 ⟨rfl, hb⟩
  replace G := keep_below G hb; clear hb
  go_wp2_with fail
  refine (C7.out _).mono ?_; rintro e v7 ⟨rfl, rfl⟩
  go_wp2_with fail
  refine (C8.out _).mono ?_; rintro e v8 ⟨rfl, rfl⟩
  go_wp2_with fail
  refine (C9.out _ G).mono ?_; rintro e v9 ⟨rfl, hb⟩
  replace G := keep_below G hb; clear hb
  go_wp2_with fail
  refine (C10.out _ G).mono ?_; rintro e v10 ⟨rfl, hb⟩
  replace G := keep_below G hb; clear hb
  go_wp2_with fail
  refine (C11.out _ G).mono ?_; rintro e v11 ⟨rfl, hb⟩
  replace G := keep_below G hb; clear hb
  go_wp2_with fail
  refine (C12.out _ G).mono ?_; rintro e v12 ⟨rfl, hb⟩
  replace G := keep_below G hb; clear hb
  go_wp2_with fail
  refine (known_any _).mono ?_; rintro e v13 ⟨rfl, hb⟩
  replace G := keep_below G hb; clear hb
  go_wp2
  go_ret
  exact ⟨rfl, G⟩

theorem al3 (x y z : Int) : al [x, y, z] = (rt x && (rt y && rt z)) := by simp [al]
theorem sum3 (x y z : Int) : [x, y, z].sum = x + y + z := by simp; omega
theorem sum2 (x y : Int) : [x, y].sum = x + y := by simp
theorem addE_perm {l m : List Int} (h : l.Perm m) : addE l = addE m ∧ addV l = addV m := by
  have h1 : al l = al m := by
    rw [Bool.eq_iff_iff, al_iff, al_iff]
    exact ⟨fun g x hx => g x (h.mem_iff.2 hx), fun g x hx => g x (h.mem_iff.1 hx)⟩
  have h2 : l.sum = m.sum := by
    clear h1
    induction h with
    | nil => rfl
    | cons x _ ih => rw [List.sum_cons, List.sum_cons, ih]
    | swap x y l => simp only [List.sum_cons]; omega
    | trans _ _ ih1 ih2 => rw [ih1, ih2]
  unfold addE addV
  rw [h1, h2]; exact ⟨rfl, rfl⟩
theorem mul_comm_ (x y : Int) : mulE x y = mulE y x ∧ mulV x y = mulV y x := by
  unfold mulE mulV
  rw [Bool.and_comm (rt x), Int.mul_comm x y]; exact ⟨rfl, rfl⟩
theorem addE_zero {l : List Int} (h : addE l = 0) : al l = true ∧ l.sum < 4611686018427387904 ∧ addV l = l.sum := by
  cases ha : al l
  · rw [(add_wrong ha).1] at h; cases h
  · by_cases hs : l.sum < 4611686018427387904
    · exact ⟨rfl, hs, (add_ok ha hs).2⟩
    · rw [(add_big ha (by omega)).1] at h; cases h
set_option maxHeartbeats 2000000 in
set_option maxRecDepth 100000 in
theorem orders_walk (x y z : Int) (w : World) :
    Calls Try.prog 4 #[.int .i64 x, .int .i64 y, .int .i64 z] w fun e w' => e = .returned (.bool true) ∧ Below w.heap.size w w' := by
  have G := Below.refl w.heap.size w
  obtain ⟨s, hs⟩ : ∃ p, p = addV [x, y, z] := ⟨_, rfl⟩
  obtain ⟨e, he⟩ : ∃ p, p = addE [x, y, z] := ⟨_, rfl⟩
  obtain ⟨t, ht⟩ : ∃ p, p = addV [x, y] := ⟨_, rfl⟩
  obtain ⟨g, hg⟩ : ∃ p, p = addE [x, y] := ⟨_, rfl⟩
  obtain ⟨u, hu⟩ : ∃ p, p = addV [t, z] := ⟨_, rfl⟩
  obtain ⟨h, hh⟩ : ∃ p, p = addE [t, z] := ⟨_, rfl⟩
  obtain ⟨m, hm⟩ : ∃ p, p = mulV x y := ⟨_, rfl⟩
  obtain ⟨i, hi⟩ : ∃ p, p = mulE x y := ⟨_, rfl⟩
  have hp := addE_perm (l := [z, x, y]) (m := [x, y, z]) (by
    exact List.Perm.trans (List.Perm.swap x z [y]) (List.Perm.cons x (List.Perm.swap y z [])))
  have A1 := Lib.hid (fun W => add_at (c := 3) (show (addV [x, y, z], addE [x, y, z]) = (s, e) by rw [← hs, ← he]) (by omega) _ (lit3 W x y z))
  have A2 := Lib.hid (fun W => add_at (c := 3) (show (addV [z, x, y], addE [z, x, y]) = (s, e) by rw [hp.1, hp.2, ← hs, ← he]) (by omega) _ (lit3 W z x y))
  have A3 := Lib.hid (fun W => add_at (c := 2) (show (addV [x, y], addE [x, y]) = (t, g) by rw [← ht, ← hg]) (by omega) _ (lit2 W x y))
  have A4 := Lib.hid (fun W => add_at (c := 2) (show (addV [t, z], addE [t, z]) = (u, h) by rw [← hu, ← hh]) (by omega) _ (lit2 W t z))
  have M1 := Lib.hid (mul_at (show (mulV x y, mulE x y) = (m, i) by rw [← hm, ← hi]))
  have M2 := Lib.hid (mul_at (show (mulV y x, mulE y x) = (m, i) by rw [← (mul_comm_ x y).1, ← (mul_comm_ x y).2, ← hm, ← hi]))
  have R1 := right_any x
  clear hp hm hi
  have KK := Lib.hid (fun W => known_any W)
  cases hx : rt x
  · rw [hx] at R1
    have RR := Lib.hid R1
    have hE : ¬ (e = 0) := by
      intro h0
      have := (addE_zero (l := [x, y, z]) (by rw [← he]; exact h0)).1
      rw [al3, hx] at this; cases this
    have N1 := Lib.hid (mul_at (show (mulV x 1, mulE x 1) = (0, 1) by
      have := mul_wrong (x := x) (y := 1) (by rw [hx]; rfl)
      rw [this.1, this.2]))
    have N2 := Lib.hid (mul_at (show (mulV x 0, mulE x 0) = (0, 1) by
      have := mul_wrong (x := x) (y := 0) (by rw [hx]; rfl)
      rw [this.1, this.2]))
    clear hs he ht hg hu hh hx R1
    go_enter Try.func4, Try.ntmps4
    go_wp2_with fail
    refine (A1.out _).mono ?_; rintro e v1 ⟨rfl, hb⟩
    replace G := keep_lit G hb; clear hb
    go_wp2_with fail
    refine (A2.out _).mono ?_; rintro e v2 ⟨rfl, hb⟩
    replace G := keep_lit G hb; clear hb
    go_wp2_with fail
    refine (A3.out _).mono ?_; rintro e v3 ⟨rfl, hb⟩
    replace G := keep_lit G hb; clear hb
    go_wp2_with fail
    refine (A4.out _).mono ?_; rintro e v4 ⟨rfl, hb⟩
    replace G := keep_lit G hb; clear hb
    go_wp2_with fail
    refine (M1.out _).mono ?_; rintro e v5 ⟨rfl, hb⟩
    replace G := keep_below G hb; clear hb
    go_wp2_with fail
    refine (M2.out _).mono ?_; rintro e v6 ⟨rfl, hb⟩
    replace G := keep_below G hb; clear hb
    go_wp2_with fail
    refine (N1.out _).mono ?_; rintro e v7 ⟨rfl, hb⟩
    replace G := keep_below G hb; clear hb
    go_wp2_with fail
    refine (N2.out _).mono ?_; rintro e v8 ⟨rfl, hb⟩
    replace G := keep_below G hb; clear hb
    go_wp2_with fail
    refine (RR.out _).mono ?_; rintro e v9 ⟨rfl, rfl⟩
    go_wp2_with fail
    refine (KK.out _).mono ?_; rintro e v10 ⟨rfl, hb⟩
    replace G := keep_below G hb; clear hb
    go_wp2
    go_ret
    exact ⟨rfl, G⟩
  rw [hx] at R1
  have RR := Lib.hid R1
  obtain ⟨x1, x2⟩ := rt_iff.1 hx
  have N1 := Lib.hid (mul_at (show (mulV x 1, mulE x 1) = (x, 0) by
    have := mul_ok (x := x) (y := 1) (by rw [hx]; decide +kernel) (by omega)
    rw [this.1, this.2, Int.mul_one]))
  have N2 := Lib.hid (mul_at (show (mulV x 0, mulE x 0) = (0, 0) by
    have := mul_ok (x := x) (y := 0) (by rw [hx]; decide +kernel) (by omega)
    rw [this.1, this.2, Int.mul_zero]))
  by_cases hE : e = 0
  · have h0 := addE_zero (l := [x, y, z]) (by rw [← he]; exact hE)
    rw [al3, Bool.and_eq_true, Bool.and_eq_true, sum3] at h0
    obtain ⟨⟨_, r2, r3⟩, s1, s2⟩ := h0
    obtain ⟨y1, y2⟩ := rt_iff.1 r2
    obtain ⟨z1, z2⟩ := rt_iff.1 r3
    have q1 := add_ok (l := [x, y]) (by rw [al2, hx, r2]; rfl) (by rw [sum2]; omega)
    rw [sum2] at q1
    have tE : t = x + y := by rw [ht, q1.2]
    have gE : g = 0 := by rw [hg, q1.1]
    have rT : rt t = true := by rw [tE]; exact rt_iff.2 ⟨by omega, by omega⟩
    have q2 := add_ok (l := [t, z]) (by rw [al2, rT, r3]; rfl) (by rw [sum2]; omega)
    rw [sum2] at q2
    have uE : u = s := by rw [hu, q2.2, tE, hs, s2]
    have hE2 : h = 0 := by rw [hh, q2.1]
    have sE : s = x + y + z := by rw [hs, s2]
    have w1 : IntKind.i64.wrap (s - z) = t := by rw [IntKind.wrap_i64, sE, tE]; omega
    have w2 : IntKind.i64.wrap (s - y) = x + z := by rw [IntKind.wrap_i64, sE]; omega
    have w3 : IntKind.i64.wrap (x + z - z) = x := by rw [IntKind.wrap_i64]; omega
    clear hs he ht hg hu hh hx R1 q1 q2 rT r2 r3 s2 tE sE
    subst hE gE uE hE2
    go_enter Try.func4, Try.ntmps4
    go_wp2_with fail
    refine (A1.out _).mono ?_; rintro e v1 ⟨rfl, hb⟩
    replace G := keep_lit G hb; clear hb
    go_wp2_with fail
    refine (A2.out _).mono ?_; rintro e v2 ⟨rfl, hb⟩
    replace G := keep_lit G hb; clear hb
    go_wp2_with fail
    refine (A3.out _).mono ?_; rintro e v3 ⟨rfl, hb⟩
    replace G := keep_lit G hb; clear hb
    go_wp2_with fail
    refine (A4.out _).mono ?_; rintro e v4 ⟨rfl, hb⟩
    replace G := keep_lit G hb; clear hb
    go_wp2_with fail
    refine (M1.out _).mono ?_; rintro e v5 ⟨rfl, hb⟩
    replace G := keep_below G hb; clear hb
    go_wp2_with fail
    refine (M2.out _).mono ?_; rintro e v6 ⟨rfl, hb⟩
    replace G := keep_below G hb; clear hb
    go_wp2_with fail
    refine (N1.out _).mono ?_; rintro e v7 ⟨rfl, hb⟩
    replace G := keep_below G hb; clear hb
    go_wp2_with fail
    refine (N2.out _).mono ?_; rintro e v8 ⟨rfl, hb⟩
    replace G := keep_below G hb; clear hb
    go_wp2_with fail
    refine (RR.out _).mono ?_; rintro e v9 ⟨rfl, rfl⟩
    go_wp2_with fail
    refine (KK.out _).mono ?_; rintro e v10 ⟨rfl, hb⟩
    replace G := keep_below G hb; clear hb
    go_wp2
    go_ret
    exact ⟨rfl, G⟩
  clear hs he ht hg hu hh hx R1
  go_enter Try.func4, Try.ntmps4
  go_wp2_with fail
  refine (A1.out _).mono ?_; rintro e v1 ⟨rfl, hb⟩
  replace G := keep_lit G hb; clear hb
  go_wp2_with fail
  refine (A2.out _).mono ?_; rintro e v2 ⟨rfl, hb⟩
  replace G := keep_lit G hb; clear hb
  go_wp2_with fail
  refine (A3.out _).mono ?_; rintro e v3 ⟨rfl, hb⟩
  replace G := keep_lit G hb; clear hb
  go_wp2_with fail
  refine (A4.out _).mono ?_; rintro e v4 ⟨rfl, hb⟩
  replace G := keep_lit G hb; clear hb
  go_wp2_with fail
  refine (M1.out _).mono ?_; rintro e v5 ⟨rfl, hb⟩
  replace G := keep_below G hb; clear hb
  go_wp2_with fail
  refine (M2.out _).mono ?_; rintro e v6 ⟨rfl, hb⟩
  replace G := keep_below G hb; clear hb
  go_wp2_with fail
  refine (N1.out _).mono ?_; rintro e v7 ⟨rfl, hb⟩
  replace G := keep_below G hb; clear hb
  go_wp2_with fail
  refine (N2.out _).mono ?_; rintro e v8 ⟨rfl, hb⟩
  replace G := keep_below G hb; clear hb
  go_wp2_with fail
  refine (RR.out _).mono ?_; rintro e v9 ⟨rfl, rfl⟩
  go_wp2_with fail
  refine (KK.out _).mono ?_; rintro e v10 ⟨rfl, hb⟩
  replace G := keep_below G hb; clear hb
  go_wp2
  go_ret
  exact ⟨rfl, G⟩
end Go.Proofs.Ytpgmakhojehalaa
