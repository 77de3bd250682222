/- What is proved here: contracts of the program's own slots of another row (taken, share). Conditions: the row and the number can be. -/
import Derived.Test.YtiibbeigkopkeaaCa
namespace Go.Proofs.Ytiibbeigkopkeaa
open Go.ChangeShapes Go.WideShapes Go.RowKit

theorem mulP_of {x y : Int} {v e : Int} (hv : mulV x y = v) (he : mulE x y = e) (W : World) :
    Calls Try.prog 39 #[.int .i64 x, .int .i64 y] W fun r w' => r = .returned (.tuple #[.int .i64 v, .int .i64 e]) ∧ Below W.heap.size W w' :=
  (mul_any x y W).mono (fun r w' ⟨h1, h2⟩ => ⟨by rw [h1, hv, he], h2⟩)
theorem addP_of {a : Option Addr} {n c : Nat} {l : List Int} {W : World} (hr : Row W a n l) (hn : n ≤ 1000000000000) {v e : Int} (hv : addV l = v) (he : addE l = e) :
    Calls Try.prog 31 #[.slice a n c] W fun r w' => r = .returned (.tuple #[.int .i64 v, .int .i64 e]) ∧ Below W.heap.size W w' :=
  (add_any a n c l W hr hn).mono (fun r w' ⟨h1, h2⟩ => ⟨by rw [h1, hv, he], h2⟩)
theorem ceilP_of {x y : Int} {v e : Int} (hv : ceV x y = v) (he : ceE x y = e) (W : World) :
    Calls Try.prog 38 #[.int .i64 x, .int .i64 y] W fun r w' => r = .returned (.tuple #[.int .i64 v, .int .i64 e]) ∧ Below W.heap.size W w' :=
  (ceil_any x y W).mono (fun r w' ⟨h1, h2⟩ => ⟨by rw [h1, hv, he], h2⟩)
theorem add2_of {x y v e : Int} (hx : 0 ≤ x) (hx2 : x < 4611686018427387904) (hy : 0 ≤ y) (hy2 : y < 4611686018427387904) (h : (if x + y < 4611686018427387904 then (x + y, (0 : Int)) else (0, 4)) = (v, e)) : addV [x, y] = v ∧ addE [x, y] = e := by
  have hal : al [x, y] = true := by rw [al_iff]; intro z hz; simp at hz; rcases hz with rfl | rfl <;> exact rt_iff.2 (by omega)
  have hs : [x, y].sum = x + y := by simp
  by_cases c : x + y < 4611686018427387904
  · rw [if_pos c] at h; cases h
    have := add_ok hal (by rw [hs]; exact c)
    rw [hs] at this
    exact ⟨this.2, this.1⟩
  · rw [if_neg c] at h; cases h
    have := add_big hal (by rw [hs]; omega)
    exact ⟨this.2, this.1⟩
/-- How many slots a row's instances take, and what is wrong. -/
def tkR (x : RtR) (wv : Int) : Int × Int := if ptB x wv false = true then (0, 4) else (ptV x wv false, 0)
/-- How many slots of a sum are another row's, and what is wrong. -/
def shR (x : RtR) (p wv : Int) : Int × Int := if x.P < p then (0, 0) else if ptB x wv (sames p x) = true then (0, 4) else (ptV x wv (sames p x), 0)
theorem ptV_true (x : RtR) (wv : Int) : ptV x wv true = ptV x wv false + x.C := by
  unfold ptV ptK
  rw [if_pos rfl, if_neg (by decide), Int.add_zero, Int.add_mul, Int.one_mul]
set_option maxHeartbeats 4000000 in
set_option maxRecDepth 100000 in
theorem takenP_any (x : RtR) (wv : Int) (w : World) (hx : okR x = true) (hw : rtI wv = true) (rv re : Int) (hq : tkR x wv = (rv, re)) :
    Calls Try.prog 36 #[.agg #[.int .i64 x.C, .int .i64 x.B, .int .i64 x.T, .int .i64 x.D, .int .i64 x.J, .int .i64 x.P], .int .i64 wv] w
      fun e w' => e = .returned (.tuple #[.int .i64 rv, .int .i64 re]) ∧ Below w.heap.size w w' := by
  obtain ⟨⟨p1, p2⟩, ⟨p3, p4⟩, ⟨p5, p6⟩, ⟨p7, p8⟩, _, _, _⟩ := okR_parts hx
  obtain ⟨p9, p10⟩ := rtI_iff.1 hw
  obtain ⟨A, hA⟩ : ∃ A, wv + x.J = A := ⟨_, rfl⟩
  have I1 := Lib.hid (One.new w #[.int .i64 x.C, .int .i64 x.B, .int .i64 x.T, .int .i64 x.D, .int .i64 x.J, .int .i64 x.P] 41)
  have d4 := I1.out.2 4 _ rfl
  have R0 := (lit2 (w.alloc (.cells #[.int .i64 x.C, .int .i64 x.B, .int .i64 x.T, .int .i64 x.D, .int .i64 x.J, .int .i64 x.P] 41)) wv x.J).at_blk (alloc_size _ _)
  by_cases c1 : 4611686018427387904 ≤ A
  · have h2 := add2_of (v := 0) (e := 4) p9 p10 p7 p8 (by rw [hA, if_neg (by omega)])
    have CA := addP_of (c := 2) R0 (by omega) h2.1 h2.2
    have HR : Hid (rv = 0 ∧ re = 4) := by
      unfold tkR at hq
      rw [if_pos (by unfold ptB; rw [hA, decide_eq_true c1]; rfl)] at hq
      cases hq; exact ⟨rfl, rfl⟩
    clear hq hx hw h2 R0
    go_enter Try.func36, Try.ntmps36
    go_wp2_with (go_at_call 31; refine CA.mono ?_; rintro e w2 ⟨rfl, hb2⟩)
    go_ret2
    exact ⟨by rw [HR.out.1, HR.out.2]; rfl, keep_below I1.out.1 (keep_below (below_alloc _ _) hb2)⟩
  · obtain ⟨Q, hQ⟩ : ∃ Q, qt A x.T = Q := ⟨_, rfl⟩
    have q1 : 0 ≤ Q := by rw [← hQ]; exact qt_pos (by omega) (by omega)
    have q2 : Q ≤ A := by rw [← hQ]; exact qt_le (by omega) p5
    have h2 := add2_of (v := A) (e := 0) p9 p10 p7 p8 (by rw [hA, if_pos (by omega)])
    have CA := addP_of (c := 2) R0 (by omega) h2.1 h2.2
    have hce : (rt A && rt x.T && decide (x.T ≠ 0)) = true := by rw [rt_iff.2 (by omega), rt_iff.2 (by omega), decide_eq_true (by omega)]; rfl
    have CC := ceilP_of (x := A) (y := x.T) (v := Q) (e := 0) (by unfold ceV; rw [if_pos hce, ← hQ]; rfl) (by unfold ceE; rw [if_pos hce])
    have hv : ptV x wv false = Q * x.C := by unfold ptV ptK; rw [hA, hQ, if_neg (by decide), Int.add_zero]
    have hm : (rt Q && rt x.C) = true := by rw [rt_iff.2 (by omega), rt_iff.2 (by omega)]; rfl
    have hb : ptB x wv false = decide (4611686018427387904 ≤ Q * x.C) := by unfold ptB; rw [hA, hv, decide_eq_false c1]; rfl
    obtain ⟨M, hM⟩ : ∃ M, Q * x.C = M := ⟨_, rfl⟩
    have CM : Hid (∀ W, Calls Try.prog 39 #[.int .i64 Q, .int .i64 x.C] W fun r w' => r = .returned (.tuple #[.int .i64 rv, .int .i64 re]) ∧ Below W.heap.size W w') := by
      intro W
      unfold tkR at hq
      rw [hb, hv] at hq
      by_cases c2 : 4611686018427387904 ≤ Q * x.C
      · rw [if_pos (decide_eq_true c2)] at hq; cases hq
        exact mulP_of (mul_big hm c2).2 (mul_big hm c2).1 W
      · rw [if_neg (by rw [decide_eq_false c2]; decide)] at hq; cases hq
        exact mulP_of (mul_ok hm (by omega)).2 (mul_ok hm (by omega)).1 W
    clear hq hx hw h2 R0 hv hm hb hM hce hQ
    go_enter Try.func36, Try.ntmps36
    go_wp2_with (first
      | (go_at_call 31; refine CA.mono ?_; rintro e w2 ⟨rfl, hb2⟩; have J2 := (I1.out.keep (below_alloc _ _)).keep hb2; have e2 := J2.2 2 _ rfl; have J2h := Lib.hid J2)
      | (go_at_call 38; refine (CC _).mono ?_; rintro e w3 ⟨rfl, hb3⟩; have J3 := J2h.out.keep hb3; have e0 := J3.2 0 _ rfl; have J3h := Lib.hid J3)
      | (go_at_call 39; refine (CM.out _).mono ?_; rintro e w4 ⟨rfl, hb4⟩))
    go_ret2
    exact ⟨rfl, (J3h.out.keep hb4).1⟩
set_option maxHeartbeats 4000000 in
set_option maxRecDepth 100000 in
theorem shareP_any (x : RtR) (p wv : Int) (w : World) (hx : okR x = true) (hw : rtI wv = true) (rv re : Int) (hq : shR x p wv = (rv, re)) :
    Calls Try.prog 30 #[.agg #[.int .i64 x.C, .int .i64 x.B, .int .i64 x.T, .int .i64 x.D, .int .i64 x.J, .int .i64 x.P], .int .i64 p, .int .i64 wv] w
      fun e w' => e = .returned (.tuple #[.int .i64 rv, .int .i64 re]) ∧ Below w.heap.size w w' := by
  obtain ⟨⟨p1, p2⟩, _, _, _, _, _, _⟩ := okR_parts hx
  have I1 := Lib.hid (One.new w #[.int .i64 x.C, .int .i64 x.B, .int .i64 x.T, .int .i64 x.D, .int .i64 x.J, .int .i64 x.P] 41)
  have d0 := I1.out.2 0 _ rfl
  have d1 := I1.out.2 1 _ rfl
  have d2 := I1.out.2 2 _ rfl
  have d3 := I1.out.2 3 _ rfl
  have d4 := I1.out.2 4 _ rfl
  have d5 := I1.out.2 5 _ rfl
  unfold shR at hq
  by_cases c0 : x.P < p
  · rw [if_pos c0] at hq; cases hq
    have q0 : decide (x.P < p) = true := decide_eq_true c0
    go_enter Try.func30, Try.ntmps30
    go_wp2
    go_ret2
    exact ⟨rfl, I1.out.1⟩
  rw [if_neg c0] at hq
  have q0 : decide (x.P < p) = false := decide_eq_false c0
  obtain ⟨⟨tv, te⟩, ht⟩ : ∃ t, tkR x wv = t := ⟨_, rfl⟩
  have C := Lib.hid (fun W => takenP_any x wv W hx hw tv te ht)
  have v0 := ptV_pos hx (rtI_iff.1 hw).1 false
  unfold tkR at ht
  by_cases c1 : p < x.P
  · have q1 : decide (p < x.P) = true := decide_eq_true c1
    have e1 : sames p x = false := decide_eq_false (by omega)
    rw [e1, ht] at hq; cases hq
    have HT := Lib.hid ht
    clear ht hw hx
    by_cases c2 : re = 0
    · subst c2
      go_enter Try.func30, Try.ntmps30
      go_wp2_with (go_at_call 36; refine (C.out _).mono ?_; rintro e w2 ⟨rfl, hb2⟩; have J2 := I1.out.keep hb2; have f5 := J2.2 5 _ rfl)
      go_ret2
      exact ⟨rfl, J2.1⟩
    · have q2 : (re == 0) = false := beq_eq_false_iff_ne.2 c2
      go_enter Try.func30, Try.ntmps30
      go_wp2_with (go_at_call 36; refine (C.out _).mono ?_; rintro e w2 ⟨rfl, hb2⟩; have J2 := I1.out.keep hb2; have f5 := J2.2 5 _ rfl)
      go_ret2
      exact ⟨rfl, J2.1⟩
  have q1 : decide (p < x.P) = false := decide_eq_false c1
  have e1 : sames p x = true := decide_eq_true (by omega)
  rw [e1] at hq
  by_cases c2 : ptB x wv false = true
  · rw [if_pos c2] at ht; cases ht
    have c3 : ptB x wv true = true := by
      unfold ptB at c2 ⊢
      rw [ptV_true]
      simp only [Bool.or_eq_true, decide_eq_true_eq] at c2 ⊢
      omega
    rw [if_pos c3] at hq; cases hq
    clear hw hx v0 c2 c3
    go_enter Try.func30, Try.ntmps30
    go_wp2_with (go_at_call 36; refine (C.out _).mono ?_; rintro e w2 ⟨rfl, hb2⟩; have J2 := I1.out.keep hb2; have f5 := J2.2 5 _ rfl)
    go_ret2
    exact ⟨rfl, J2.1⟩
  · rw [if_neg c2] at ht; cases ht
    have c4 : ¬ (4611686018427387904 ≤ wv + x.J) ∧ ¬ 4611686018427387904 ≤ ptV x wv false := by
      unfold ptB at c2
      simp only [Bool.or_eq_true, decide_eq_true_eq, not_or] at c2
      exact c2
    have e2 : ptB x wv true = decide (4611686018427387904 ≤ ptV x wv false + x.C) := by unfold ptB; rw [ptV_true, decide_eq_false c4.1]; rfl
    rw [e2, ptV_true] at hq
    obtain ⟨V, hV⟩ : ∃ V, ptV x wv false = V := ⟨_, rfl⟩
    rw [hV] at hq C v0 c4
    have h2 := add2_of (x := V) (y := x.C) (v := rv) (e := re) v0 (by omega) (by omega) p2 (by
      rw [← hq]
      by_cases c5 : V + x.C < 4611686018427387904
      · rw [if_pos c5, if_neg (by rw [decide_eq_false (by omega)]; decide)]
      · rw [if_neg c5, if_pos (decide_eq_true (by omega))])
    have CA := Lib.hid (fun W => addP_of (c := 2) ((lit2 W V x.C)) (by omega) h2.1 h2.2)
    clear hw hx hq c2 e2 h2 hV
    go_enter Try.func30, Try.ntmps30
    go_wp2_with (first
      | (go_at_call 36; refine (C.out _).mono ?_; rintro e w2 ⟨rfl, hb2⟩; have J2 := I1.out.keep hb2; have f5 := J2.2 5 _ rfl; have f0 := J2.2 0 _ rfl; have J2h := Lib.hid J2)
      | (go_at_call 31; refine (CA.out _).mono ?_; rintro e w4 ⟨rfl, hb4⟩))
    go_ret2
    exact ⟨rfl, ((J2h.out.keep (below_alloc _ _)).keep hb4).1⟩
end Go.Proofs.Ytiibbeigkopkeaa
