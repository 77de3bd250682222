/- What is proved here: a contract of the document's part. Conditions: the row and the number can be. -/
import Derived.Test.YtiibbeigkopkeaaRa
namespace Go.Proofs.Ytiibbeigkopkeaa
open Go.ChangeShapes Go.WideShapes Go.RowKit

theorem lit2 (W : World) (x y : Int) : Row (W.alloc (.cells #[.int .i64 x, .int .i64 y] 3)) (some ⟨W.heap.size, 0, none⟩) 2 [x, y] := lit_ints W _ _ 2 rfl rfl (by simp)
theorem lit1 (W : World) (x : Int) : Row (W.alloc (.cells #[.int .i64 x] 3)) (some ⟨W.heap.size, 0, none⟩) 1 [x] := lit_ints W _ _ 1 rfl rfl (by simp)
theorem Row.at_blk {W : World} {m k n : Nat} {l : List Int} (h : Row W (some ⟨m, 0, none⟩) n l) (e : m = k) : Row W (some ⟨k, 0, none⟩) n l := e ▸ h
theorem alloc_size (W : World) (o : Obj) : (W.alloc o).heap.size = W.heap.size + 1 := by simp
theorem qt_le {a b : Int} (ha : 0 ≤ a) (hb : 1 ≤ b) : qt a b ≤ a := by
  have h := qt_mono (a := a) (a' := a * b) (by omega : 0 < b) (by have := Int.mul_le_mul_of_nonneg_left hb ha; omega)
  have e : qt (a * b) b = a := by
    unfold qt
    rw [Int.mul_emod_left, if_neg (by omega), Int.mul_ediv_cancel _ (by omega)]
  omega
theorem mulR_of {x y : Int} {v e : Int} (hv : mulV x y = v) (he : mulE x y = e) (W : World) :
    Calls Try.prog 33 #[.int .i64 x, .int .i64 y] W fun r w' => r = .returned (.tuple #[.int .i64 v, .int .i64 e]) ∧ Below W.heap.size W w' :=
  (mulR_any x y W).mono (fun r w' ⟨h1, h2⟩ => ⟨by rw [h1, hv, he], h2⟩)
theorem addR_of {a : Option Addr} {n c : Nat} {l : List Int} {W : World} (hr : Row W a n l) (hn : n ≤ 1000000000000) {v e : Int} (hv : addV l = v) (he : addE l = e) :
    Calls Try.prog 26 #[.slice a n c] W fun r w' => r = .returned (.tuple #[.int .i64 v, .int .i64 e]) ∧ Below W.heap.size W w' :=
  (addR_any a n c l W hr hn).mono (fun r w' ⟨h1, h2⟩ => ⟨by rw [h1, hv, he], h2⟩)
theorem ceilR_of {x y : Int} {v e : Int} (hv : ceV x y = v) (he : ceE x y = e) (W : World) :
    Calls Try.prog 32 #[.int .i64 x, .int .i64 y] W fun r w' => r = .returned (.tuple #[.int .i64 v, .int .i64 e]) ∧ Below W.heap.size W w' :=
  (ceilR_any x y W).mono (fun r w' ⟨h1, h2⟩ => ⟨by rw [h1, hv, he], h2⟩)
/-- What a part tells: its value, or that it is too big. -/
def Tells (v er : Int) (b : Bool) (pv : Int) : Prop := (er = 0 ∧ b = false ∧ v = pv) ∨ (er ≠ 0 ∧ b = true)
/-- A part, and what is wrong. -/
def ptR (x : RtR) (wv : Int) (s : Bool) : Int × Int := if 4611686018427387904 ≤ wv + x.J then (0, 4) else (mulV (ptK x wv s) x.C, mulE (ptK x wv s) x.C)
theorem ptR_tells {x : RtR} {wv : Int} (s : Bool) (hx : okR x = true) (hw : rtI wv = true) : Tells (ptR x wv s).1 (ptR x wv s).2 (ptB x wv s) (ptV x wv s) := by
  obtain ⟨⟨p1, p2⟩, ⟨p3, p4⟩, ⟨p5, p6⟩, ⟨p7, p8⟩, _, _, _⟩ := okR_parts hx
  obtain ⟨p9, p10⟩ := rtI_iff.1 hw
  unfold ptR
  by_cases c1 : 4611686018427387904 ≤ wv + x.J
  · rw [if_pos c1]
    exact Or.inr ⟨by decide, by unfold ptB; rw [decide_eq_true c1]; rfl⟩
  · rw [if_neg c1]
    have k1 := ptK_pos hx p9 s
    have e1 : ptV x wv s = ptK x wv s * x.C := rfl
    have e2 : ptB x wv s = decide (4611686018427387904 ≤ ptK x wv s * x.C) := by unfold ptB; rw [decide_eq_false c1, e1]; rfl
    rw [e2, e1]
    generalize ptK x wv s = K at k1
    show Tells (mulV K x.C) (mulE K x.C) _ _
    by_cases c2 : 4611686018427387904 ≤ K * x.C
    · refine Or.inr ⟨?_, decide_eq_true c2⟩
      cases c3 : (rt K && rt x.C)
      · rw [(mul_wrong c3).1]; decide
      · rw [(mul_big c3 c2).1]; decide
    · have c3 : (rt K && rt x.C) = true := by
        rw [rt_iff.2 (by omega : 0 ≤ x.C ∧ x.C < 4611686018427387904), rt_iff.2 ⟨k1, ?_⟩]; rfl
        have := Int.mul_le_mul_of_nonneg_left p1 k1
        omega
      exact Or.inl ⟨(mul_ok c3 (by omega)).1, decide_eq_false c2, (mul_ok c3 (by omega)).2⟩
set_option maxHeartbeats 4000000 in
set_option maxRecDepth 100000 in
theorem partR_any (x : RtR) (wv : Int) (s : Bool) (w : World) (hx : okR x = true) (hw : rtI wv = true) (rv re : Int) (hq : ptR x wv s = (rv, re)) :
    Calls Try.prog 25 #[.agg #[.int .i64 x.C, .int .i64 x.B, .int .i64 x.T, .int .i64 x.D, .int .i64 x.J, .int .i64 x.P], .int .i64 wv, .bool s] w
      fun e w' => e = .returned (.tuple #[.int .i64 rv, .int .i64 re]) ∧ Below w.heap.size w w' := by
  obtain ⟨⟨p1, p2⟩, ⟨p3, p4⟩, ⟨p5, p6⟩, ⟨p7, p8⟩, _, _, _⟩ := okR_parts hx
  obtain ⟨p9, p10⟩ := rtI_iff.1 hw
  have hal : al [wv, x.J] = true := by rw [al_iff]; intro y hy; simp at hy; rcases hy with rfl | rfl <;> exact rt_iff.2 (by omega)
  have hsum : [wv, x.J].sum = wv + x.J := by simp
  have J0 := fun W t => One.new W #[.int .i64 x.C, .int .i64 x.B, .int .i64 x.T, .int .i64 x.D, .int .i64 x.J, .int .i64 x.P] t
  obtain ⟨A, hA⟩ : ∃ A, wv + x.J = A := ⟨_, rfl⟩
  by_cases c1 : 4611686018427387904 ≤ A
  · have CA := addR_of (c := 2) ((lit2 (w.alloc (.cells #[.int .i64 x.C, .int .i64 x.B, .int .i64 x.T, .int .i64 x.D, .int .i64 x.J, .int .i64 x.P] 47)) wv x.J).at_blk (alloc_size _ _)) (by omega) (add_big hal (by rw [hsum, hA]; exact c1)).2 (add_big hal (by rw [hsum, hA]; exact c1)).1
    unfold ptR at hq
    rw [hA, if_pos c1] at hq
    cases hq
    clear hal hsum hx hw
    go_enter Try.func25, Try.ntmps25
    go_wp2_with (go_at_call 26; refine CA.mono ?_; rintro e w2 ⟨rfl, hb2⟩)
    go_ret2
    exact ⟨rfl, keep_below (below_alloc _ _) (keep_below (below_alloc _ _) hb2)⟩
  · obtain ⟨Q, hQ⟩ : ∃ Q, qt A x.T = Q := ⟨_, rfl⟩
    have q1 : 0 ≤ Q := by rw [← hQ]; exact qt_pos (by omega) (by omega)
    have q2 : Q ≤ A := by rw [← hQ]; exact qt_le (by omega) p5
    obtain ⟨K, hK⟩ : ∃ K, Q + (if s = true then 1 else 0) = K := ⟨_, rfl⟩
    have k1 : 0 ≤ K := by rw [← hK]; split <;> omega
    have CA := addR_of (c := 2) ((lit2 (w.alloc (.cells #[.int .i64 x.C, .int .i64 x.B, .int .i64 x.T, .int .i64 x.D, .int .i64 x.J, .int .i64 x.P] 47)) wv x.J).at_blk (alloc_size _ _)) (by omega) (add_ok hal (by rw [hsum, hA]; omega)).2 (add_ok hal (by rw [hsum, hA]; omega)).1
    rw [hsum, hA] at CA
    have hce : (rt A && rt x.T && decide (x.T ≠ 0)) = true := by rw [rt_iff.2 (by omega), rt_iff.2 (by omega), decide_eq_true (by omega)]; rfl
    have CC := ceilR_of (x := A) (y := x.T) (v := Q) (e := 0) (by unfold ceV; rw [if_pos hce, ← hQ]; rfl) (by unfold ceE; rw [if_pos hce])
    obtain ⟨V, hV⟩ : ∃ V, mulV K x.C = V := ⟨_, rfl⟩
    obtain ⟨E, hE⟩ : ∃ E, mulE K x.C = E := ⟨_, rfl⟩
    have CM := mulR_of hV hE
    have HT : Hid (rv = V ∧ re = E) := by
      unfold ptR ptK at hq
      rw [hA, if_neg c1, hQ, hK, hV, hE] at hq
      cases hq; exact ⟨rfl, rfl⟩
    clear hq
    clear hal hsum hx hw hV hE hce hQ
    go_enter Try.func25, Try.ntmps25
    cases s
    all_goals
      simp only [Bool.false_eq_true, if_false, if_true, Int.add_zero] at hK
      subst hK
      go_wp2_with (first
        | (go_at_call 26; refine CA.mono ?_; rintro e w2 ⟨rfl, hb2⟩; have J2 := ((J0 w 47).keep (below_alloc _ _)).keep hb2; have d2 := J2.2 2 _ rfl; have J2h := Lib.hid J2)
        | (go_at_call 32; refine (CC _).mono ?_; rintro e w3 ⟨rfl, hb3⟩; have J3 := J2h.out.keep hb3; have d0 := J3.2 0 _ rfl; have J3h := Lib.hid J3)
        | (go_at_call 33; refine (CM _).mono ?_; rintro e w4 ⟨rfl, hb4⟩))
      go_ret2
      exact ⟨by rw [HT.out.1, HT.out.2]; rfl, (J3h.out.keep hb4).1⟩
end Go.Proofs.Ytiibbeigkopkeaa
