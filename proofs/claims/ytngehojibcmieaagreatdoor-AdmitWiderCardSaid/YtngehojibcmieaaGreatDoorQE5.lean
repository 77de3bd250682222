/- What is proved here: contracts of the program's tests of a row, of slices.IndexFunc and ContainsFunc at these, and of its Right and has. Conditions: rows are not too long. contracts of the program's own slots of another row (taken, share). Conditions: the row and the number can be. plain facts on the parts that the program sums up. Conditions: those each theorem states. -/
import Derived.Test.YtngehojibcmieaaGreatDoorQE4
set_option maxRecDepth 100000
set_option maxHeartbeats 8000000
section
namespace Go.Proofs.YtngehojibcmieaaGreatDoor.Kd
open Go.ChangeShapes Go.WideShapes Go.RowKit
def okT (x : RtR) : Bool := decide (0 < x.C) && (rt x.C && (rt x.B && (decide (0 < x.T) && (rt x.T && rt x.J))))
theorem okR_T (x : RtR) : okR x = (okT x && (decide (1 ≤ x.D) && (decide (x.D ≤ 1048576) && (decide (1 ≤ x.P) && decide (x.P ≤ 100))))) := by
 rw [Bool.eq_iff_iff]
 unfold okR okT rt rtI
 simp only [Bool.and_eq_true, decide_eq_true_eq]
 omega
theorem rgR_len (L : List RtR) : rgR L = (decide (L.length ≤ 8) && L.all okR) := by unfold rgR; rw [Bool.and_comm]
theorem times_any (x : RtR) (w : World) (r : Bool) (hq : okT x = r) :
  Calls Tryz.prog 180 #[.agg #[.int .i64 x.C, .int .i64 x.B, .int .i64 x.T, .int .i64 x.D, .int .i64 x.J, .int .i64 x.P]] w fun e w' => e = .returned (.bool r) ∧ Below w.heap.size w w' := by
 have I1 := Lib.hid (One.new w #[.int .i64 x.C, .int .i64 x.B, .int .i64 x.T, .int .i64 x.D, .int .i64 x.J, .int .i64 x.P] 62)
 have d0 := I1.out.2 0 _ rfl
 have d1 := I1.out.2 1 _ rfl
 have d2 := I1.out.2 2 _ rfl
 have d4 := I1.out.2 4 _ rfl
 have HQ := Lib.hid hq
 clear hq
 rcases Bool.eq_false_or_eq_true (decide (0 < x.C)) with g0 | g0
 rotate_left
 ·have HR : Hid (r = false) := by show _ = _; rw [← HQ.out]; unfold okT; rw [g0]; simp
  go_enter Tryz.func180, Tryz.ntmps180
  go_wp2
  go_ret
  exact ⟨by rw [HR.out]; rfl, I1.out.1⟩
 rcases Bool.eq_false_or_eq_true (rt x.C) with g1 | g1
 rotate_left
 ·have HR : Hid (r = false) := by show _ = _; rw [← HQ.out]; unfold okT; rw [g0, g1]; simp
  go_enter Tryz.func180, Tryz.ntmps180
  go_wp2_with (go_at_call 142; refine (right_any _ _).mono ?_; rintro e w2 ⟨rfl, rfl⟩; first | rw [g1])
  go_ret
  exact ⟨by rw [HR.out]; rfl, I1.out.1⟩
 rcases Bool.eq_false_or_eq_true (rt x.B) with g2 | g2
 rotate_left
 ·have HR : Hid (r = false) := by show _ = _; rw [← HQ.out]; unfold okT; rw [g0, g1, g2]; simp
  go_enter Tryz.func180, Tryz.ntmps180
  go_wp2_with (go_at_call 142; refine (right_any _ _).mono ?_; rintro e w2 ⟨rfl, rfl⟩; first | rw [g1] | rw [g2])
  go_ret
  exact ⟨by rw [HR.out]; rfl, I1.out.1⟩
 rcases Bool.eq_false_or_eq_true (decide (0 < x.T)) with g3 | g3
 rotate_left
 ·have HR : Hid (r = false) := by show _ = _; rw [← HQ.out]; unfold okT; rw [g0, g1, g2, g3]; simp
  go_enter Tryz.func180, Tryz.ntmps180
  go_wp2_with (go_at_call 142; refine (right_any _ _).mono ?_; rintro e w2 ⟨rfl, rfl⟩; first | rw [g1] | rw [g2])
  go_ret
  exact ⟨by rw [HR.out]; rfl, I1.out.1⟩
 rcases Bool.eq_false_or_eq_true (rt x.T) with g4 | g4
 rotate_left
 ·have HR : Hid (r = false) := by show _ = _; rw [← HQ.out]; unfold okT; rw [g0, g1, g2, g3, g4]; simp
  go_enter Tryz.func180, Tryz.ntmps180
  go_wp2_with (go_at_call 142; refine (right_any _ _).mono ?_; rintro e w2 ⟨rfl, rfl⟩; first | rw [g1] | rw [g2] | rw [g4])
  go_ret
  exact ⟨by rw [HR.out]; rfl, I1.out.1⟩
 rcases Bool.eq_false_or_eq_true (rt x.J) with g5 | g5
 rotate_left
 ·have HR : Hid (r = false) := by show _ = _; rw [← HQ.out]; unfold okT; rw [g0, g1, g2, g3, g4, g5]; simp
  go_enter Tryz.func180, Tryz.ntmps180
  go_wp2_with (go_at_call 142; refine (right_any _ _).mono ?_; rintro e w2 ⟨rfl, rfl⟩; first | rw [g1] | rw [g2] | rw [g4] | rw [g5])
  go_ret
  exact ⟨by rw [HR.out]; rfl, I1.out.1⟩
 have HR : Hid (r = true) := by show _ = _; rw [← HQ.out]; unfold okT; rw [g0, g1, g2, g3, g4, g5]; rfl
 go_enter Tryz.func180, Tryz.ntmps180
 go_wp2_with (go_at_call 142; refine (right_any _ _).mono ?_; rintro e w2 ⟨rfl, rfl⟩; first | rw [g1] | rw [g2] | rw [g4] | rw [g5])
 go_ret
 exact ⟨by rw [HR.out]; rfl, I1.out.1⟩
theorem rowOk_any (x : RtR) (w : World) (r : Bool) (hq : okR x = r) :
  Calls Tryz.prog 139 #[.agg #[.int .i64 x.C, .int .i64 x.B, .int .i64 x.T, .int .i64 x.D, .int .i64 x.J, .int .i64 x.P]] w fun e w' => e = .returned (.bool r) ∧ Below w.heap.size w w' := by
 have I1 := Lib.hid (One.new w #[.int .i64 x.C, .int .i64 x.B, .int .i64 x.T, .int .i64 x.D, .int .i64 x.J, .int .i64 x.P] 62)
 have d0 := I1.out.2 0 _ rfl
 have d1 := I1.out.2 1 _ rfl
 have d2 := I1.out.2 2 _ rfl
 have d3 := I1.out.2 3 _ rfl
 have d4 := I1.out.2 4 _ rfl
 have d5 := I1.out.2 5 _ rfl
 rw [okR_T] at hq
 obtain ⟨t, ht⟩ : ∃ t, okT x = t := ⟨_, rfl⟩
 have C := Lib.hid (fun W => times_any x W t ht)
 rw [ht] at hq
 have HQ := Lib.hid hq
 clear hq ht
 cases t
 ·have HR : Hid (r = false) := HQ.out.symm
  go_enter Tryz.func139, Tryz.ntmps139
  go_wp2_with (go_at_call 180; refine (C.out _).mono ?_; rintro e w2 ⟨rfl, hb2⟩; have J2 := I1.out.keep hb2)
  go_ret
  exact ⟨by rw [HR.out]; rfl, J2.1⟩
 rcases Bool.eq_false_or_eq_true (decide (1 ≤ x.D)) with g0 | g0
 rotate_left
 ·have HR : Hid (r = false) := by show _ = _; rw [← HQ.out, g0]; simp
  go_enter Tryz.func139, Tryz.ntmps139
  go_wp2_with (go_at_call 180; refine (C.out _).mono ?_; rintro e w2 ⟨rfl, hb2⟩; have J2 := I1.out.keep hb2; have f3 := J2.2 3 _ rfl; have f5 := J2.2 5 _ rfl)
  go_ret
  exact ⟨by rw [HR.out]; rfl, J2.1⟩
 rcases Bool.eq_false_or_eq_true (decide (x.D ≤ 1048576)) with g1 | g1
 rotate_left
 ·have HR : Hid (r = false) := by show _ = _; rw [← HQ.out, g0, g1]; simp
  go_enter Tryz.func139, Tryz.ntmps139
  go_wp2_with (go_at_call 180; refine (C.out _).mono ?_; rintro e w2 ⟨rfl, hb2⟩; have J2 := I1.out.keep hb2; have f3 := J2.2 3 _ rfl; have f5 := J2.2 5 _ rfl)
  go_ret
  exact ⟨by rw [HR.out]; rfl, J2.1⟩
 rcases Bool.eq_false_or_eq_true (decide (1 ≤ x.P)) with g2 | g2
 rotate_left
 ·have HR : Hid (r = false) := by show _ = _; rw [← HQ.out, g0, g1, g2]; simp
  go_enter Tryz.func139, Tryz.ntmps139
  go_wp2_with (go_at_call 180; refine (C.out _).mono ?_; rintro e w2 ⟨rfl, hb2⟩; have J2 := I1.out.keep hb2; have f3 := J2.2 3 _ rfl; have f5 := J2.2 5 _ rfl)
  go_ret
  exact ⟨by rw [HR.out]; rfl, J2.1⟩
 rcases Bool.eq_false_or_eq_true (decide (x.P ≤ 100)) with g3 | g3
 rotate_left
 ·have HR : Hid (r = false) := by show _ = _; rw [← HQ.out, g0, g1, g2, g3]; simp
  go_enter Tryz.func139, Tryz.ntmps139
  go_wp2_with (go_at_call 180; refine (C.out _).mono ?_; rintro e w2 ⟨rfl, hb2⟩; have J2 := I1.out.keep hb2; have f3 := J2.2 3 _ rfl; have f5 := J2.2 5 _ rfl)
  go_ret
  exact ⟨by rw [HR.out]; rfl, J2.1⟩
 have HR : Hid (r = true) := by show _ = _; rw [← HQ.out, g0, g1, g2, g3]; rfl
 go_enter Tryz.func139, Tryz.ntmps139
 go_wp2_with (go_at_call 180; refine (C.out _).mono ?_; rintro e w2 ⟨rfl, hb2⟩; have J2 := I1.out.keep hb2; have f3 := J2.2 3 _ rfl; have f5 := J2.2 5 _ rfl)
 go_ret
 exact ⟨by rw [HR.out]; rfl, J2.1⟩
theorem notRow_any (x : RtR) (w : World) (r : Bool) (hq : okR x = r) :
  Calls Tryz.prog 138 #[.agg #[.int .i64 x.C, .int .i64 x.B, .int .i64 x.T, .int .i64 x.D, .int .i64 x.J, .int .i64 x.P]] w fun e w' => e = .returned (.bool (!r)) ∧ Below w.heap.size w w' := by
 have I1 := Lib.hid (One.new w #[.int .i64 x.C, .int .i64 x.B, .int .i64 x.T, .int .i64 x.D, .int .i64 x.J, .int .i64 x.P] 62)
 have d0 := I1.out.2 0 _ rfl
 have d1 := I1.out.2 1 _ rfl
 have d2 := I1.out.2 2 _ rfl
 have d3 := I1.out.2 3 _ rfl
 have d4 := I1.out.2 4 _ rfl
 have d5 := I1.out.2 5 _ rfl
 have C := Lib.hid (fun W => rowOk_any x W r hq)
 clear hq
 go_enter Tryz.func138, Tryz.ntmps138
 go_wp2_with (go_at_call 139; refine (C.out _).mono ?_; rintro e w1 ⟨rfl, hb⟩; have J := I1.out.keep hb)
 go_ret
 exact ⟨rfl, J.1⟩
theorem indexRow_any (a : Option Addr) (n c : Nat) (L : List RtR) (w : World) (hr : RowS w a n L) (hn : n ≤ 140737488355328) :
  Calls Tryz.prog 179 #[.slice a n c, .func (.func 138) #[] #[]] w fun e w' => ∃ i, e = .returned (.int .i64 i) ∧ (decide (0 ≤ i)) = (!L.all okR) ∧ Below w.heap.size w w' := by
 have HL := Lib.hid hr.1
 obtain ⟨r, hq⟩ : ∃ r, L.all okR = r := ⟨_, rfl⟩
 rw [hq]
 have HQ : Hid ((L.drop 0).all okR = r) := hq
 clear hq
 go_enter Tryz.func179, Tryz.ntmps179
 go_wp2
 go_loopw [8] (fun i wr => ∃ k : Nat, k ≤ n ∧ i = .int .i64 k ∧ Hid ((L.drop k).all okR = r) ∧ Below w.heap.size w wr) (fun i _ => n - (intOf i).toNat)
 case atStart => exact ⟨0, by omega, rfl, HQ, Below.refl _ _⟩
 case round =>
  obtain ⟨k, hk, rfl, HA, hbl⟩ := hrel
  by_cases hlt : k < n
  ·obtain ⟨b1, o1, x, rfl, hB1, hx, h0, h1, h2, h3, h4, h5⟩ := hr.item hbl hlt
   have HE := Lib.hid (all_step (f := okR) hx)
   clear hx
   have i1 : (0 : Int) ≤ (k : Int) := by omega
   have i2 : (k : Int) < (n : Int) := by omega
   obtain ⟨v, hv⟩ : ∃ v, okR x = v := ⟨_, rfl⟩
   have CE := Lib.hid (notRow_any x wr v hv)
   have HV := Lib.hid hv
   clear hv
   cases v
   ·have HR : Hid (r = false) := by have := HA.out; rw [HE.out, HV.out] at this; exact this.symm
    go_wp2_with (go_at_call 138; refine CE.out.mono ?_; rintro e w2 ⟨rfl, hb2⟩)
    go_ret
    exact ⟨_, rfl, by rw [HR.out]; simp, keep_below hbl hb2⟩
   ·have HA2 : Hid ((L.drop (k + 1)).all okR = r) := by have := HA.out; rw [HE.out, HV.out] at this; exact this
    go_wp2_with (go_at_call 138; refine CE.out.mono ?_; rintro e w2 ⟨rfl, hb2⟩)
    go_roundw
    case rel => exact ⟨k + 1, by omega, by go_num, HA2, keep_below hbl hb2⟩
    case measure => simp [intOf]; omega
  ·have hkn : k = n := by omega
   subst hkn
   have HR : Hid (r = true) := by have := HA.out; rw [List.drop_of_length_le (by rw [HL.out]; exact Nat.le_refl _)] at this; exact this.symm
   go_wp2
   go_ret
   exact ⟨_, rfl, by rw [HR.out]; rfl, hbl⟩
theorem containsRow_any (a : Option Addr) (n c : Nat) (L : List RtR) (w : World) (hr : RowS w a n L) (hn : n ≤ 140737488355328) :
  Calls Tryz.prog 137 #[.slice a n c, .func (.func 138) #[] #[]] w fun e w' => e = .returned (.bool (!L.all okR)) ∧ Below w.heap.size w w' := by
 have C := Lib.hid (indexRow_any a n c L w hr hn)
 clear hr hn
 go_enter Tryz.func137, Tryz.ntmps137
 go_wp2_with (go_at_call 179; refine C.out.mono ?_; rintro e w1 ⟨i, rfl, hi, hb⟩)
 go_ret
 exact ⟨by rw [← hi]; rfl, hb⟩
theorem rowsP_any (a : Option Addr) (n c : Nat) (L : List RtR) (w : World) (hr : RowS w a n L) (hn : n ≤ 140737488355328) (r : Bool) (hq : rgR L = r) :
  Calls Tryz.prog 96 #[.slice a n c] w fun e w' => e = .returned (.bool r) ∧ Below w.heap.size w w' := by
 have C := Lib.hid (containsRow_any a n c L w hr hn)
 have HS : Hid ((decide (n ≤ 8) && L.all okR) = r) := by show _ = _; rw [← hq, rgR_len, hr.1]
 clear hr hq
 obtain ⟨v, hv⟩ : ∃ v, L.all okR = v := ⟨_, rfl⟩
 rw [hv] at C HS
 clear hv
 by_cases h8 : n ≤ 8
 ·have HR : Hid (v = r) := by have := HS.out; rw [decide_eq_true h8] at this; exact this
  have h8i : (n : Int) ≤ 8 := by omega
  go_enter Tryz.func96, Tryz.ntmps96
  go_wp2_with (go_at_call 137; refine C.out.mono ?_; rintro e w1 ⟨rfl, hb⟩)
  go_ret
  exact ⟨by rw [HR.out]; simp, hb⟩
 ·have HR : Hid (r = false) := by have := HS.out; rw [decide_eq_false h8] at this; exact this.symm
  have h8i : ¬ (n : Int) ≤ 8 := by omega
  go_enter Tryz.func96, Tryz.ntmps96
  go_wp2
  go_ret
  exact ⟨by rw [HR.out]; rfl, Below.refl _ _⟩
theorem hasP_any (a : Option Addr) (n c : Nat) (L : List RtR) (i : Int) (w : World) (hr : RowS w a n L) (hn : n ≤ 140737488355328) (r : Bool) (hq : (rgR L && (decide (0 ≤ i) && decide (i < (L.length : Int)))) = r) :
  Calls Tryz.prog 47 #[.slice a n c, .int .i64 i] w fun e w' => e = .returned (.bool r) ∧ Below w.heap.size w w' := by
 obtain ⟨g, hg⟩ : ∃ g, rgR L = g := ⟨_, rfl⟩
 have C := Lib.hid (rowsP_any a n c L w hr hn g hg)
 rw [hg, ← hr.1] at hq
 have HQ := Lib.hid hq
 clear hr hq hg
 cases g
 ·have HR : Hid (r = false) := HQ.out.symm
  go_enter Tryz.func47, Tryz.ntmps47
  go_wp2_with (go_at_call 96; refine C.out.mono ?_; rintro e w1 ⟨rfl, hb⟩)
  go_ret
  exact ⟨by rw [HR.out]; rfl, hb⟩
 rcases Bool.eq_false_or_eq_true (decide (0 ≤ i)) with g0 | g0
 rotate_left
 ·have HR : Hid (r = false) := by show _ = _; rw [← HQ.out, g0]; rfl
  go_enter Tryz.func47, Tryz.ntmps47
  go_wp2_with (go_at_call 96; refine C.out.mono ?_; rintro e w1 ⟨rfl, hb⟩)
  go_ret
  exact ⟨by rw [HR.out]; rfl, hb⟩
 have HR : Hid (decide (i < (n : Int)) = r) := by show _ = _; rw [← HQ.out, g0]; rfl
 go_enter Tryz.func47, Tryz.ntmps47
 go_wp2_with (go_at_call 96; refine C.out.mono ?_; rintro e w1 ⟨rfl, hb⟩)
 go_ret
 exact ⟨by rw [← HR.out]; rfl, hb⟩
theorem mulP_of {x y : Int} {v e : Int} (hv : mulV x y = v) (he : mulE x y = e) (W : World) :
  Calls Tryz.prog 182 #[.int .i64 x, .int .i64 y] W fun r w' => r = .returned (.tuple #[.int .i64 v, .int .i64 e]) ∧ Below W.heap.size W w' :=
 (mul_any x y W).mono (fun r w' ⟨h1, h2⟩ => ⟨by rw [h1, hv, he], h2⟩)
theorem addP_of {a : Option Addr} {n c : Nat} {l : List Int} {W : World} (hr : Row W a n l) (hn : n ≤ 1000000000000) {v e : Int} (hv : addV l = v) (he : addE l = e) :
  Calls Tryz.prog 98 #[.slice a n c] W fun r w' => r = .returned (.tuple #[.int .i64 v, .int .i64 e]) ∧ Below W.heap.size W w' :=
 (add_any a n c l W hr hn).mono (fun r w' ⟨h1, h2⟩ => ⟨by rw [h1, hv, he], h2⟩)
theorem ceilP_of {x y : Int} {v e : Int} (hv : ceV x y = v) (he : ceE x y = e) (W : World) :
  Calls Tryz.prog 181 #[.int .i64 x, .int .i64 y] W fun r w' => r = .returned (.tuple #[.int .i64 v, .int .i64 e]) ∧ Below W.heap.size W w' :=
 (ceil_any x y W).mono (fun r w' ⟨h1, h2⟩ => ⟨by rw [h1, hv, he], h2⟩)
theorem add2_of {x y v e : Int} (hx : 0 ≤ x) (hx2 : x < 4611686018427387904) (hy : 0 ≤ y) (hy2 : y < 4611686018427387904) (h : (if x + y < 4611686018427387904 then (x + y, (0 : Int)) else (0, 4)) = (v, e)) : addV [x, y] = v ∧ addE [x, y] = e := by
 have hal : al [x, y] = true := by rw [al_iff]; intro z hz; simp at hz; rcases hz with rfl | rfl <;> exact rt_iff.2 (by omega)
 have hs : [x, y].sum = x + y := by simp
 by_cases c : x + y < 4611686018427387904
 ·rw [if_pos c] at h; cases h
  have := add_ok hal (by rw [hs]; exact c)
  rw [hs] at this
  exact ⟨this.2, this.1⟩
 ·rw [if_neg c] at h; cases h
  have := add_big hal (by rw [hs]; omega)
  exact ⟨this.2, this.1⟩
def tkR (x : RtR) (wv : Int) : Int × Int := if ptB x wv false = true then (0, 4) else (ptV x wv false, 0)
def shR (x : RtR) (p wv : Int) : Int × Int := if x.P < p then (0, 0) else if ptB x wv (sames p x) = true then (0, 4) else (ptV x wv (sames p x), 0)
theorem ptV_true (x : RtR) (wv : Int) : ptV x wv true = ptV x wv false + x.C := by
 unfold ptV ptK
 rw [if_pos rfl, if_neg (by decide), Int.add_zero, Int.add_mul, Int.one_mul]
theorem takenP_any (x : RtR) (wv : Int) (w : World) (hx : okR x = true) (hw : rtI wv = true) (rv re : Int) (hq : tkR x wv = (rv, re)) :
  Calls Tryz.prog 140 #[.agg #[.int .i64 x.C, .int .i64 x.B, .int .i64 x.T, .int .i64 x.D, .int .i64 x.J, .int .i64 x.P], .int .i64 wv] w
   fun e w' => e = .returned (.tuple #[.int .i64 rv, .int .i64 re]) ∧ Below w.heap.size w w' := by
 obtain ⟨⟨p1, p2⟩, ⟨p3, p4⟩, ⟨p5, p6⟩, ⟨p7, p8⟩, _, _, _⟩ := okR_parts hx
 obtain ⟨p9, p10⟩ := rtI_iff.1 hw
 obtain ⟨A, hA⟩ : ∃ A, wv + x.J = A := ⟨_, rfl⟩
 have I1 := Lib.hid (One.new w #[.int .i64 x.C, .int .i64 x.B, .int .i64 x.T, .int .i64 x.D, .int .i64 x.J, .int .i64 x.P] 62)
 have d4 := I1.out.2 4 _ rfl
 have R0 := (lit2 (w.alloc (.cells #[.int .i64 x.C, .int .i64 x.B, .int .i64 x.T, .int .i64 x.D, .int .i64 x.J, .int .i64 x.P] 62)) wv x.J).at_blk (alloc_size _ _)
 by_cases c1 : 4611686018427387904 ≤ A
 ·have h2 := add2_of (v := 0) (e := 4) p9 p10 p7 p8 (by rw [hA, if_neg (by omega)])
  have CA := addP_of (c := 2) R0 (by omega) h2.1 h2.2
  have HR : Hid (rv = 0 ∧ re = 4) := by
   unfold tkR at hq
   rw [if_pos (by unfold ptB; rw [hA, decide_eq_true c1]; rfl)] at hq
   cases hq; exact ⟨rfl, rfl⟩
  clear hq hx hw h2 R0
  go_enter Tryz.func140, Tryz.ntmps140
  go_wp2_with (go_at_call 98; refine CA.mono ?_; rintro e w2 ⟨rfl, hb2⟩)
  go_ret2
  exact ⟨by rw [HR.out.1, HR.out.2]; rfl, keep_below I1.out.1 (keep_below (below_alloc _ _) hb2)⟩
 ·obtain ⟨Q, hQ⟩ : ∃ Q, qt A x.T = Q := ⟨_, rfl⟩
  have q1 : 0 ≤ Q := by rw [← hQ]; exact qt_pos (by omega) (by omega)
  have q2 : Q ≤ A := by rw [← hQ]; exact qt_le (by omega) p5
  have h2 := add2_of (v := A) (e := 0) p9 p10 p7 p8 (by rw [hA, if_pos (by omega)])
  have CA := addP_of (c := 2) R0 (by omega) h2.1 h2.2
  have hce : (rt A && rt x.T && decide (x.T ≠ 0)) = true := by rw [rt_iff.2 (by omega), rt_iff.2 (by omega), decide_eq_true (by omega)]; rfl
  have CC := ceilP_of (x := A) (y := x.T) (v := Q) (e := 0) (by unfold ceV; rw [if_pos hce, ← hQ]; rfl) (by unfold ceE; rw [if_pos hce])
  have hv : ptV x wv false = Q * x.C := by unfold ptV ptK; rw [hA, hQ, if_neg (by decide), Int.add_zero]
  have hm : (rt Q && rt x.C) = true := by rw [rt_iff.2 (by omega), rt_iff.2 (by omega)]; rfl
  have hb : ptB x wv false = decide (4611686018427387904 ≤ Q * x.C) := by unfold ptB; rw [hA, hv, decide_eq_false c1]; rfl
  obtain ⟨M, hM⟩ : ∃ M, Q * x.C = M := ⟨_, rfl⟩
  have CM : Hid (∀ W, Calls Tryz.prog 182 #[.int .i64 Q, .int .i64 x.C] W fun r w' => r = .returned (.tuple #[.int .i64 rv, .int .i64 re]) ∧ Below W.heap.size W w') := by
   intro W
   unfold tkR at hq
   rw [hb, hv] at hq
   by_cases c2 : 4611686018427387904 ≤ Q * x.C
   ·rw [if_pos (decide_eq_true c2)] at hq; cases hq
    exact mulP_of (mul_big hm c2).2 (mul_big hm c2).1 W
   ·rw [if_neg (by rw [decide_eq_false c2]; decide)] at hq; cases hq
    exact mulP_of (mul_ok hm (by omega)).2 (mul_ok hm (by omega)).1 W
  clear hq hx hw h2 R0 hv hm hb hM hce hQ
  go_enter Tryz.func140, Tryz.ntmps140
  go_wp2_with (first
   | (go_at_call 98; refine CA.mono ?_; rintro e w2 ⟨rfl, hb2⟩; have J2 := (I1.out.keep (below_alloc _ _)).keep hb2; have e2 := J2.2 2 _ rfl; have J2h := Lib.hid J2)
   | (go_at_call 181; refine (CC _).mono ?_; rintro e w3 ⟨rfl, hb3⟩; have J3 := J2h.out.keep hb3; have e0 := J3.2 0 _ rfl; have J3h := Lib.hid J3)
   | (go_at_call 182; refine (CM.out _).mono ?_; rintro e w4 ⟨rfl, hb4⟩))
  go_ret2
  exact ⟨rfl, (J3h.out.keep hb4).1⟩
theorem shareP_any (x : RtR) (p wv : Int) (w : World) (hx : okR x = true) (hw : rtI wv = true) (rv re : Int) (hq : shR x p wv = (rv, re)) :
  Calls Tryz.prog 97 #[.agg #[.int .i64 x.C, .int .i64 x.B, .int .i64 x.T, .int .i64 x.D, .int .i64 x.J, .int .i64 x.P], .int .i64 p, .int .i64 wv] w
   fun e w' => e = .returned (.tuple #[.int .i64 rv, .int .i64 re]) ∧ Below w.heap.size w w' := by
 obtain ⟨⟨p1, p2⟩, _, _, _, _, _, _⟩ := okR_parts hx
 have I1 := Lib.hid (One.new w #[.int .i64 x.C, .int .i64 x.B, .int .i64 x.T, .int .i64 x.D, .int .i64 x.J, .int .i64 x.P] 62)
 have d0 := I1.out.2 0 _ rfl
 have d1 := I1.out.2 1 _ rfl
 have d2 := I1.out.2 2 _ rfl
 have d3 := I1.out.2 3 _ rfl
 have d4 := I1.out.2 4 _ rfl
 have d5 := I1.out.2 5 _ rfl
 unfold shR at hq
 by_cases c0 : x.P < p
 ·rw [if_pos c0] at hq; cases hq
  have q0 : decide (x.P < p) = true := decide_eq_true c0
  go_enter Tryz.func97, Tryz.ntmps97
  go_wp2
  go_ret2
  exact ⟨rfl, I1.out.1⟩
 rw [if_neg c0] at hq
 have q0 : decide (x.P < p) = false := decide_eq_false c0
 obtain ⟨⟨tv, te⟩, ht⟩ : ∃ t, tkR x wv = t := ⟨_, rfl⟩
 have C := Lib.hid (fun W => takenP_any x wv W hx hw tv te ht)
 have v0 := ptV_pos hx (rtI_iff.1 hw).1 false
 unfold tkR at ht
 by_cases c1 : p < x.P
 ·have q1 : decide (p < x.P) = true := decide_eq_true c1
  have e1 : sames p x = false := decide_eq_false (by omega)
  rw [e1, ht] at hq; cases hq
  have HT := Lib.hid ht
  clear ht hw hx
  by_cases c2 : re = 0
  ·subst c2
   go_enter Tryz.func97, Tryz.ntmps97
   go_wp2_with (go_at_call 140; refine (C.out _).mono ?_; rintro e w2 ⟨rfl, hb2⟩; have J2 := I1.out.keep hb2; have f5 := J2.2 5 _ rfl)
   go_ret2
   exact ⟨rfl, J2.1⟩
  ·have q2 : (re == 0) = false := beq_eq_false_iff_ne.2 c2
   go_enter Tryz.func97, Tryz.ntmps97
   go_wp2_with (go_at_call 140; refine (C.out _).mono ?_; rintro e w2 ⟨rfl, hb2⟩; have J2 := I1.out.keep hb2; have f5 := J2.2 5 _ rfl)
   go_ret2
   exact ⟨rfl, J2.1⟩
 have q1 : decide (p < x.P) = false := decide_eq_false c1
 have e1 : sames p x = true := decide_eq_true (by omega)
 rw [e1] at hq
 by_cases c2 : ptB x wv false = true
 ·rw [if_pos c2] at ht; cases ht
  have c3 : ptB x wv true = true := by
   unfold ptB at c2 ⊢
   rw [ptV_true]
   simp only [Bool.or_eq_true, decide_eq_true_eq] at c2 ⊢
   omega
  rw [if_pos c3] at hq; cases hq
  clear hw hx v0 c2 c3
  go_enter Tryz.func97, Tryz.ntmps97
  go_wp2_with (go_at_call 140; refine (C.out _).mono ?_; rintro e w2 ⟨rfl, hb2⟩; have J2 := I1.out.keep hb2; have f5 := J2.2 5 _ rfl)
  go_ret2
  exact ⟨rfl, J2.1⟩
 ·rw [if_neg c2] at ht; cases ht
  have c4 : ¬ (4611686018427387904 ≤ wv + x.J) ∧ ¬ 4611686018427387904 ≤ ptV x wv false := by
   unfold ptB at c2
   simp only [Bool.or_eq_true, decide_eq_true_eq, not_or] at c2
   exact c2
  have e2 : ptB x wv true = decide (4611686018427387904 ≤ ptV x wv false + x.C) := by unfold ptB; rw [ptV_true, decide_eq_false c4.1]; rfl
  rw [e2, ptV_true] at hq
  obtain ⟨V, hV⟩ : ∃ V, ptV x wv false = V := ⟨_, rfl⟩
  rw [hV] at hq C v0 c4
  have h2 := add2_of (x := V) (y := x.C) (v := rv) (e := re) v0 (by omega) (by omega) p2 (by
   rw [← hq]
   by_cases c5 : V + x.C < 4611686018427387904
   ·rw [if_pos c5, if_neg (by rw [decide_eq_false (by omega)]; decide)]
   ·rw [if_neg c5, if_pos (decide_eq_true (by omega))])
  have CA := Lib.hid (fun W => addP_of (c := 2) ((lit2 W V x.C)) (by omega) h2.1 h2.2)
  clear hw hx hq c2 e2 h2 hV
  go_enter Tryz.func97, Tryz.ntmps97
  go_wp2_with (first
   | (go_at_call 140; refine (C.out _).mono ?_; rintro e w2 ⟨rfl, hb2⟩; have J2 := I1.out.keep hb2; have f5 := J2.2 5 _ rfl; have f0 := J2.2 0 _ rfl; have J2h := Lib.hid J2)
   | (go_at_call 98; refine (CA.out _).mono ?_; rintro e w4 ⟨rfl, hb4⟩))
  go_ret2
  exact ⟨rfl, ((J2h.out.keep (below_alloc _ _)).keep hb4).1⟩
end Go.Proofs.YtngehojibcmieaaGreatDoor.Kd
end
section
namespace Go.Proofs.YtngehojibcmieaaGreatDoor.Kd
def shV (x : RtR) (wv : Int) (r : RtR) : Int := if r.P < x.P then 0 else ptV r wv (sames x.P r)
def pts (x : RtR) (wv : Int) (L : List RtR) (i0 k : Nat) : List Int := x.C :: x.B :: (othTo L 0 i0 k).map (shV x wv)
theorem pts_zero (x : RtR) (wv : Int) (L : List RtR) (i0 : Nat) : pts x wv L i0 0 = [x.C, x.B] := rfl
theorem pts_self {x : RtR} {wv : Int} {L : List RtR} {k : Nat} {y : RtR} (h : L[k]? = some y) : pts x wv L k (k + 1) = pts x wv L k k := by
 unfold pts
 rw [othTo_succ h, if_neg (by simp)]
theorem pts_more {x : RtR} {wv : Int} {L : List RtR} {i0 k : Nat} {y : RtR} (h : L[k]? = some y) (hk : k ≠ i0) (hy : okR y = true) : pts x wv L i0 (k + 1) = pts x wv L i0 k ++ [shV x wv y] := by
 have := (okR_parts hy).2.2.2.2.2
 unfold pts
 rw [othTo_succ h, if_pos ⟨hk, by omega⟩, List.map_append]
 rfl
theorem suB_snoc (o : List RtR) (y : RtR) (p wv : Int) : suB (o ++ [y]) p wv = (suB o p wv || ptB y wv (sames p y)) := by
 unfold suB; rw [List.any_append]; simp
theorem suV_snoc (o : List RtR) (y : RtR) (p wv : Int) : suV (o ++ [y]) p wv = suV o p wv + ptV y wv (sames p y) := by
 unfold suV; rw [List.map_append, List.sum_append]; simp
theorem pts_facts {x : RtR} {wv : Int} {L : List RtR} {i0 : Nat} (hg : rgR L = true) (hx : okR x = true) (hw : rtI wv = true) : ∀ k, k ≤ L.length → suB (othTo L x.P i0 k) x.P wv = false →
  (pts x wv L i0 k).sum = x.C + x.B + suV (othTo L x.P i0 k) x.P wv ∧ al (pts x wv L i0 k) = true
 | 0, _, _ => by
  obtain ⟨⟨p1, p2⟩, ⟨p3, p4⟩, _⟩ := okR_parts hx
  rw [pts_zero]
  refine ⟨by simp [othTo_zero, suV], ?_⟩
  rw [al_iff]; intro z hz; simp at hz; rcases hz with rfl | rfl <;> exact rt_iff.2 (by omega)
 | k + 1, hk, hb => by
  obtain ⟨y, hy⟩ : ∃ y, L[k]? = some y := ⟨_, List.getElem?_eq_getElem (by omega)⟩
  have oy := rgR_mem hg (List.mem_of_getElem? hy)
  by_cases e : k = i0
  ·subst e
   rw [othTo_succ hy, if_neg (by simp)] at hb ⊢
   rw [pts_self hy]
   exact pts_facts hg hx hw k (by omega) hb
  ·rw [pts_more hy e oy, List.sum_append]
   by_cases c : y.P < x.P
   ·rw [othTo_succ hy, if_neg (by omega)] at hb ⊢
    obtain ⟨h1, h2⟩ := pts_facts hg hx hw k (by omega) hb
    have e1 : shV x wv y = 0 := by unfold shV; rw [if_pos c]
    rw [e1]
    refine ⟨by simp [h1], ?_⟩
    rw [al_iff] at h2 ⊢
    intro z hz
    rw [List.mem_append] at hz
    rcases hz with hz | hz
    ·exact h2 z hz
    ·simp at hz; subst hz; rfl
   ·rw [othTo_succ hy, if_pos ⟨e, by omega⟩] at hb ⊢
    rw [suB_snoc, Bool.or_eq_false_iff] at hb
    obtain ⟨h1, h2⟩ := pts_facts hg hx hw k (by omega) hb.1
    have e1 : shV x wv y = ptV y wv (sames x.P y) := by unfold shV; rw [if_neg c]
    have v0 := ptV_pos oy (rtI_iff.1 hw).1 (sames x.P y)
    have v1 : ptV y wv (sames x.P y) < 4611686018427387904 := by
     have := hb.2
     unfold ptB at this
     simp only [Bool.or_eq_false_iff, decide_eq_false_iff_not] at this
     omega
    rw [e1, suV_snoc]
    refine ⟨by simp [h1]; omega, ?_⟩
    rw [al_iff] at h2 ⊢
    intro z hz
    rw [List.mem_append] at hz
    rcases hz with hz | hz
    ·exact h2 z hz
    ·simp at hz; subst hz; exact rt_iff.2 ⟨v0, v1⟩
def smR (L : List RtR) (x : RtR) (k : Nat) (wv : Int) : Int × Int := match nxO x (oth L x.P k) wv with | some m => (m, 0) | none => (0, 4)
theorem smR_bad {L : List RtR} {x y : RtR} {i0 k : Nat} {wv : Int} (h : L[k]? = some y) (hk : ¬ k = i0) (hp : ¬ y.P < x.P) (hb : ptB y wv (sames x.P y) = true) : smR L x i0 wv = (0, 4) := by
 unfold smR
 rw [nxO_bad (oth_in h hk (by omega)) hb]
theorem smR_end {L : List RtR} {x : RtR} {i0 : Nat} {wv : Int} (hg : rgR L = true) (hx : okR x = true) (hw : rtI wv = true) (hb : suB (othTo L x.P i0 L.length) x.P wv = false) :
  smR L x i0 wv = (addV (pts x wv L i0 L.length), addE (pts x wv L i0 L.length)) := by
 obtain ⟨h1, h2⟩ := pts_facts hg hx hw L.length (Nat.le_refl _) hb
 rw [othTo_all] at h1 hb
 unfold smR
 by_cases c : x.C + x.B + suV (oth L x.P i0) x.P wv < 4611686018427387904
 ·rw [show nxO x (oth L x.P i0) wv = some (x.C + x.B + suV (oth L x.P i0) x.P wv) from nxO_some.2 ⟨hb, c, rfl⟩, (add_ok h2 (by rw [h1]; exact c)).1, (add_ok h2 (by rw [h1]; exact c)).2, h1]
 ·rw [show nxO x (oth L x.P i0) wv = none from by unfold nxO; rw [if_pos (Or.inr (by omega))], (add_big h2 (by rw [h1]; omega)).1, (add_big h2 (by rw [h1]; omega)).2]
end Go.Proofs.YtngehojibcmieaaGreatDoor.Kd
end
