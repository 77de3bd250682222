/- What is proved here: contracts of cost.better, of the function that it gives, of cost.rounds and cost.leavesOut. Conditions: those each theorem states. contracts of cost.wayFrom. the contract of cost.wayFrom. -/
import Derived.Test.YtngehojibcmieaaGreatDoorQGp
import Derived.Test.YtngehojibcmieaaGreatDoorQGk
section
section
namespace Go.Proofs.YtngehojibcmieaaGreatDoor
open Go.ChangeShapes Go.WideShapes Go.RowKit
set_option maxRecDepth 100000
theorem better_any (m : Bool) (w : World) : Calls Tryz.prog 100 #[.bool m] w fun e w' => ∃ b, e = .returned (.func (.func 145) #[] #[.pointer (some ⟨b, 0, none⟩)]) ∧ w.heap.size ≤ b ∧ w'.cell? ⟨b, 0, none⟩ = some (.bool m) ∧ Below w.heap.size w w' := by
 go_enter Tryz.func100, Tryz.ntmps100
 go_wp2
 go_ret
 exact ⟨w.heap.size, rfl, Nat.le_refl _, by simp, below_alloc _ _⟩
theorem bet_any (m : Bool) (x y : Nat) (w : World) (b : Nat) (h : w.cell? ⟨b, 0, none⟩ = some (.bool m)) : Calls Tryz.prog 145 #[.int .i64 x, .int .i64 y, .pointer (some ⟨b, 0, none⟩)] w fun e w' => e = .returned (.int .i64 ((of_ m x y : Nat) : Int)) ∧ w = w' := by
 obtain ⟨r, hr⟩ : ∃ r, r = of_ m x y := ⟨_, rfl⟩
 rw [← hr]
 unfold of_ at hr
 by_cases e : y < x
 ·have e1 : decide ((y : Int) < x) = true := by simp; omega
  have e2 : decide (y < x) = true := by simp; omega
  cases m
  ·have HR : Hid (r = y) := by show _ = _; rw [hr]; simp; omega
   clear hr
   go_enter Tryz.func145, Tryz.ntmps145
   go_wp2
   go_ret
   exact ⟨by rw [HR.out]; rfl, rfl⟩
  ·have HR : Hid (r = x) := by show _ = _; rw [hr]; simp; omega
   clear hr
   go_enter Tryz.func145, Tryz.ntmps145
   go_wp2
   go_ret
   exact ⟨by rw [HR.out]; rfl, rfl⟩
 ·have e1 : decide ((y : Int) < x) = false := by simp; omega
  have e2 : decide (y < x) = false := by simp; omega
  cases m
  ·have HR : Hid (r = x) := by show _ = _; rw [hr]; simp; omega
   clear hr
   go_enter Tryz.func145, Tryz.ntmps145
   go_wp2
   go_ret
   exact ⟨by rw [HR.out]; rfl, rfl⟩
  ·have HR : Hid (r = y) := by show _ = _; rw [hr]; simp; omega
   clear hr
   go_enter Tryz.func145, Tryz.ntmps145
   go_wp2
   go_ret
   exact ⟨by rw [HR.out]; rfl, rfl⟩
theorem rounds_any (o x y r : Int) (w : World) (h : r = if o = 21 then x else 1) : Calls Tryz.prog 187 #[.agg #[.int .i64 o, .int .i64 x, .int .i64 y]] w fun e w' => e = .returned (.int .i64 r) ∧ Below w.heap.size w w' := by
 by_cases e : o = 21
 ·rw [if_pos e] at h
  subst h; subst e
  go_enter Tryz.func187, Tryz.ntmps187
  go_wp2
  go_ret
  exact ⟨rfl, below_alloc _ _⟩
 ·rw [if_neg e] at h
  subst h
  have e1 : (o == 21) = false := by simpa using e
  clear e
  go_enter Tryz.func187, Tryz.ntmps187
  go_wp2
  go_ret
  exact ⟨rfl, below_alloc _ _⟩
end Go.Proofs.YtngehojibcmieaaGreatDoor
end
section
namespace Go.Proofs.YtngehojibcmieaaGreatDoor
open Go.ChangeShapes Go.WideShapes Go.RowKit
set_option maxRecDepth 100000
theorem at_some' {L : List (Int × Int × Int)} {k : Nat} {x : Int × Int × Int} (h : L[k]? = some x) : at_ L k = x := by
 unfold at_; rw [List.getD_eq_getElem?_getD, h]; rfl
def wc (m : Bool) (L : List (Int × Int × Int)) (p : Nat) : Nat := wv m L (fun q => cut (ub m L q)) p
def Wys (m : Bool) (L : List (Int × Int × Int)) (w : World) (A n p : Nat) : Prop := ∀ q, p < q → q < n → w.cell? ⟨A, q, none⟩ = some (.int .i64 ((cut (ub m L q) : Nat) : Int))
section
variable (a a1 : Option Addr) (n c n1 c1 A B : Nat) (m : Bool) (L : List (Int × Int × Int)) (p : Nat) (w : World)
theorem way_stop (hr : RowI w a n L) (hp : p < n) (ho : (at_ L p).1 = 22 ∨ (at_ L p).1 = 24 ∨ (at_ L p).1 = 25) :
  Calls Tryz.prog 144 #[.int .i64 p, .slice a n c, .slice a1 n1 c1, .slice (some ⟨A, 0, none⟩) n n, .func (.func 145) #[] #[.pointer (some ⟨B, 0, none⟩)]] w
   fun e w' => e = .returned (.int .i64 ((wc m L p : Nat) : Int)) ∧ Below w.heap.size w w' := by
 have HQ : Hid (wc m L p = 0) := by show _ = _; unfold wc wv; rw [if_pos ho]
 obtain ⟨b1, o1, o, x, y, rfl, hB1, hx, hc1, hc2, hc3⟩ := hr.at_ hp
 rw [at_some' hx] at ho
 simp only at ho
 clear hr hx
 rcases ho with rfl | rfl | rfl
 all_goals
  go_enter Tryz.func144, Tryz.ntmps144
  go_wp2
  go_ret
  exact ⟨by rw [HQ.out]; rfl, below_alloc _ _⟩
theorem way_else (hr : RowI w a n L) (hn : n ≤ 200) (hw : wE L = 0) (hp : p < n) (hA : Wys m L w A n p)
  (h1 : ¬ ((at_ L p).1 = 22 ∨ (at_ L p).1 = 24 ∨ (at_ L p).1 = 25)) (h2 : (at_ L p).1 ≠ 21) (h3 : (at_ L p).1 ≠ 23) (h4 : (at_ L p).1 ≠ 19) (h5 : (at_ L p).1 ≠ 20) :
  Calls Tryz.prog 144 #[.int .i64 p, .slice a n c, .slice a1 n1 c1, .slice (some ⟨A, 0, none⟩) n n, .func (.func 145) #[] #[.pointer (some ⟨B, 0, none⟩)]] w
   fun e w' => e = .returned (.int .i64 ((wc m L p : Nat) : Int)) ∧ Below w.heap.size w w' := by
 have hnext : p + 1 < n := by
  have := (ends_iff.1 (wE_zero hw).2.1 p (by rw [← hr.1]; exact hp)).2
  have := hr.1
  omega
 obtain ⟨u, hu⟩ : ∃ u, u = cut (ub m L (p + 1)) := ⟨_, rfl⟩
 have hub : u ≤ 1048577 := by rw [hu]; exact cut_le _
 have hq := hA (p + 1) (by omega) hnext
 have HQ : Hid (wc m L p = 1 + u) := by show _ = _; unfold wc wv; rw [if_neg h1, if_neg h2, if_neg h3, if_neg h4, if_neg h5, hu]
 rw [← hu] at hq
 have hA1 : A < w.heap.size := cell_lt hq
 obtain ⟨b1, o1, o, x, y, rfl, hB1, hx, hc1, hc2, hc3⟩ := hr.at_ hp
 rw [at_some' hx] at h1 h2 h3 h4 h5
 simp only at h1 h2 h3 h4 h5
 have f1 : (o == 22) = false := by rw [beq_eq_false_iff_ne]; omega
 have f2 : (o == 24) = false := by rw [beq_eq_false_iff_ne]; omega
 have f3 : (o == 25) = false := by rw [beq_eq_false_iff_ne]; omega
 have f4 : (o == 21) = false := by rw [beq_eq_false_iff_ne]; omega
 have f5 : (o == 23) = false := by rw [beq_eq_false_iff_ne]; omega
 have f6 : (o == 19) = false := by rw [beq_eq_false_iff_ne]; omega
 have f7 : (o == 20) = false := by rw [beq_eq_false_iff_ne]; omega
 clear hr hx hu hA h1 h2 h3 h4 h5 hw
 go_enter Tryz.func144, Tryz.ntmps144
 go_wp2
 go_ret
 exact ⟨by rw [HQ.out]; go_num, below_alloc _ _⟩
theorem way_jump (hr : RowI w a n L) (hn : n ≤ 200) (hw : wE L = 0) (hp : p < n) (hA : Wys m L w A n p) (h4 : (at_ L p).1 = 19) :
  Calls Tryz.prog 144 #[.int .i64 p, .slice a n c, .slice a1 n1 c1, .slice (some ⟨A, 0, none⟩) n n, .func (.func 145) #[] #[.pointer (some ⟨B, 0, none⟩)]] w
   fun e w' => e = .returned (.int .i64 ((wc m L p : Nat) : Int)) ∧ Below w.heap.size w w' := by
 have hpl : p < L.length := by rw [← hr.1]; exact hp
 have hled := (jmps_iff.1 (wE_zero hw).2.2 p hpl (by unfold jmp; rw [h4]; rfl)).1
 rw [← hr.1] at hled
 have hrx := right_jump (can_right (mE_zero (wE_zero hw).1).1 hpl) (by unfold jmp; rw [h4]; rfl)
 obtain ⟨u, hu⟩ : ∃ u, u = cut (ub m L (led L p)) := ⟨_, rfl⟩
 have hub : u ≤ 1048577 := by rw [hu]; exact cut_le _
 have hq := hA (led L p) (led_gt L p) hled
 have HQ : Hid (wc m L p = 1 + u) := by show _ = _; unfold wc wv; rw [if_neg (by omega), if_neg (by omega), if_neg (by omega), if_pos h4, hu]
 rw [← hu] at hq
 have hA1 : A < w.heap.size := cell_lt hq
 obtain ⟨b1, o1, o, x, y, rfl, hB1, hx, hc1, hc2, hc3⟩ := hr.at_ hp
 unfold led at hq hled
 rw [at_some' hx] at h4 hq hled hrx
 simp only at h4 hq hled hrx
 subst h4
 obtain ⟨k, rfl⟩ : ∃ k : Nat, x = k := ⟨x.toNat, by omega⟩
 rw [Int.toNat_natCast] at hq hled
 clear hr hx hu hA hw hpl
 go_enter Tryz.func144, Tryz.ntmps144
 go_wp2
 go_ret
 exact ⟨by rw [HQ.out]; go_num, below_alloc _ _⟩
theorem way_branch (hr : RowI w a n L) (hn : n ≤ 200) (hw : wE L = 0) (hp : p < n) (hA : Wys m L w A n p) (hB : w.cell? ⟨B, 0, none⟩ = some (.bool m)) (h4 : (at_ L p).1 = 20) :
  Calls Tryz.prog 144 #[.int .i64 p, .slice a n c, .slice a1 n1 c1, .slice (some ⟨A, 0, none⟩) n n, .func (.func 145) #[] #[.pointer (some ⟨B, 0, none⟩)]] w
   fun e w' => e = .returned (.int .i64 ((wc m L p : Nat) : Int)) ∧ Below w.heap.size w w' := by
 have hpl : p < L.length := by rw [← hr.1]; exact hp
 have hnext : p + 1 < n := by
  have := (ends_iff.1 (wE_zero hw).2.1 p hpl).2
  have := hr.1
  omega
 have hled := (jmps_iff.1 (wE_zero hw).2.2 p hpl (by unfold jmp; rw [h4]; rfl)).1
 rw [← hr.1] at hled
 have hrx := right_jump (can_right (mE_zero (wE_zero hw).1).1 hpl) (by unfold jmp; rw [h4]; rfl)
 obtain ⟨u, hu⟩ : ∃ u, u = cut (ub m L (led L p)) := ⟨_, rfl⟩
 have hub : u ≤ 1048577 := by rw [hu]; exact cut_le _
 have hq := hA (led L p) (led_gt L p) hled
 obtain ⟨v, hv⟩ : ∃ v, v = cut (ub m L (p + 1)) := ⟨_, rfl⟩
 have hvb : v ≤ 1048577 := by rw [hv]; exact cut_le _
 have hq2 := hA (p + 1) (by omega) hnext
 obtain ⟨r, hrr⟩ : ∃ r, r = of_ m v u := ⟨_, rfl⟩
 have hrb : r ≤ 1048577 := by rw [hrr]; unfold of_; split <;> omega
 have HQ : Hid (wc m L p = 1 + r) := by show _ = _; unfold wc wv; rw [if_neg (by omega), if_neg (by omega), if_neg (by omega), if_neg (by omega), if_pos h4, hrr, hu, hv]
 rw [← hu] at hq
 rw [← hv] at hq2
 have hA1 : A < w.heap.size := cell_lt hq
 have hB2 : B < w.heap.size := cell_lt hB
 have CB := Lib.hid (fun (W : World) (h : W.cell? ⟨B, 0, none⟩ = some (.bool m)) => hrr ▸ bet_any m v u W B h)
 obtain ⟨b1, o1, o, x, y, rfl, hB1, hx, hc1, hc2, hc3⟩ := hr.at_ hp
 unfold led at hq hled
 rw [at_some' hx] at h4 hq hled hrx
 simp only at h4 hq hled hrx
 subst h4
 obtain ⟨k, rfl⟩ : ∃ k : Nat, x = k := ⟨x.toNat, by omega⟩
 rw [Int.toNat_natCast] at hq hled
 have k0 := new_block w (.cells #[.int .i64 20, .int .i64 (k : Int), .int .i64 y] 103)
 have c1 := (Lib.cell_of_heap k0 1).trans (rfl : _ = some (Value.int .i64 (k : Int)))
 have z1 : (0 : Int) ≤ (p : Int) + 1 := by omega
 have z2 : (p : Int) + 1 < (n : Int) := by omega
 obtain ⟨t, ht⟩ : ∃ t : Nat, t = p + 1 + k := ⟨_, rfl⟩
 rw [← ht] at hq hled
 have z3 : (0 : Int) ≤ (t : Int) := by omega
 have z4 : (t : Int) < (n : Int) := by omega
 have w1 : IntKind.i64.wrap ((p : Int) + 1) = (p : Int) + 1 := IntWalk.i64_in _ (by omega)
 have w2 : IntKind.i64.wrap ((p : Int) + 1 + (k : Int)) = (t : Int) := by rw [IntWalk.i64_in _ (by omega)]; omega
 have w3 : IntKind.i64.wrap (1 + (r : Int)) = 1 + (r : Int) := IntWalk.i64_in _ (by omega)
 have d1 := keep_cell (below_alloc w (.cells #[.int .i64 20, .int .i64 (k : Int), .int .i64 y] 103)) hq
 have d2 := keep_cell (below_alloc w (.cells #[.int .i64 20, .int .i64 (k : Int), .int .i64 y] 103)) hq2
 have d3 := keep_cell (below_alloc w (.cells #[.int .i64 20, .int .i64 (k : Int), .int .i64 y] 103)) hB
 clear hr hx hu hv hA hw hpl hrr k0 hB ht hrx
 go_enter Tryz.func144, Tryz.ntmps144
 go_wp2
 go_region_held3 (fun W => W.cell? ⟨w.heap.size, 1, none⟩ = some (.int .i64 (k : Int)) ∧ W.cell? ⟨A, t, none⟩ = some (.int .i64 (u : Int)) ∧ W.cell? ⟨A, p + 1, none⟩ = some (.int .i64 (v : Int)) ∧ W.cell? ⟨B, 0, none⟩ = some (.bool m) ∧ Below w.heap.size w W)
  (first | exact ⟨c1, d1, d2, d3, below_alloc _ _⟩ | exact ⟨c1, d1, d2, d3, (below_alloc _ _).drew⟩ | (go_split_ands; exact ⟨by assumption, by assumption, by assumption, by assumption, by assumption⟩))
  (first | (go_split_ands; go_at_call 145; refine (CB.out _ (by assumption)).mono ?_; rintro e w9 ⟨rfl, rfl⟩))
 go_split_ands
 go_wp2
 go_ret
 exact ⟨by rw [HQ.out]; go_num, by assumption⟩
end
end Go.Proofs.YtngehojibcmieaaGreatDoor
end
section
namespace Go.Proofs.YtngehojibcmieaaGreatDoor
open Go.ChangeShapes Go.WideShapes Go.RowKit
set_option maxRecDepth 100000
section
variable (a a1 : Option Addr) (n c n1 c1 A B : Nat) (m : Bool) (L : List (Int × Int × Int)) (p : Nat) (w : World)
set_option maxHeartbeats 2000000 in
theorem way_open (hr : RowI w a n L) (hm : Row w a1 n1 (mL L)) (hn : n ≤ 200) (hw : wE L = 0) (hp : p < n) (hA : Wys m L w A n p) (ho : (at_ L p).1 = 21 ∨ (at_ L p).1 = 23) :
  Calls Tryz.prog 144 #[.int .i64 p, .slice a n c, .slice a1 n1 c1, .slice (some ⟨A, 0, none⟩) n n, .func (.func 145) #[] #[.pointer (some ⟨B, 0, none⟩)]] w
   fun e w' => e = .returned (.int .i64 ((wc m L p : Nat) : Int)) ∧ Below w.heap.size w w' := by
 have hpl : p < L.length := by rw [← hr.1]; exact hp
 obtain ⟨hc, hs⟩ := mE_zero (wE_zero hw).1
 obtain ⟨d, e1, e2, e3, e4, e5, e6⟩ := hs.opn (p := p) (by unfold opn; rcases ho with h | h <;> rw [h] <;> rfl)
 have hd25 : (at_ L d).1 ≠ 25 := by
  intro h; unfold cls at e4; rw [h] at e4; simp at e4
 have hnext : d + 1 < n := by
  have := (ends_iff.1 (wE_zero hw).2.1 d e3).2
  have := hr.1
  omega
 have hnb : nb L p = d + 1 := by unfold nb; rw [e1]; simp; omega
 obtain ⟨rr, hrr⟩ : ∃ rr : Nat, rr = if (at_ L p).1 = 21 then (at_ L p).2.1.toNat else 1 := ⟨_, rfl⟩
 have hA21 : (at_ L p).1 = 21 → 1 ≤ (at_ L p).2.1 ∧ (at_ L p).2.1 ≤ 1000 := by
  intro h
  have := (right_parts (can_right hc hpl)).2.1
  unfold rA at this
  rw [h] at this
  simpa using this
 have hrb : rr ≤ 1000 := by rw [hrr]; split <;> omega
 obtain ⟨v, hv⟩ : ∃ v, v = cut (ub m L (p + 1)) := ⟨_, rfl⟩
 have hvb : v ≤ 1048577 := by rw [hv]; exact cut_le _
 obtain ⟨u, hu⟩ : ∃ u, u = cut (ub m L (d + 1)) := ⟨_, rfl⟩
 have hub : u ≤ 1048577 := by rw [hu]; exact cut_le _
 have hq := hA (d + 1) (by omega) (by omega)
 have hq2 := hA (p + 1) (by omega) (by omega)
 rw [← hu] at hq
 rw [← hv] at hq2
 obtain ⟨P, hP⟩ : ∃ P : Nat, P = rr * (v + 1) := ⟨_, rfl⟩
 have hPb : P ≤ 1048578000 := by
  rw [hP]
  have := Nat.mul_le_mul hrb (show v + 1 ≤ 1048578 by omega)
  omega
 have HQ : Hid (wc m L p = 1 + P + u) := by
  show _ = _
  unfold wc wv
  rw [if_neg (by omega), hnb]
  rcases ho with h | h
  ·rw [if_pos h, hP, hrr, if_pos h, hu, hv]
  ·rw [if_neg (by omega), if_pos h, hP, hrr, if_neg (by omega), hu, hv, Nat.one_mul]
 have hA1 : A < w.heap.size := cell_lt hq
 obtain ⟨bm, om, rfl, hBm, hcm⟩ := hm.2 (by have := hm.1; rw [mL_len, ← hr.1] at this; omega)
 have hn1 : n1 = n := by have := hm.1; rw [mL_len, ← hr.1] at this; exact this
 have hmp := hcm p (by omega)
 rw [mL_at hpl, e1] at hmp
 obtain ⟨b1, o1, o, x, y, rfl, hB1, hx, hc1, hc2, hc3⟩ := hr.at_ hp
 have hat := at_some' hx
 rw [hat] at ho hrr hA21
 simp only at ho hrr hA21
 have CR := Lib.hid (fun W => rounds_any o x y rr W (by rw [hrr]; split <;> omega))
 have k0 := new_block w (.cells #[.int .i64 o, .int .i64 x, .int .i64 y] 103)
 have c1 := (Lib.cell_of_heap k0 0).trans (rfl : _ = some (Value.int .i64 o))
 have c2 := (Lib.cell_of_heap k0 1).trans (rfl : _ = some (Value.int .i64 x))
 have c3 := (Lib.cell_of_heap k0 2).trans (rfl : _ = some (Value.int .i64 y))
 have z1 : (0 : Int) ≤ (p : Int) + 1 := by omega
 have z2 : (p : Int) + 1 < (n : Int) := by omega
 have z3 : (0 : Int) ≤ (d : Int) + 1 := by omega
 have z4 : (d : Int) + 1 < (n : Int) := by omega
 have z5 : (p : Int) < (n : Int) := by omega
 have z6 : (p : Int) < (n1 : Int) := by omega
 have w1 : IntKind.i64.wrap ((p : Int) + 1) = (p : Int) + 1 := IntWalk.i64_in _ (by omega)
 have w2 : IntKind.i64.wrap ((d : Int) + 1) = (d : Int) + 1 := IntWalk.i64_in _ (by omega)
 have w3 : IntKind.i64.wrap ((v : Int) + 1) = (v : Int) + 1 := IntWalk.i64_in _ (by omega)
 have w4 : IntKind.i64.wrap ((rr : Int) * ((v : Int) + 1)) = (P : Int) := by
  have : (rr : Int) * ((v : Int) + 1) = ((rr * (v + 1) : Nat) : Int) := by rw [Int.natCast_mul]; rfl
  rw [this, ← hP]; exact IntWalk.i64_in _ (by omega)
 have w5 : IntKind.i64.wrap (1 + (P : Int)) = 1 + (P : Int) := IntWalk.i64_in _ (by omega)
 have w6 : IntKind.i64.wrap (1 + (P : Int) + (u : Int)) = 1 + (P : Int) + (u : Int) := IntWalk.i64_in _ (by omega)
 have d1 := keep_cell (below_alloc w (.cells #[.int .i64 o, .int .i64 x, .int .i64 y] 103)) hq
 have d2 := keep_cell (below_alloc w (.cells #[.int .i64 o, .int .i64 x, .int .i64 y] 103)) hq2
 have d3 := keep_cell (below_alloc w (.cells #[.int .i64 o, .int .i64 x, .int .i64 y] 103)) hmp
 have HN := Lib.hid hn1
 clear hr hx hu hv hA hw hpl hrr k0 hm hcm hat hP hA21 hs hc e1 e4 e5 e6 hd25 hnb hn1
 rcases ho with h | h
 ·subst h
  go_enter Tryz.func144, Tryz.ntmps144
  go_wp2
  go_region_held3 (fun W => W.cell? ⟨w.heap.size, 0, none⟩ = some (.int .i64 21) ∧ W.cell? ⟨w.heap.size, 1, none⟩ = some (.int .i64 x) ∧ W.cell? ⟨w.heap.size, 2, none⟩ = some (.int .i64 y) ∧ W.cell? ⟨A, d + 1, none⟩ = some (.int .i64 (u : Int)) ∧ W.cell? ⟨A, p + 1, none⟩ = some (.int .i64 (v : Int)) ∧ W.cell? ⟨bm, om + p, none⟩ = some (.int .i64 (d : Int)) ∧ Below w.heap.size w W)
   (first
    | exact ⟨c1, c2, c3, d1, d2, d3, below_alloc _ _⟩
    | exact ⟨c1, c2, c3, d1, d2, d3, (below_alloc _ _).drew⟩
    | (go_split_ands; exact ⟨keep_cell hb9 (by assumption), keep_cell hb9 (by assumption), keep_cell hb9 (by assumption), keep_cell hb9 (by assumption), keep_cell hb9 (by assumption), keep_cell hb9 (by assumption), keep_below (by assumption) hb9⟩)
    | (go_split_ands; exact ⟨by assumption, by assumption, by assumption, by assumption, by assumption, by assumption, by assumption⟩))
   (first | (go_split_ands; go_at_call 187; refine (CR.out _).mono ?_; rintro e w9 ⟨rfl, hb9⟩))
  go_split_ands
  go_wp2
  go_ret
  exact ⟨by rw [HQ.out]; go_num, by assumption⟩
 ·subst h
  go_enter Tryz.func144, Tryz.ntmps144
  go_wp2
  go_region_held3 (fun W => W.cell? ⟨w.heap.size, 0, none⟩ = some (.int .i64 23) ∧ W.cell? ⟨w.heap.size, 1, none⟩ = some (.int .i64 x) ∧ W.cell? ⟨w.heap.size, 2, none⟩ = some (.int .i64 y) ∧ W.cell? ⟨A, d + 1, none⟩ = some (.int .i64 (u : Int)) ∧ W.cell? ⟨A, p + 1, none⟩ = some (.int .i64 (v : Int)) ∧ W.cell? ⟨bm, om + p, none⟩ = some (.int .i64 (d : Int)) ∧ Below w.heap.size w W)
   (first
    | exact ⟨c1, c2, c3, d1, d2, d3, below_alloc _ _⟩
    | exact ⟨c1, c2, c3, d1, d2, d3, (below_alloc _ _).drew⟩
    | (go_split_ands; exact ⟨keep_cell hb9 (by assumption), keep_cell hb9 (by assumption), keep_cell hb9 (by assumption), keep_cell hb9 (by assumption), keep_cell hb9 (by assumption), keep_cell hb9 (by assumption), keep_below (by assumption) hb9⟩)
    | (go_split_ands; exact ⟨by assumption, by assumption, by assumption, by assumption, by assumption, by assumption, by assumption⟩))
   (first | (go_split_ands; go_at_call 187; refine (CR.out _).mono ?_; rintro e w9 ⟨rfl, hb9⟩))
  go_split_ands
  go_wp2
  go_ret
  exact ⟨by rw [HQ.out]; go_num, by assumption⟩
theorem way_any (hr : RowI w a n L) (hm : Row w a1 n1 (mL L)) (hw : wE L = 0) (hp : p < n) (hA : Wys m L w A n p) (hB : w.cell? ⟨B, 0, none⟩ = some (.bool m)) :
  Calls Tryz.prog 144 #[.int .i64 p, .slice a n c, .slice a1 n1 c1, .slice (some ⟨A, 0, none⟩) n n, .func (.func 145) #[] #[.pointer (some ⟨B, 0, none⟩)]] w
   fun e w' => e = .returned (.int .i64 ((wc m L p : Nat) : Int)) ∧ Below w.heap.size w w' := by
 have hn : n ≤ 200 := by have := wE_len hw; rw [← hr.1] at this; exact this.2
 by_cases h1 : (at_ L p).1 = 22 ∨ (at_ L p).1 = 24 ∨ (at_ L p).1 = 25
 ·exact way_stop a a1 n c n1 c1 A B m L p w hr hp h1
 ·by_cases h2 : (at_ L p).1 = 21
  ·exact way_open a a1 n c n1 c1 A B m L p w hr hm hn hw hp hA (Or.inl h2)
  ·by_cases h3 : (at_ L p).1 = 23
   ·exact way_open a a1 n c n1 c1 A B m L p w hr hm hn hw hp hA (Or.inr h3)
   ·by_cases h4 : (at_ L p).1 = 19
    ·exact way_jump a a1 n c n1 c1 A B m L p w hr hn hw hp hA h4
    ·by_cases h5 : (at_ L p).1 = 20
     ·exact way_branch a a1 n c n1 c1 A B m L p w hr hn hw hp hA hB h5
     ·exact way_else a a1 n c n1 c1 A B m L p w hr hn hw hp hA h1 h2 h3 h4 h5
end
end Go.Proofs.YtngehojibcmieaaGreatDoor
end
end
