/- What is proved here: contracts of cost.wayFrom. Conditions: those each theorem states. -/
import Derived.Test.YtacgnofmccennaaGreatDoorCt
namespace Go.Proofs.YtacgnofmccennaaGreatDoor
open Go.ChangeShapes Go.WideShapes Go.RowKit

theorem at_some' {L : List (Int × Int × Int)} {k : Nat} {x : Int × Int × Int} (h : L[k]? = some x) : at_ L k = x := by
  unfold at_; rw [List.getD_eq_getElem?_getD, h]; rfl
/-- The steps by those of the places behind, cut off. -/
def wc (m : Bool) (L : List (Int × Int × Int)) (p : Nat) : Nat := wv m L (fun q => cut (ub m L q)) p
/-- What wayFrom needs of the memory. -/
def Wys (m : Bool) (L : List (Int × Int × Int)) (w : World) (A n p : Nat) : Prop := ∀ q, p < q → q < n → w.cell? ⟨A, q, none⟩ = some (.int .i64 ((cut (ub m L q) : Nat) : Int))

section
variable (a a1 : Option Addr) (n c n1 c1 A B : Nat) (m : Bool) (L : List (Int × Int × Int)) (p : Nat) (w : World)

theorem way_stop (hr : RowI w a n L) (hp : p < n) (ho : (at_ L p).1 = 22 ∨ (at_ L p).1 = 24 ∨ (at_ L p).1 = 25) :
    Calls Tryz.prog 62 #[.int .i64 p, .slice a n c, .slice a1 n1 c1, .slice (some ⟨A, 0, none⟩) n n, .func (.func 63) #[] #[.pointer (some ⟨B, 0, none⟩)]] w
      fun e w' => e = .returned (.int .i64 ((wc m L p : Nat) : Int)) ∧ Below w.heap.size w w' := by
  have HQ : Hid (wc m L p = 0) := by show _ = _; unfold wc wv; rw [if_pos ho]
  obtain ⟨b1, o1, o, x, y, rfl, hB1, hx, hc1, hc2, hc3⟩ := hr.at_ hp
  rw [at_some' hx] at ho
  simp only at ho
  clear hr hx
  rcases ho with rfl | rfl | rfl
  all_goals
    go_enter Tryz.func62, Tryz.ntmps62
    go_wp2
    go_ret
    exact ⟨by rw [HQ.out]; rfl, below_alloc _ _⟩
theorem way_else (hr : RowI w a n L) (hn : n ≤ 200) (hw : wE L = 0) (hp : p < n) (hA : Wys m L w A n p)
    (h1 : ¬ ((at_ L p).1 = 22 ∨ (at_ L p).1 = 24 ∨ (at_ L p).1 = 25)) (h2 : (at_ L p).1 ≠ 21) (h3 : (at_ L p).1 ≠ 23) (h4 : (at_ L p).1 ≠ 19) (h5 : (at_ L p).1 ≠ 20) :
    Calls Tryz.prog 62 #[.int .i64 p, .slice a n c, .slice a1 n1 c1, .slice (some ⟨A, 0, none⟩) n n, .func (.func 63) #[] #[.pointer (some ⟨B, 0, none⟩)]] w
      fun e w' => e = .returned (.int .i64 ((wc m L p : Nat) : Int)) ∧ Below w.heap.size w w' := by
  have hnext : p + 1 < n := by
    have := (ends_iff.1 (wE_zero hw).2.1 p (by rw [← hr.1]; exact hp)).2
    have := hr.1
    omega
  obtain ⟨u, hu⟩ : ∃ u, u = cut (ub m L (p + 1)) := ⟨_, rfl⟩
  have hub : u ≤ 1048577 := by rw [hu]; exact cut_le _
  have hq := hA (p + 1) (by omega) hnext
  have HQ : Hid (wc m L p = 1 + u) := by show _ = _; unfold wc wv; rw [if_neg h1, if_neg h2, if_neg h3, if_neg h4, if_neg h5, hu]
  rw [← hu] at hq
  have hA1 : A < w.heap.size := cell_lt hq
  obtain ⟨b1, o1, o, x, y, rfl, hB1, hx, hc1, hc2, hc3⟩ := hr.at_ hp
  rw [at_some' hx] at h1 h2 h3 h4 h5
  simp only at h1 h2 h3 h4 h5
  have f1 : (o == 22) = false := by rw [beq_eq_false_iff_ne]; omega
  have f2 : (o == 24) = false := by rw [beq_eq_false_iff_ne]; omega
  have f3 : (o == 25) = false := by rw [beq_eq_false_iff_ne]; omega
  have f4 : (o == 21) = false := by rw [beq_eq_false_iff_ne]; omega
  have f5 : (o == 23) = false := by rw [beq_eq_false_iff_ne]; omega
  have f6 : (o == 19) = false := by rw [beq_eq_false_iff_ne]; omega
  have f7 : (o == 20) = false := by rw [beq_eq_false_iff_ne]; omega
  clear hr hx hu hA h1 h2 h3 h4 h5 hw
  go_enter Tryz.func62, Tryz.ntmps62
  go_wp2
  go_ret
  exact ⟨by rw [HQ.out]; go_num, below_alloc _ _⟩
theorem way_jump (hr : RowI w a n L) (hn : n ≤ 200) (hw : wE L = 0) (hp : p < n) (hA : Wys m L w A n p) (h4 : (at_ L p).1 = 19) :
    Calls Tryz.prog 62 #[.int .i64 p, .slice a n c, .slice a1 n1 c1, .slice (some ⟨A, 0, none⟩) n n, .func (.func 63) #[] #[.pointer (some ⟨B, 0, none⟩)]] w
      fun e w' => e = .returned (.int .i64 ((wc m L p : Nat) : Int)) ∧ Below w.heap.size w w' := by
  have hpl : p < L.length := by rw [← hr.1]; exact hp
  have hled := (jmps_iff.1 (wE_zero hw).2.2 p hpl (by unfold jmp; rw [h4]; rfl)).1
  rw [← hr.1] at hled
  have hrx := right_jump (can_right (mE_zero (wE_zero hw).1).1 hpl) (by unfold jmp; rw [h4]; rfl)
  obtain ⟨u, hu⟩ : ∃ u, u = cut (ub m L (led L p)) := ⟨_, rfl⟩
  have hub : u ≤ 1048577 := by rw [hu]; exact cut_le _
  have hq := hA (led L p) (led_gt L p) hled
  have HQ : Hid (wc m L p = 1 + u) := by show _ = _; unfold wc wv; rw [if_neg (by omega), if_neg (by omega), if_neg (by omega), if_pos h4, hu]
  rw [← hu] at hq
  have hA1 : A < w.heap.size := cell_lt hq
  obtain ⟨b1, o1, o, x, y, rfl, hB1, hx, hc1, hc2, hc3⟩ := hr.at_ hp
  unfold led at hq hled
  rw [at_some' hx] at h4 hq hled hrx
  simp only at h4 hq hled hrx
  subst h4
  obtain ⟨k, rfl⟩ : ∃ k : Nat, x = k := ⟨x.toNat, by omega⟩
  rw [Int.toNat_natCast] at hq hled
  clear hr hx hu hA hw hpl
  go_enter Tryz.func62, Tryz.ntmps62
  go_wp2
  go_ret
  exact ⟨by rw [HQ.out]; go_num, below_alloc _ _⟩
set_option maxRecDepth 100000 in
theorem way_branch (hr : RowI w a n L) (hn : n ≤ 200) (hw : wE L = 0) (hp : p < n) (hA : Wys m L w A n p) (hB : w.cell? ⟨B, 0, none⟩ = some (.bool m)) (h4 : (at_ L p).1 = 20) :
    Calls Tryz.prog 62 #[.int .i64 p, .slice a n c, .slice a1 n1 c1, .slice (some ⟨A, 0, none⟩) n n, .func (.func 63) #[] #[.pointer (some ⟨B, 0, none⟩)]] w
      fun e w' => e = .returned (.int .i64 ((wc m L p : Nat) : Int)) ∧ Below w.heap.size w w' := by
  have hpl : p < L.length := by rw [← hr.1]; exact hp
  have hnext : p + 1 < n := by
    have := (ends_iff.1 (wE_zero hw).2.1 p hpl).2
    have := hr.1
    omega
  have hled := (jmps_iff.1 (wE_zero hw).2.2 p hpl (by unfold jmp; rw [h4]; rfl)).1
  rw [← hr.1] at hled
  have hrx := right_jump (can_right (mE_zero (wE_zero hw).1).1 hpl) (by unfold jmp; rw [h4]; rfl)
  obtain ⟨u, hu⟩ : ∃ u, u = cut (ub m L (led L p)) := ⟨_, rfl⟩
  have hub : u ≤ 1048577 := by rw [hu]; exact cut_le _
  have hq := hA (led L p) (led_gt L p) hled
  obtain ⟨v, hv⟩ : ∃ v, v = cut (ub m L (p + 1)) := ⟨_, rfl⟩
  have hvb : v ≤ 1048577 := by rw [hv]; exact cut_le _
  have hq2 := hA (p + 1) (by omega) hnext
  obtain ⟨r, hrr⟩ : ∃ r, r = of_ m v u := ⟨_, rfl⟩
  have hrb : r ≤ 1048577 := by rw [hrr]; unfold of_; split <;> omega
  have HQ : Hid (wc m L p = 1 + r) := by show _ = _; unfold wc wv; rw [if_neg (by omega), if_neg (by omega), if_neg (by omega), if_neg (by omega), if_pos h4, hrr, hu, hv]
  rw [← hu] at hq
  rw [← hv] at hq2
  have hA1 : A < w.heap.size := cell_lt hq
  have hB2 : B < w.heap.size := cell_lt hB
  have CB := Lib.hid (fun (W : World) (h : W.cell? ⟨B, 0, none⟩ = some (.bool m)) => hrr ▸ bet_any m v u W B h)
  obtain ⟨b1, o1, o, x, y, rfl, hB1, hx, hc1, hc2, hc3⟩ := hr.at_ hp
  unfold led at hq hled
  rw [at_some' hx] at h4 hq hled hrx
  simp only at h4 hq hled hrx
  subst h4
  obtain ⟨k, rfl⟩ : ∃ k : Nat, x = k := ⟨x.toNat, by omega⟩
  rw [Int.toNat_natCast] at hq hled
  have k0 := new_block w (.cells #[.int .i64 20, .int .i64 (k : Int), .int .i64 y] 51)
  have c1 := (Lib.cell_of_heap k0 1).trans (rfl : _ = some (Value.int .i64 (k : Int)))
  have z1 : (0 : Int) ≤ (p : Int) + 1 := by omega
  have z2 : (p : Int) + 1 < (n : Int) := by omega
  obtain ⟨t, ht⟩ : ∃ t : Nat, t = p + 1 + k := ⟨_, rfl⟩
  rw [← ht] at hq hled
  have z3 : (0 : Int) ≤ (t : Int) := by omega
  have z4 : (t : Int) < (n : Int) := by omega
  have w1 : IntKind.i64.wrap ((p : Int) + 1) = (p : Int) + 1 := IntWalk.i64_in _ (by omega)
  have w2 : IntKind.i64.wrap ((p : Int) + 1 + (k : Int)) = (t : Int) := by rw [IntWalk.i64_in _ (by omega)]; omega
  have w3 : IntKind.i64.wrap (1 + (r : Int)) = 1 + (r : Int) := IntWalk.i64_in _ (by omega)
  have d1 := keep_cell (below_alloc w (.cells #[.int .i64 20, .int .i64 (k : Int), .int .i64 y] 51)) hq
  have d2 := keep_cell (below_alloc w (.cells #[.int .i64 20, .int .i64 (k : Int), .int .i64 y] 51)) hq2
  have d3 := keep_cell (below_alloc w (.cells #[.int .i64 20, .int .i64 (k : Int), .int .i64 y] 51)) hB
  clear hr hx hu hv hA hw hpl hrr k0 hB ht hrx
  go_enter Tryz.func62, Tryz.ntmps62
  go_wp2
  go_region_held3 (fun W => W.cell? ⟨w.heap.size, 1, none⟩ = some (.int .i64 (k : Int)) ∧ W.cell? ⟨A, t, none⟩ = some (.int .i64 (u : Int)) ∧ W.cell? ⟨A, p + 1, none⟩ = some (.int .i64 (v : Int)) ∧ W.cell? ⟨B, 0, none⟩ = some (.bool m) ∧ Below w.heap.size w W)
    (first | exact ⟨c1, d1, d2, d3, below_alloc _ _⟩ | exact ⟨c1, d1, d2, d3, (below_alloc _ _).drew⟩ | (go_split_ands; exact ⟨by assumption, by assumption, by assumption, by assumption, by assumption⟩))
    (first | (go_split_ands; go_at_call 63; refine (CB.out _ (by assumption)).mono ?_; rintro e w9 ⟨rfl, rfl⟩))
  go_split_ands
  go_wp2
  go_ret
  exact ⟨by rw [HQ.out]; go_num, by assumption⟩
end
end Go.Proofs.YtacgnofmccennaaGreatDoor
