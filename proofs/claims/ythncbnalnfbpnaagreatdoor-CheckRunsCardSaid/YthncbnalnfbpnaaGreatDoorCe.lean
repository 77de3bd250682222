/- What is proved here: contracts of the document's Same at slices of ints, and of the law's simple. Conditions: rows are not too long. -/
import Derived.Test.YthncbnalnfbpnaaGreatDoorCd
namespace Go.Proofs.YthncbnalnfbpnaaGreatDoor
open Go.ChangeShapes Go.WideShapes Go.RowKit

set_option maxHeartbeats 1000000 in
set_option maxRecDepth 100000 in
theorem sameI_any (a b : Option Addr) (n m c d : Nat) (L M : List Int) (w : World) (ha : Row w a n L) (hb : Row w b m M) (hn : n ≤ 140737488355328) (hm : m ≤ 140737488355328) (R : Bool) (hR : decide (L = M) = R) :
    Calls Tryz.prog 16 #[.slice a n c, .slice b m d] w fun e w' => e = .returned (.bool R) ∧ Below w.heap.size w w' := by
  have HR := Lib.hid hR
  clear hR
  by_cases hnm : n ≠ m
  · have HQ : Hid (decide (L = M) = false) := by
      show _ = _
      rw [decide_eq_false_iff_not]
      rintro rfl
      exact hnm (ha.1.trans hb.1.symm)
    have e1 : (n == m) = false := by rw [beq_eq_false_iff_ne]; exact hnm
    have e2 : ((n : Int) == (m : Int)) = false := by rw [beq_eq_false_iff_ne]; omega
    have e3 : (n != m) = true := by simpa using hnm
    have e4 : ((n : Int) != (m : Int)) = true := by simpa [bne] using e2
    clear ha hb hnm
    go_enter Tryz.func16, Tryz.ntmps16
    go_wp2
    go_ret
    exact ⟨by rw [← HR.out, HQ.out]; rfl, Below.refl _ _⟩
  obtain rfl : n = m := by omega
  clear hnm
  have HL := Lib.hid ha.1
  have HM := Lib.hid hb.1
  go_enter Tryz.func16, Tryz.ntmps16
  go_wp2
  go_loopw [5] (fun i wr => ∃ k : Nat, k ≤ n ∧ i = .int .i64 k ∧ Hid (L.take k = M.take k) ∧ Below w.heap.size w wr) (fun i _ => n - (intOf i).toNat)
  case atStart => exact ⟨0, by omega, rfl, rfl, Below.refl _ _⟩
  case round =>
    obtain ⟨k, hk, rfl, HT, hbl⟩ := hrel
    by_cases hlt : k < n
    · obtain ⟨b1, o1, p1, rfl, hB1, hx, hc1⟩ := (ha.below hbl).item hlt
      obtain ⟨b2, o2, q1, rfl, hB2, hy, hd1⟩ := (hb.below hbl).item hlt
      have HX := Lib.hid hx
      have HY := Lib.hid hy
      clear hx hy
      by_cases g1 : p1 = q1
      · subst g1
        have HT2 := Lib.hid (itake_same HX.out HY.out HT.out)
        clear HX HY HT
        go_wp2
        go_quiet (fail)
        go_wp2
        go_roundw
        case rel => exact ⟨k + 1, by omega, by go_num, HT2, hbl.trans ⟨rfl, rfl, rfl, Nat.le_refl _, fun _ _ => rfl⟩⟩
        case measure => simp [intOf]; omega
      · have HQ := Lib.hid (irow_ne HX.out HY.out g1)
        have e1 : (p1 == q1) = false := by rw [beq_eq_false_iff_ne]; exact g1
        clear HX HY HT g1
        go_wp2
        go_quiet (fail)
        go_wp2
        go_ret
        exact ⟨by rw [← HR.out, HQ.out]; rfl, hbl.trans ⟨rfl, rfl, rfl, Nat.le_refl _, fun _ _ => rfl⟩⟩
    · have HQ : Hid (decide (L = M) = true) := by
        show _ = _
        rw [decide_eq_true_iff]
        have := HT.out
        rw [List.take_of_length_le (by rw [← HL.out]; omega), List.take_of_length_le (by rw [← HM.out]; omega)] at this
        exact this
      go_wp2
      go_ret
      exact ⟨by rw [← HR.out, HQ.out]; rfl, hbl⟩
/-- The image of the fixed calls. -/
def simpleP (bl : List Int) (co : List (Int × Int × Int)) : ImP := ⟨2, 1, 3, 1, [0], [[7], [8, 9]], [⟨3, 100, 50, 0, bl, [0], co⟩]⟩
theorem cell_new (w : World) (cs : Array Value) (t : TypeId) (j : Nat) (v : Value) (h : cs.toList[j]? = some v) : (w.alloc (.cells cs t)).cell? ⟨w.heap.size, j, none⟩ = some v := cells_new w cs t j v h
set_option maxRecDepth 100000 in
theorem simple_is (w : World) (cs0 : Array Value) (t0 : TypeId) (a1 a2 : Option Addr) (n1 c1 n2 c2 : Nat) (bl : List Int) (co : List (Int × Int × Int)) (h1 : Row w a1 n1 bl) (h2 : RowI w a2 n2 co) (q1 : n1 ≤ 1000) (q2 : n2 ≤ 1000) :
    ImV.Is (((((((w.alloc (.cells cs0 t0)).alloc (.cells #[.int .i64 0] 3)).alloc (.cells #[.int .i64 7] 3)).alloc (.cells #[.int .i64 8, .int .i64 9] 3)).alloc (.cells #[.slice (some ⟨w.heap.size + 1 + 1, 0, none⟩) 1 1, .slice (some ⟨w.heap.size + 1 + 1 + 1, 0, none⟩) 2 2] 22)).alloc (.cells #[.int .i64 0] 3)).alloc (.cells #[.int .i64 3, .int .i64 100, .int .i64 50, .int .i64 0, .slice a1 n1 c1, .slice (some ⟨w.heap.size + 1 + 1 + 1 + 1 + 1, 0, none⟩) 1 1, .slice a2 n2 c2] 52))
      ⟨2, 1, 3, 1, ⟨some ⟨w.heap.size + 1, 0, none⟩, 1, 1⟩, ⟨some ⟨w.heap.size + 1 + 1 + 1 + 1, 0, none⟩, 2, 2⟩, ⟨some ⟨w.heap.size + 1 + 1 + 1 + 1 + 1 + 1, 0, none⟩, 1, 1⟩⟩ (simpleP bl co) ∧
    Below w.heap.size w (((((((w.alloc (.cells cs0 t0)).alloc (.cells #[.int .i64 0] 3)).alloc (.cells #[.int .i64 7] 3)).alloc (.cells #[.int .i64 8, .int .i64 9] 3)).alloc (.cells #[.slice (some ⟨w.heap.size + 1 + 1, 0, none⟩) 1 1, .slice (some ⟨w.heap.size + 1 + 1 + 1, 0, none⟩) 2 2] 22)).alloc (.cells #[.int .i64 0] 3)).alloc (.cells #[.int .i64 3, .int .i64 100, .int .i64 50, .int .i64 0, .slice a1 n1 c1, .slice (some ⟨w.heap.size + 1 + 1 + 1 + 1 + 1, 0, none⟩) 1 1, .slice a2 n2 c2] 52)) := by
  have B0 := below_alloc w (.cells cs0 t0)
  have s0 : (w.alloc (.cells cs0 t0)).heap.size = w.heap.size + 1 := by simp
  rw [← s0]
  replace h1 := h1.below B0
  replace h2 := h2.below B0
  generalize w.alloc (.cells cs0 t0) = W0 at *
  have r1 := lit_ints W0 #[.int .i64 0] [0] 1 rfl rfl (by decide)
  have B1 := below_alloc W0 (.cells #[.int .i64 0] 3)
  have s1 : (W0.alloc (.cells #[.int .i64 0] 3)).heap.size = W0.heap.size + 1 := by simp
  rw [← s1]
  replace h1 := h1.below B1
  replace h2 := h2.below B1
  replace B1 := keep_below B0 B1
  generalize W0.alloc (.cells #[.int .i64 0] 3) = W1 at *
  have r2 := lit_ints W1 #[.int .i64 7] [7] 1 rfl rfl (by decide)
  have B2 := below_alloc W1 (.cells #[.int .i64 7] 3)
  have s2 : (W1.alloc (.cells #[.int .i64 7] 3)).heap.size = W1.heap.size + 1 := by simp
  rw [← s2]
  replace h1 := h1.below B2
  replace h2 := h2.below B2
  replace r1 := r1.below B2
  replace B2 := keep_below B1 B2
  generalize W1.alloc (.cells #[.int .i64 7] 3) = W2 at *
  have r3 := lit_ints W2 #[.int .i64 8, .int .i64 9] [8, 9] 2 rfl rfl (by decide)
  have B3 := below_alloc W2 (.cells #[.int .i64 8, .int .i64 9] 3)
  have s3 : (W2.alloc (.cells #[.int .i64 8, .int .i64 9] 3)).heap.size = W2.heap.size + 1 := by simp
  rw [← s3]
  replace h1 := h1.below B3
  replace h2 := h2.below B3
  replace r1 := r1.below B3
  replace r2 := r2.below B3
  replace B3 := keep_below B2 B3
  generalize W2.alloc (.cells #[.int .i64 8, .int .i64 9] 3) = W3 at *
  have k4 := cell_new W3 #[.slice (some ⟨W1.heap.size, 0, none⟩) 1 1, .slice (some ⟨W2.heap.size, 0, none⟩) 2 2] 22
  have B4 := below_alloc W3 (.cells #[.slice (some ⟨W1.heap.size, 0, none⟩) 1 1, .slice (some ⟨W2.heap.size, 0, none⟩) 2 2] 22)
  have s4 : (W3.alloc (.cells #[.slice (some ⟨W1.heap.size, 0, none⟩) 1 1, .slice (some ⟨W2.heap.size, 0, none⟩) 2 2] 22)).heap.size = W3.heap.size + 1 := by simp
  rw [← s4]
  replace h1 := h1.below B4
  replace h2 := h2.below B4
  replace r1 := r1.below B4
  replace r2 := r2.below B4
  replace r3 := r3.below B4
  replace B4 := keep_below B3 B4
  generalize W3.alloc (.cells #[.slice (some ⟨W1.heap.size, 0, none⟩) 1 1, .slice (some ⟨W2.heap.size, 0, none⟩) 2 2] 22) = W4 at *
  have R4 : RowR W4 (some ⟨W3.heap.size, 0, none⟩) 2 [[7], [8, 9]] := by
    refine ⟨rfl, fun _ => ⟨_, _, rfl, by omega, fun i hi => ?_⟩⟩
    rcases (show i = 0 ∨ i = 1 by omega) with rfl | rfl
    · exact ⟨⟨some ⟨W1.heap.size, 0, none⟩, 1, 1⟩, k4 0 _ rfl, r2, by dsimp only; omega⟩
    · exact ⟨⟨some ⟨W2.heap.size, 0, none⟩, 2, 2⟩, k4 1 _ rfl, r3, by dsimp only; omega⟩
  have r5 := lit_ints W4 #[.int .i64 0] [0] 1 rfl rfl (by decide)
  have B5 := below_alloc W4 (.cells #[.int .i64 0] 3)
  have s5 : (W4.alloc (.cells #[.int .i64 0] 3)).heap.size = W4.heap.size + 1 := by simp
  rw [← s5]
  replace h1 := h1.below B5
  replace h2 := h2.below B5
  replace r1 := r1.below B5
  replace R4 := R4.below B5
  replace B5 := keep_below B4 B5
  generalize W4.alloc (.cells #[.int .i64 0] 3) = W5 at *
  have k6 := cell_new W5 #[.int .i64 3, .int .i64 100, .int .i64 50, .int .i64 0, .slice a1 n1 c1, .slice (some ⟨W4.heap.size, 0, none⟩) 1 1, .slice a2 n2 c2] 52
  have B6 := below_alloc W5 (.cells #[.int .i64 3, .int .i64 100, .int .i64 50, .int .i64 0, .slice a1 n1 c1, .slice (some ⟨W4.heap.size, 0, none⟩) 1 1, .slice a2 n2 c2] 52)
  have s6 : (W5.alloc (.cells #[.int .i64 3, .int .i64 100, .int .i64 50, .int .i64 0, .slice a1 n1 c1, .slice (some ⟨W4.heap.size, 0, none⟩) 1 1, .slice a2 n2 c2] 52)).heap.size = W5.heap.size + 1 := by simp
  replace h1 := h1.below B6
  replace h2 := h2.below B6
  replace r1 := r1.below B6
  replace R4 := R4.below B6
  replace r5 := r5.below B6
  replace B6 := keep_below B5 B6
  generalize W5.alloc (.cells #[.int .i64 3, .int .i64 100, .int .i64 50, .int .i64 0, .slice a1 n1 c1, .slice (some ⟨W4.heap.size, 0, none⟩) 1 1, .slice a2 n2 c2] 52) = W6 at *
  refine ⟨⟨rfl, rfl, rfl, rfl, ⟨r1, by dsimp only; omega⟩, ⟨R4, by dsimp only; omega⟩, ⟨⟨rfl, fun _ => ⟨_, _, rfl, by omega, fun i hi => ?_⟩⟩, by dsimp only; omega⟩⟩, B6⟩
  obtain rfl : i = 0 := by have : i < 1 := hi; omega
  refine ⟨⟨3, 100, 50, 0, ⟨a1, n1, c1⟩, ⟨some ⟨W4.heap.size, 0, none⟩, 1, 1⟩, ⟨a2, n2, c2⟩⟩, ⟨3, 100, 50, 0, bl, [0], co⟩, rfl, ⟨rfl, rfl, rfl, rfl, ⟨h1, by show n1 ≤ _; omega⟩, ⟨r5, by dsimp only; omega⟩, ⟨h2, by show n2 ≤ _; omega⟩⟩, fun j v hj => ?_⟩
  have := k6 j v hj
  rw [show 0 + 0 * 7 + j = j by omega]
  exact this
set_option maxHeartbeats 1000000 in
set_option maxRecDepth 100000 in
theorem simple_any (a1 a2 : Option Addr) (n1 c1 n2 c2 : Nat) (bl : List Int) (co : List (Int × Int × Int)) (w : World) (h1 : Row w a1 n1 bl) (h2 : RowI w a2 n2 co) (q1 : n1 ≤ 1000) (q2 : n2 ≤ 1000) :
    Calls Tryz.prog 24 #[.slice a1 n1 c1, .slice a2 n2 c2] w fun e w' => ∃ s b t : Sl, e = .returned (.agg #[.int .i64 2, .int .i64 1, .int .i64 3, .int .i64 1, .slice s.a s.n s.c, .slice b.a b.n b.c, .slice t.a t.n t.c]) ∧ ImV.Is w' ⟨2, 1, 3, 1, s, b, t⟩ (simpleP bl co) ∧ Below w.heap.size w w' := by
  have H := Lib.hid (fun cs0 t0 => simple_is w cs0 t0 a1 a2 n1 c1 n2 c2 bl co h1 h2 q1 q2)
  clear h1 h2 q1 q2
  go_enter Tryz.func24, Tryz.ntmps24
  go_wp2
  refine bodyPost_ret (v := .agg #[.int .i64 2, .int .i64 1, .int .i64 3, .int .i64 1, .slice (some ⟨w.heap.size + 1, 0, none⟩) 1 1, .slice (some ⟨w.heap.size + 1 + 1 + 1 + 1, 0, none⟩) 2 2, .slice (some ⟨w.heap.size + 1 + 1 + 1 + 1 + 1 + 1, 0, none⟩) 1 1]) (by simp [results, Tryz.results24, go_sem]) rfl ⟨⟨some ⟨w.heap.size + 1, 0, none⟩, 1, 1⟩, ⟨some ⟨w.heap.size + 1 + 1 + 1 + 1, 0, none⟩, 2, 2⟩, ⟨some ⟨w.heap.size + 1 + 1 + 1 + 1 + 1 + 1, 0, none⟩, 1, 1⟩, rfl, (H.out _ _).1, (H.out _ _).2⟩
end Go.Proofs.YthncbnalnfbpnaaGreatDoor
