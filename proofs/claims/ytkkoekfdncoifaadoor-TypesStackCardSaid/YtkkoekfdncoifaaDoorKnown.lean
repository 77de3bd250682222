/- What is proved here: what must come of fixed calls (known). Condition: the table of names holds what its initialiser lays ('Nms'). -/
import Derived.Test.YtkkoekfdncoifaaDoorDp
import Derived.Test.YtkkoekfdncoifaaDoorTk
namespace Go.Proofs.YtkkoekfdncoifaaDoor
open Go.ChangeShapes Go.WideShapes Go.RowKit Go.Maps

/-- The rows of the fixed calls. -/
def j1 : List (Int × Int × Int) := [(1, 1, 0), (15, 0, 0), (5, 11, 0), (20, 0, 0), (25, 0, 0)]
def j2 : List (Int × Int × Int) := [(1, 1, 0), (10, 0, 0), (25, 0, 0)]
def j3 : List (Int × Int × Int) := [(19, 1, 0), (3, 0, 0), (25, 0, 0)]
def j4 : List (Int × Int × Int) := [(3, 0, 0), (25, 0, 0)]
theorem j1a : tA j1 = [[], [105], [105, 105], [98], []] := by decide +kernel
theorem j1e : tE j1 = 0 := by decide +kernel
theorem j1d : dA j1 = 2 := by decide +kernel
theorem j2e : tE j2 = 10 := by decide +kernel
theorem j3e : tE j3 = 8 := by decide +kernel
theorem j4e : tE j4 = 9 := by decide +kernel
theorem t5 : tkI (5, 11, 0) = [105, 105] := by decide +kernel
theorem g5 : gvI (5, 11, 0) [105, 105] = [98] := by decide +kernel
theorem g4 : gvI (4, 0, 0) [105, 98] = [98, 105] := by decide +kernel
theorem g5b : gvI (5, 11, 0) [105, 98] = [] := by decide +kernel
theorem lit_texts (W : World) (cs : Array Value) (P : List (List UInt8)) (n : Nat) (hn : n = P.length) (h : cs.toList = cellsS P) (hl : P.length ≤ 1000) : RowS (W.alloc (.cells cs 9)) (some ⟨W.heap.size, 0, none⟩) n P := by
  subst hn
  have hs : cs.size = P.length * 1 := by have := congrArg List.length h; rw [cellsS, List.length_map] at this; simpa using this
  have := World.ownsRow_lit (base := 0) (e := 9) (size := 1) W cs P.length (by omega) (by unfold maxLen; omega) hs
  rw [h] at this
  obtain ⟨a, c, hv, hr⟩ := RowS.own this
  cases hv
  exact hr
theorem stacks_at {a : Option Addr} {n c : Nat} {L : List (Int × Int × Int)} {l : List (List UInt8)} {x : Int} (h1 : tA L = l) (h2 : tE L = x) (w : World) (hr : RowI w a n L) (hN : Nms w) : Calls Tryd.prog 9 #[.slice a n c] w (GotT l x w) := by
  rw [← h1, ← h2]; exact stacks_any a n c L w hr hN
theorem deep_at {a : Option Addr} {n c d : Nat} {L : List (Int × Int × Int)} {x : Int} (h1 : dA L = d) (h2 : tE L = x) (w : World) (hr : RowI w a n L) (hN : Nms w) : Calls Tryd.prog 11 #[.slice a n c] w fun e w' => e = .returned (.tuple #[.int .i64 d, .int .i64 x]) ∧ Below w.heap.size w w' := by
  rw [← h1, ← h2]; exact deep_any a n c L w hr hN
theorem takes_at {o x y : Int} {l : List UInt8} (h : tkI (o, x, y) = l) (w : World) (hN : Nms w) : Calls Tryd.prog 15 #[.agg #[.int .i64 o, .int .i64 x, .int .i64 y]] w fun e w' => e = .returned (.string (bs l)) ∧ Below w.heap.size w w' := by
  rw [← h]; exact takes_any o x y w hN
theorem gives_at {o x y : Int} {t l : List UInt8} (h : gvI (o, x, y) t = l) (ht : t.length ≤ 1000) (w : World) (hN : Nms w) : Calls Tryd.prog 16 #[.agg #[.int .i64 o, .int .i64 x, .int .i64 y], .string (bs t)] w fun e w' => e = .returned (.string (bs l)) ∧ Below w.heap.size w w' := by
  rw [← h]; exact gives_any o x y t ht w hN
set_option maxHeartbeats 2000000 in
set_option maxRecDepth 100000 in
theorem known_any (w : World) (hN : Nms w) : Calls Tryd.prog 8 #[] w fun e w' => e = .returned (.bool true) ∧ Below w.heap.size w w' := by
  have HN := Lib.hid hN
  clear hN
  have s1 : ((bs [105, 105]).toList == [105, 105]) = true := by rw [bs_toList]; rfl
  have s2 : ((bs [98]).toList == [98]) = true := by rw [bs_toList]; rfl
  have s3 : ((bs [98, 105]).toList == [98, 105]) = true := by rw [bs_toList]; rfl
  have s4 : ((bs []).toList == []) = true := by rw [bs_toList]; rfl
  have r1 : (bs [105, 105]).toList = [105, 105] := bs_toList _
  have r2 : (bs [98]).toList = [98] := bs_toList _
  have r3 : (bs [98, 105]).toList = [98, 105] := bs_toList _
  have r4 : (bs []).toList = [] := bs_toList _
  go_enter Tryd.func8, Tryd.ntmps8
  go_wp2_with fail
  have D0 := below_alloc w (.cells #[.int .i64 1, .int .i64 1, .int .i64 0, .int .i64 15, .int .i64 0, .int .i64 0, .int .i64 5, .int .i64 11, .int .i64 0, .int .i64 20, .int .i64 0, .int .i64 0, .int .i64 25, .int .i64 0, .int .i64 0] 37)
  have R0 := lit_row w #[.int .i64 1, .int .i64 1, .int .i64 0, .int .i64 15, .int .i64 0, .int .i64 0, .int .i64 5, .int .i64 11, .int .i64 0, .int .i64 20, .int .i64 0, .int .i64 0, .int .i64 25, .int .i64 0, .int .i64 0] j1 5 rfl rfl (by decide)
  have c0 := Lib.cell_of_heap (new_block w (.cells #[.int .i64 1, .int .i64 1, .int .i64 0, .int .i64 15, .int .i64 0, .int .i64 0, .int .i64 5, .int .i64 11, .int .i64 0, .int .i64 20, .int .i64 0, .int .i64 0, .int .i64 25, .int .i64 0, .int .i64 0] 37))
  have q6 := (c0 6).trans (rfl : _ = some (Value.int .i64 5))
  have q7 := (c0 7).trans (rfl : _ = some (Value.int .i64 11))
  have q8 := (c0 8).trans (rfl : _ = some (Value.int .i64 0))
  clear c0
  refine (stacks_at j1a j1e _ R0 (HN.out.below D0)).mono ?_
  rintro e w1 ⟨a1, n1, c1, rfl, T1, B1⟩
  have D1 := keep_below D0 B1
  have R1 := R0.below B1
  replace q6 := keep_cell B1 q6
  replace q7 := keep_cell B1 q7
  replace q8 := keep_cell B1 q8
  clear D0 R0 B1
  go_wp2_with fail
  refine (deep_at j1d j1e _ R1 (HN.out.below D1)).mono ?_
  rintro e w2 ⟨rfl, B2⟩
  have D2 := keep_below D1 B2
  have T2 := T1.below B2
  replace q6 := keep_cell B2 q6
  replace q7 := keep_cell B2 q7
  replace q8 := keep_cell B2 q8
  clear D1 R1 B2 T1
  go_wp2_with fail
  have G3 := below_alloc w2 (.cells #[.int .i64 1, .int .i64 1, .int .i64 0, .int .i64 10, .int .i64 0, .int .i64 0, .int .i64 25, .int .i64 0, .int .i64 0] 37)
  have R3 := lit_row w2 #[.int .i64 1, .int .i64 1, .int .i64 0, .int .i64 10, .int .i64 0, .int .i64 0, .int .i64 25, .int .i64 0, .int .i64 0] j2 3 rfl rfl (by decide)
  have E3 := keep_below D2 G3
  refine (stacks_at (by unfold tA; rw [j2e]) j2e _ R3 (HN.out.below E3)).mono ?_
  rintro e w3 ⟨a3, n3, c3, rfl, _, B3⟩
  have D3 := keep_below E3 B3
  have T3 := (T2.below G3).below B3
  replace q6 := keep_cell B3 (keep_cell G3 q6)
  replace q7 := keep_cell B3 (keep_cell G3 q7)
  replace q8 := keep_cell B3 (keep_cell G3 q8)
  clear D2 R3 B3 G3 E3 T2
  go_wp2_with fail
  have G4 := below_alloc w3 (.cells #[.int .i64 19, .int .i64 1, .int .i64 0, .int .i64 3, .int .i64 0, .int .i64 0, .int .i64 25, .int .i64 0, .int .i64 0] 37)
  have R4 := lit_row w3 #[.int .i64 19, .int .i64 1, .int .i64 0, .int .i64 3, .int .i64 0, .int .i64 0, .int .i64 25, .int .i64 0, .int .i64 0] j3 3 rfl rfl (by decide)
  have E4 := keep_below D3 G4
  refine (stacks_at (by unfold tA; rw [j3e]) j3e _ R4 (HN.out.below E4)).mono ?_
  rintro e w4 ⟨a4, n4, c4, rfl, _, B4⟩
  have D4 := keep_below E4 B4
  have T4 := (T3.below G4).below B4
  replace q6 := keep_cell B4 (keep_cell G4 q6)
  replace q7 := keep_cell B4 (keep_cell G4 q7)
  replace q8 := keep_cell B4 (keep_cell G4 q8)
  clear D3 R4 B4 G4 E4 T3
  go_wp2_with fail
  have G5 := below_alloc w4 (.cells #[.int .i64 3, .int .i64 0, .int .i64 0, .int .i64 25, .int .i64 0, .int .i64 0] 37)
  have R5 := lit_row w4 #[.int .i64 3, .int .i64 0, .int .i64 0, .int .i64 25, .int .i64 0, .int .i64 0] j4 2 rfl rfl (by decide)
  have E5 := keep_below D4 G5
  refine (stacks_at (by unfold tA; rw [j4e]) j4e _ R5 (HN.out.below E5)).mono ?_
  rintro e w5 ⟨a5, n5, c5, rfl, _, B5⟩
  have D5 := keep_below E5 B5
  have T5 := (T4.below G5).below B5
  replace q6 := keep_cell B5 (keep_cell G5 q6)
  replace q7 := keep_cell B5 (keep_cell G5 q7)
  replace q8 := keep_cell B5 (keep_cell G5 q8)
  clear D4 R5 B5 G5 E5 T4
  go_wp2_with fail
  have G6 := below_alloc w5 (.cells #[.string ⟨#[]⟩, .string ⟨#[105]⟩, .string ⟨#[105, 105]⟩, .string ⟨#[98]⟩, .string ⟨#[]⟩] 9)
  have R6 := lit_texts w5 #[.string ⟨#[]⟩, .string ⟨#[105]⟩, .string ⟨#[105, 105]⟩, .string ⟨#[98]⟩, .string ⟨#[]⟩] [[], [105], [105, 105], [98], []] 5 rfl rfl (by decide)
  have E6 := keep_below D5 G6
  have hn1 : n1 ≤ 1000000 := by have := T5.1; simp at this; omega
  refine (same_any _ _ _ _ _ _ _ _ (T5.below G6) R6 hn1).mono ?_
  rintro e w6 ⟨rfl, B6⟩
  have D6 := keep_below E6 B6
  replace q6 := keep_cell B6 (keep_cell G6 q6)
  replace q7 := keep_cell B6 (keep_cell G6 q7)
  replace q8 := keep_cell B6 (keep_cell G6 q8)
  clear D5 R6 B6 G6 E6 T5 hn1
  go_wp2_with fail
  refine (takes_at t5 _ (HN.out.below D6)).mono ?_
  rintro e w7 ⟨rfl, B7⟩
  have D7 := keep_below D6 B7
  replace q6 := keep_cell B7 q6
  replace q7 := keep_cell B7 q7
  replace q8 := keep_cell B7 q8
  clear D6 B7
  go_wp2_with fail
  refine (gives_at g5 (by decide) _ (HN.out.below D7)).mono ?_
  rintro e w8 ⟨rfl, B8⟩
  have D8 := keep_below D7 B8
  replace q6 := keep_cell B8 q6
  replace q7 := keep_cell B8 q7
  replace q8 := keep_cell B8 q8
  clear D7 B8
  go_wp2_with fail
  refine (gives_at g4 (by decide) _ (HN.out.below D8)).mono ?_
  rintro e w9 ⟨rfl, B9⟩
  have D9 := keep_below D8 B9
  replace q6 := keep_cell B9 q6
  replace q7 := keep_cell B9 q7
  replace q8 := keep_cell B9 q8
  clear D8 B9
  go_wp2_with fail
  refine (gives_at g5b (by decide) _ (HN.out.below D9)).mono ?_
  rintro e w10 ⟨rfl, B10⟩
  have D10 := keep_below D9 B10
  clear q6 q7 q8
  go_wp2
  go_ret
  exact ⟨rfl, D10⟩
end Go.Proofs.YtkkoekfdncoifaaDoor
