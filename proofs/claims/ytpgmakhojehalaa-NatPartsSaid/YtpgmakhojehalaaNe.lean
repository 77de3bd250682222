/- What is proved here: the fixed calls of 'known' come out as asked; contracts of nat's calls at literal rows. Conditions: none. -/
import Derived.Test.YtpgmakhojehalaaNd
namespace Go.Proofs.Ytpgmakhojehalaa
open Go.ChangeShapes Go.WideShapes Go.RowKit

theorem add_at {a : Option Addr} {n c : Nat} {l : List Int} {x y : Int} (h : (addV l, addE l) = (x, y)) (hn : n ≤ 1000) (w : World) (hr : Row w a n l) :
    Calls Try.prog 11 #[.slice a n c] w fun e w' => e = .returned (.tuple #[.int .i64 x, .int .i64 y]) ∧ Below w.heap.size w w' := by
  injection h with h1 h2
  rw [← h1, ← h2]; exact add_any a n c l w hr (by omega)
theorem mul_at {a b x y : Int} (h : (mulV a b, mulE a b) = (x, y)) (w : World) :
    Calls Try.prog 13 #[.int .i64 a, .int .i64 b] w fun e w' => e = .returned (.tuple #[.int .i64 x, .int .i64 y]) ∧ Below w.heap.size w w' := by
  injection h with h1 h2
  rw [← h1, ← h2]; exact mul_any a b w
theorem ceil_at {a b x y : Int} (h : (ceV a b, ceE a b) = (x, y)) (w : World) :
    Calls Try.prog 15 #[.int .i64 a, .int .i64 b] w fun e w' => e = .returned (.tuple #[.int .i64 x, .int .i64 y]) ∧ Below w.heap.size w w' := by
  injection h with h1 h2
  rw [← h1, ← h2]; exact ceil_any a b w
theorem right_at {n : Int} {b : Bool} (h : rt n = b) (w : World) : Calls Try.prog 17 #[.int .i64 n] w fun e w' => e = .returned (.bool b) ∧ w' = w := by rw [← h]; exact right_any n w
theorem most_at {a : Option Addr} {n c : Nat} {l : List Int} {x : Int} (h : mo l = x) (hn : n ≤ 1000) (w : World) (hr : Row w a n l) :
    Calls Try.prog 19 #[.slice a n c] w fun e w' => e = .returned (.int .i64 x) ∧ Below w.heap.size w w' := by rw [← h]; exact most_any a n c l w hr (by omega)
theorem least_at {a : Option Addr} {n c : Nat} {l : List Int} {x : Int} (h : lea l = x) (hn : n ≤ 1000) (w : World) (hr : Row w a n l) :
    Calls Try.prog 21 #[.slice a n c] w fun e w' => e = .returned (.int .i64 x) ∧ Below w.heap.size w w' := by rw [← h]; exact least_any a n c l w hr (by omega)
theorem lit3 (W : World) (x y z : Int) : Row (W.alloc (.cells #[.int .i64 x, .int .i64 y, .int .i64 z] 3)) (some ⟨W.heap.size, 0, none⟩) 3 [x, y, z] := lit_ints W _ _ 3 rfl rfl (by simp)
theorem lit2 (W : World) (x y : Int) : Row (W.alloc (.cells #[.int .i64 x, .int .i64 y] 3)) (some ⟨W.heap.size, 0, none⟩) 2 [x, y] := lit_ints W _ _ 2 rfl rfl (by simp)
theorem keep_lit {w W w9 : World} {o : Obj} (h : Below w.heap.size w W) (hb : Below (W.alloc o).heap.size (W.alloc o) w9) : Below w.heap.size w w9 := keep_below (keep_below h (below_alloc W o)) hb
set_option maxHeartbeats 2000000 in
set_option maxRecDepth 100000 in
theorem known_any (w : World) : Calls Try.prog 10 #[] w fun e w' => e = .returned (.bool true) ∧ Below w.heap.size w w' := by
  have G := Below.refl w.heap.size w
  have A1 := Lib.hid (fun W => add_at (c := 3) (show (addV [1, 2, 3], addE [1, 2, 3]) = (6, 0) by decide +kernel) (by omega) _ (lit3 W 1 2 3))
  have A2 := Lib.hid (fun W => add_at (c := 2) (show (addV [4611686018427387903, 1], addE [4611686018427387903, 1]) = (0, 4) by decide +kernel) (by omega) _ (lit2 W 4611686018427387903 1))
  have A3 := Lib.hid (fun W => add_at (c := 2) (show (addV [1, -1], addE [1, -1]) = (0, 1) by decide +kernel) (by omega) _ (lit2 W 1 (-1)))
  have M1 := Lib.hid (mul_at (show (mulV 2147483648 1073741824, mulE 2147483648 1073741824) = (2305843009213693952, 0) by decide +kernel))
  have M2 := Lib.hid (mul_at (show (mulV 2147483648 2147483648, mulE 2147483648 2147483648) = (0, 4) by decide +kernel))
  have C1 := Lib.hid (ceil_at (show (ceV 7 3, ceE 7 3) = (3, 0) by decide +kernel))
  have C2 := Lib.hid (ceil_at (show (ceV 7 0, ceE 7 0) = (0, 1) by decide +kernel))
  have O1 := Lib.hid (fun W => most_at (c := 3) (show mo [3, 9, -4] = 9 by decide +kernel) (by omega) _ (lit3 W 3 9 (-4)))
  have L1 := Lib.hid (fun W => least_at (c := 3) (show lea [3, 9, -4] = -4 by decide +kernel) (by omega) _ (lit3 W 3 9 (-4)))
  have R1 := Lib.hid (right_at (show rt 0 = true by decide +kernel))
  have R2 := Lib.hid (right_at (show rt 4611686018427387904 = false by decide +kernel))
  go_enter Try.func10, Try.ntmps10
  go_wp2_with fail
  refine (A1.out _).mono ?_; rintro e w1 ⟨rfl, hb⟩
  replace G := keep_lit G hb; clear hb
  go_wp2_with fail
  refine (A2.out _).mono ?_; rintro e w2 ⟨rfl, hb⟩
  replace G := keep_lit G hb; clear hb
  go_wp2_with fail
  refine (A3.out _).mono ?_; rintro e w3 ⟨rfl, hb⟩
  replace G := keep_lit G hb; clear hb
  go_wp2_with fail
  refine (M1.out _).mono ?_; rintro e w4 ⟨rfl, hb⟩
  replace G := keep_below G hb; clear hb
  go_wp2_with fail
  refine (M2.out _).mono ?_; rintro e w5 ⟨rfl, hb⟩
  replace G := keep_below G hb; clear hb
  go_wp2_with fail
  refine (C1.out _).mono ?_; rintro e w6 ⟨rfl, hb⟩
  replace G := keep_below G hb; clear hb
  go_wp2_with fail
  refine (C2.out _).mono ?_; rintro e w7 ⟨rfl, hb⟩
  replace G := keep_below G hb; clear hb
  go_wp2_with fail
  refine (O1.out _).mono ?_; rintro e w8 ⟨rfl, hb⟩
  replace G := keep_lit G hb; clear hb
  go_wp2_with fail
  refine (L1.out _).mono ?_; rintro e w9 ⟨rfl, hb⟩
  replace G := keep_lit G hb; clear hb
  go_wp2_with fail
  refine (R1.out _).mono ?_; rintro e w10 ⟨rfl, rfl⟩
  go_wp2_with fail
  refine (R2.out _).mono ?_; rintro e w11 ⟨rfl, rfl⟩
  go_wp2
  go_ret
  exact ⟨rfl, G⟩
end Go.Proofs.Ytpgmakhojehalaa
