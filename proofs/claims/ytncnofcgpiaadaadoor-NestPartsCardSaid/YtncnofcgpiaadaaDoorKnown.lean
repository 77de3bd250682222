/- What is proved here: what must come of fixed calls (known). Condition: the table of names holds what its initialiser lays ('Nms'). -/
import Derived.Test.YtncnofcgpiaadaaDoorLck
namespace Go.Proofs.YtncnofcgpiaadaaDoor
open Go.ChangeShapes Go.WideShapes Go.RowKit

/-- The rows of the fixed calls. -/
def k1 : List (Int × Int × Int) := [(23, 1, 0), (21, 3, 0), (22, 0, 0), (24, 1, 0), (25, 0, 0)]
def k2 : List (Int × Int × Int) := [(17, 0, 0), (25, 0, 0)]
def k3 : List (Int × Int × Int) := [(19, 1, 0), (21, 1, 0), (22, 0, 0), (25, 0, 0)]
def k4 : List (Int × Int × Int) := [(25, 0, 0), (25, 0, 0)]
theorem k1m : mA k1 = [3, 2, 1, 0, -1] := by decide +kernel
theorem k1e : mE k1 = 0 := by decide +kernel
theorem k1h : hA k1 = [-1, 0, 1, 0, -1] := by decide +kernel
theorem k1l : lA k1 = [1] := by decide +kernel
theorem k1le : lE k1 = 0 := by decide +kernel
theorem k1d : hdA k1 = [0, 2, 2, 2, 0] := by decide +kernel
theorem k1w : wE k1 = 0 := by decide +kernel
theorem k1p : mE (k1.take 2) = 7 := by decide +kernel
theorem k0e : mE [] = 1 := by decide +kernel
theorem k2e : lE k2 = 11 := by decide +kernel
theorem k3e : wE k3 = 8 := by decide +kernel
theorem k4e : wE k4 = 7 := by decide +kernel
theorem lit_row (W : World) (cs : Array Value) (L : List (Int × Int × Int)) (n : Nat) (hn : n = L.length) (h : cs.toList = cellsI L) (hl : L.length ≤ 1000) : RowI (W.alloc (.cells cs 32)) (some ⟨W.heap.size, 0, none⟩) n L := by
  subst hn
  have hs : cs.size = L.length * 3 := by have := congrArg List.length h; rw [cellsI_length] at this; simpa using this
  have := World.ownsRow_lit (base := 0) (e := 32) (size := 3) W cs L.length (by omega) (by unfold maxLen; omega) hs
  rw [h] at this
  obtain ⟨a, c, hv, hr⟩ := RowI.own this
  cases hv
  exact hr
theorem lit_ints (W : World) (cs : Array Value) (l : List Int) (n : Nat) (hn : n = l.length) (h : cs.toList = l.map (Value.int .i64)) (hl : l.length ≤ 1000) : Row (W.alloc (.cells cs 3)) (some ⟨W.heap.size, 0, none⟩) n l := by
  subst hn
  have hs : cs.size = l.length * 1 := by have := congrArg List.length h; simpa using this
  have := World.ownsRow_lit (base := 0) (e := 3) (size := 1) W cs l.length (by omega) (by unfold maxLen; omega) hs
  rw [h] at this
  obtain ⟨a, n, c, hv, hr⟩ := Row.own this
  cases hv
  exact hr
theorem RowI.take {w : World} {a : Option Addr} {n : Nat} {L : List (Int × Int × Int)} (h : RowI w a n L) {m : Nat} (hm : m ≤ n) : RowI w a m (L.take m) := by
  have hl := h.1
  refine ⟨by rw [List.length_take]; omega, fun h0 => ?_⟩
  obtain ⟨b, off, rfl, hlt, hc⟩ := h.2 (by omega)
  refine ⟨b, off, rfl, hlt, fun i hi => ?_⟩
  have e : (L.take m).getD i (0, 0, 0) = L.getD i (0, 0, 0) := by
    rw [List.getD_eq_getElem?_getD, List.getD_eq_getElem?_getD, List.getElem?_take_of_lt hi]
  rw [e]; exact hc i (by omega)
theorem match_at {a : Option Addr} {n c : Nat} {L : List (Int × Int × Int)} {l : List Int} {x : Int} (h1 : mA L = l) (h2 : mE L = x) (w : World) (hr : RowI w a n L) (hN : Nms w) : Calls Tryd.prog 11 #[.slice a n c] w (GotL l x w) := by
  rw [← h1, ← h2]; exact match_any a n c L w hr hN
theorem home_at {a : Option Addr} {n c : Nat} {L : List (Int × Int × Int)} {l : List Int} {x : Int} (h1 : hA L = l) (h2 : mE L = x) (w : World) (hr : RowI w a n L) (hN : Nms w) : Calls Tryd.prog 13 #[.slice a n c] w (GotL l x w) := by
  rw [← h1, ← h2]; exact home_any a n c L w hr hN
theorem locks_at {a : Option Addr} {n c : Nat} {L : List (Int × Int × Int)} {l : List Int} {x : Int} (h1 : lA L = l) (h2 : lE L = x) (w : World) (hr : RowI w a n L) (hN : Nms w) : Calls Tryd.prog 15 #[.slice a n c] w (GotL l x w) := by
  rw [← h1, ← h2]; exact locks_any a n c L w hr hN
theorem held_at {a : Option Addr} {n c : Nat} {L : List (Int × Int × Int)} {l : List Int} {x : Int} (h1 : hdA L = l) (h2 : mE L = x) (w : World) (hr : RowI w a n L) (hN : Nms w) : Calls Tryd.prog 17 #[.slice a n c] w (GotL l x w) := by
  rw [← h1, ← h2]; exact held_any a n c L w hr hN
theorem whole_at {a : Option Addr} {n c : Nat} {L : List (Int × Int × Int)} {x : Int} (h2 : wE L = x) (w : World) (hr : RowI w a n L) (hN : Nms w) : Calls Tryd.prog 20 #[.slice a n c] w fun e w' => e = .returned (.int .i64 x) ∧ Below w.heap.size w w' := by
  rw [← h2]; exact whole_any a n c L w hr hN
theorem sameT (a b : Option Addr) (n m c d : Nat) (l : List Int) (w : World) (ha : Row w a n l) (hb : Row w b m l) (hn : n ≤ 1000000) :
    Calls Tryd.prog 19 #[.slice a n c, .slice b m d] w fun e w' => e = .returned (.bool true) ∧ Below w.heap.size w w' := same_any a b n m c d l w ha hb hn
set_option maxHeartbeats 4000000 in
set_option maxRecDepth 100000 in
theorem known_any (w : World) (hN : Nms w) : Calls Tryd.prog 10 #[] w fun e w' => e = .returned (.bool true) ∧ Below w.heap.size w w' := by
  have HN := Lib.hid hN
  clear hN
  go_enter Tryd.func10, Tryd.ntmps10
  go_wp2_with fail
  have G := below_alloc w (.cells #[.int .i64 23, .int .i64 1, .int .i64 0, .int .i64 21, .int .i64 3, .int .i64 0, .int .i64 22, .int .i64 0, .int .i64 0, .int .i64 24, .int .i64 1, .int .i64 0, .int .i64 25, .int .i64 0, .int .i64 0] 32)
  have R := lit_row w #[.int .i64 23, .int .i64 1, .int .i64 0, .int .i64 21, .int .i64 3, .int .i64 0, .int .i64 22, .int .i64 0, .int .i64 0, .int .i64 24, .int .i64 1, .int .i64 0, .int .i64 25, .int .i64 0, .int .i64 0] k1 5 rfl rfl (by decide)
  refine (match_at k1m k1e _ R (HN.out.below G)).mono ?_
  rintro e w1 ⟨a1, n1, c1, rfl, r1, hb⟩
  replace R := R.below hb
  replace G := keep_below G hb
  clear hb
  go_wp2_with fail
  refine (home_at k1h k1e _ R (HN.out.below G)).mono ?_
  rintro e w2 ⟨a2, n2, c2, rfl, r2, hb⟩
  replace R := R.below hb
  replace G := keep_below G hb
  replace r1 := r1.below hb
  clear hb
  go_wp2_with fail
  refine (locks_at k1l k1le _ R (HN.out.below G)).mono ?_
  rintro e w3 ⟨a3, n3, c3, rfl, r3, hb⟩
  replace R := R.below hb
  replace G := keep_below G hb
  replace r1 := r1.below hb
  replace r2 := r2.below hb
  clear hb
  go_wp2_with fail
  refine (held_at k1d k1e _ R (HN.out.below G)).mono ?_
  rintro e w4 ⟨a4, n4, c4, rfl, r4, hb⟩
  replace R := R.below hb
  replace G := keep_below G hb
  replace r1 := r1.below hb
  replace r2 := r2.below hb
  replace r3 := r3.below hb
  clear hb
  go_wp2_with fail
  refine (match_at (l := []) (by unfold mA; rw [k1p]; rfl) k1p _ (R.take (m := 2) (by decide)) (HN.out.below G)).mono ?_
  rintro e w5 ⟨a5, n5, c5, rfl, _, hb⟩
  replace R := R.below hb
  replace G := keep_below G hb
  replace r1 := r1.below hb
  replace r2 := r2.below hb
  replace r3 := r3.below hb
  replace r4 := r4.below hb
  clear hb
  go_wp2_with fail
  refine (match_at (l := []) (by unfold mA; rw [k0e]; rfl) k0e _ (RowI.nil _ _) (HN.out.below G)).mono ?_
  rintro e w6 ⟨a6, n6, c6, rfl, _, hb⟩
  replace R := R.below hb
  replace G := keep_below G hb
  replace r1 := r1.below hb
  replace r2 := r2.below hb
  replace r3 := r3.below hb
  replace r4 := r4.below hb
  clear hb
  go_wp2_with fail
  have G7 := keep_below G (below_alloc w6 (.cells #[.int .i64 17, .int .i64 0, .int .i64 0, .int .i64 25, .int .i64 0, .int .i64 0] 32))
  have hA7 := below_alloc w6 (.cells #[.int .i64 17, .int .i64 0, .int .i64 0, .int .i64 25, .int .i64 0, .int .i64 0] 32)
  refine (locks_at (l := []) (by unfold lA; rw [k2e]; rfl) k2e _ (lit_row w6 _ k2 2 rfl rfl (by decide)) (HN.out.below G7)).mono ?_
  rintro e w7 ⟨a7, n7, c7, rfl, _, hb⟩
  replace hb := keep_below hA7 hb
  replace R := R.below hb
  replace G := keep_below G hb
  replace r1 := r1.below hb
  replace r2 := r2.below hb
  replace r3 := r3.below hb
  replace r4 := r4.below hb
  clear hb hA7 G7
  go_wp2_with fail
  have hA8 := below_alloc w7 (.cells #[.int .i64 19, .int .i64 1, .int .i64 0, .int .i64 21, .int .i64 1, .int .i64 0, .int .i64 22, .int .i64 0, .int .i64 0, .int .i64 25, .int .i64 0, .int .i64 0] 32)
  have G8 := keep_below G hA8
  refine (whole_at k3e _ (lit_row w7 _ k3 4 rfl rfl (by decide)) (HN.out.below G8)).mono ?_
  rintro e w8 ⟨rfl, hb⟩
  replace hb := keep_below hA8 hb
  replace R := R.below hb
  replace G := keep_below G hb
  replace r1 := r1.below hb
  replace r2 := r2.below hb
  replace r3 := r3.below hb
  replace r4 := r4.below hb
  clear hb hA8 G8
  go_wp2_with fail
  have hA9 := below_alloc w8 (.cells #[.int .i64 25, .int .i64 0, .int .i64 0, .int .i64 25, .int .i64 0, .int .i64 0] 32)
  have G9 := keep_below G hA9
  refine (whole_at k4e _ (lit_row w8 _ k4 2 rfl rfl (by decide)) (HN.out.below G9)).mono ?_
  rintro e w9 ⟨rfl, hb⟩
  replace hb := keep_below hA9 hb
  replace R := R.below hb
  replace G := keep_below G hb
  replace r1 := r1.below hb
  replace r2 := r2.below hb
  replace r3 := r3.below hb
  replace r4 := r4.below hb
  clear hb hA9 G9
  go_wp2_with fail
  have h10 := below_alloc w9 (.cells #[.int .i64 3, .int .i64 2, .int .i64 1, .int .i64 0, .int .i64 (-1)] 3)
  refine (sameT _ _ _ _ _ _ _ _ (r1.below h10) (lit_ints w9 _ [3, 2, 1, 0, -1] 5 rfl rfl (by decide)) (by have := r1.1; simp at this; omega)).mono ?_
  rintro e w10 ⟨rfl, hb⟩
  replace hb := keep_below h10 hb
  replace R := R.below hb
  replace G := keep_below G hb
  replace r2 := r2.below hb
  replace r3 := r3.below hb
  replace r4 := r4.below hb
  clear hb h10 r1
  go_wp2_with fail
  have h11 := below_alloc w10 (.cells #[.int .i64 (-1), .int .i64 0, .int .i64 1, .int .i64 0, .int .i64 (-1)] 3)
  refine (sameT _ _ _ _ _ _ _ _ (r2.below h11) (lit_ints w10 _ [-1, 0, 1, 0, -1] 5 rfl rfl (by decide)) (by have := r2.1; simp at this; omega)).mono ?_
  rintro e w11 ⟨rfl, hb⟩
  replace hb := keep_below h11 hb
  replace R := R.below hb
  replace G := keep_below G hb
  replace r3 := r3.below hb
  replace r4 := r4.below hb
  clear hb h11 r2
  go_wp2_with fail
  have h12 := below_alloc w11 (.cells #[.int .i64 1] 3)
  refine (sameT _ _ _ _ _ _ _ _ (r3.below h12) (lit_ints w11 _ [1] 1 rfl rfl (by decide)) (by have := r3.1; simp at this; omega)).mono ?_
  rintro e w12 ⟨rfl, hb⟩
  replace hb := keep_below h12 hb
  replace R := R.below hb
  replace G := keep_below G hb
  replace r4 := r4.below hb
  clear hb h12 r3
  go_wp2_with fail
  have h13 := below_alloc w12 (.cells #[.int .i64 0, .int .i64 2, .int .i64 2, .int .i64 2, .int .i64 0] 3)
  refine (sameT _ _ _ _ _ _ _ _ (r4.below h13) (lit_ints w12 _ [0, 2, 2, 2, 0] 5 rfl rfl (by decide)) (by have := r4.1; simp at this; omega)).mono ?_
  rintro e w13 ⟨rfl, hb⟩
  replace hb := keep_below h13 hb
  replace R := R.below hb
  replace G := keep_below G hb
  clear hb h13 r4
  go_wp2_with fail
  refine (whole_at k1w _ R (HN.out.below G)).mono ?_
  rintro e w14 ⟨rfl, hb⟩
  replace G := keep_below G hb
  clear hb R
  go_wp2
  go_ret
  exact ⟨rfl, G⟩
end Go.Proofs.YtncnofcgpiaadaaDoor
