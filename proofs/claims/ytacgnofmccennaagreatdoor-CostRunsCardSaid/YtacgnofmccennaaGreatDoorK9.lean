/- What is proved here: what must come of the fixed calls (known). Condition: the table of names holds what its initialiser lays (Nms). -/
import Derived.Test.YtacgnofmccennaaGreatDoorCx
namespace Go.Proofs.YtacgnofmccennaaGreatDoor
open Go.ChangeShapes Go.WideShapes Go.RowKit

/-- The row of the fixed calls. -/
def k9 : List (Int × Int × Int) := [(23, 2, 0), (21, 3, 0), (1, 1, 0), (2, 0, 0), (22, 0, 0), (24, 2, 0), (15, 0, 0), (15, 0, 0), (5, 11, 0), (20, 1, 0), (19, 0, 0), (25, 0, 0)]
theorem k9w : cW true k9 = 18 := by decide +kernel
theorem k9e : cE true k9 = 0 := by decide +kernel
theorem k9b : cW false k9 = 17 := by decide +kernel
theorem k9f : cE false k9 = 0 := by decide +kernel
theorem k9s : sA k9 = [(2, 11)] := by decide +kernel
theorem k9t : cE true (k9.take 3) = 7 := by decide +kernel
theorem k9x : strt k9 = false := by decide +kernel
theorem k9y : strt (k9.take 9) = true := by decide +kernel
theorem lit_pairs (W : World) (cs : Array Value) (l : List (Int × Int)) (n : Nat) (hn : n = l.length) (h : cs.toList = ouC l) (hl : l.length ≤ 1000) : RowP (W.alloc (.cells cs 55)) (some ⟨W.heap.size, 0, none⟩) n l := by
  subst hn
  have hs : cs.size = l.length * 2 := by have := congrArg List.length h; rw [ouC_len] at this; simpa using this
  have := World.ownsRow_lit (base := 0) (e := 55) (size := 2) W cs l.length (by omega) (by unfold maxLen; omega) hs
  rw [h] at this
  obtain ⟨a, c, hv, hr⟩ := RowP.own this
  cases hv
  exact hr
set_option maxHeartbeats 2000000 in
set_option maxRecDepth 100000 in
theorem known9_any (w : World) (hN : Nms w) : Calls Tryz.prog 4 #[] w fun e w' => e = .returned (.bool true) ∧ Below w.heap.size w w' := by
  obtain ⟨cs, hcs⟩ : ∃ cs : Array Value, cs = #[.int .i64 23, .int .i64 2, .int .i64 0, .int .i64 21, .int .i64 3, .int .i64 0, .int .i64 1, .int .i64 1, .int .i64 0, .int .i64 2, .int .i64 0, .int .i64 0, .int .i64 22, .int .i64 0, .int .i64 0, .int .i64 24, .int .i64 2, .int .i64 0, .int .i64 15, .int .i64 0, .int .i64 0, .int .i64 15, .int .i64 0, .int .i64 0, .int .i64 5, .int .i64 11, .int .i64 0, .int .i64 20, .int .i64 1, .int .i64 0, .int .i64 19, .int .i64 0, .int .i64 0, .int .i64 25, .int .i64 0, .int .i64 0] := ⟨_, rfl⟩
  have hrow := lit_row w cs k9 12 rfl (by rw [hcs]; rfl) (by decide)
  have hb0 := below_alloc w (.cells cs 51)
  have HR := Lib.hid hrow
  have HN := Lib.hid hN
  have C1 := Lib.hid (fun W (g : Below w.heap.size w W) (h : RowI W (some ⟨w.heap.size, 0, none⟩) 12 k9) => k9w ▸ k9e ▸ worst_any (some ⟨w.heap.size, 0, none⟩) 12 12 k9 W h (hN.below g))
  have C2 := Lib.hid (fun W (g : Below w.heap.size w W) (h : RowI W (some ⟨w.heap.size, 0, none⟩) 12 k9) => k9b ▸ k9f ▸ best_any (some ⟨w.heap.size, 0, none⟩) 12 12 k9 W h (hN.below g))
  have C3 := Lib.hid (fun W (g : Below w.heap.size w W) (h : RowI W (some ⟨w.heap.size, 0, none⟩) 12 k9) => k9e ▸ sections_any (some ⟨w.heap.size, 0, none⟩) 12 12 k9 W h (hN.below g))
  have C4 := Lib.hid (fun W (g : Below w.heap.size w W) (h : RowI W (some ⟨w.heap.size, 0, none⟩) 12 k9) => k9t ▸ worst_any (some ⟨w.heap.size, 0, none⟩) 3 12 (k9.take 3) W (h.take (by decide)) (hN.below g))
  have C5 := Lib.hid (fun W (h : RowI W (some ⟨w.heap.size, 0, none⟩) 12 k9) => k9x ▸ straight_any (some ⟨w.heap.size, 0, none⟩) 12 12 k9 W h (by decide))
  have C6 := Lib.hid (fun W (h : RowI W (some ⟨w.heap.size, 0, none⟩) 12 k9) => k9y ▸ straight_any (some ⟨w.heap.size, 0, none⟩) 9 12 (k9.take 9) W (h.take (by decide)) (by decide))
  clear hrow hN
  subst hcs
  go_enter Tryz.func4, Tryz.ntmps4
  go_wp2_with (first
    | (go_at_call 6; have q := hb3; clear q; refine (C4.out _ hb3 hr3.out).mono ?_; rintro e w4 ⟨rfl, g4⟩; have hb4 := keep_below hb3 g4; have hr4 := Lib.hid (hr3.out.below g4); have hp4 := Lib.hid (hp3.out.below g4))
    | (go_at_call 6; refine (C1.out _ hb0 HR.out).mono ?_; rintro e w1 ⟨rfl, g1⟩; have hb1 := keep_below hb0 g1; have hr1 := Lib.hid (HR.out.below g1))
    | (go_at_call 7; refine (C2.out _ hb1 hr1.out).mono ?_; rintro e w2 ⟨rfl, g2⟩; have hb2 := keep_below hb1 g2; have hr2 := Lib.hid (hr1.out.below g2))
    | (go_at_call 8; refine (C3.out _ hb2 hr2.out).mono ?_; rintro e w3 ⟨a3, n3, c3, rfl, p3, g3, -⟩; have hb3 := keep_below hb2 g3; have hr3 := Lib.hid (hr2.out.below g3); rw [k9s] at p3; obtain rfl : n3 = 1 := p3.1; have hp3 := Lib.hid p3; clear p3)
    | (go_at_call 15; refine (plain9_any a3 1 c3 _ _ hp4.out (by decide)).mono ?_; rintro e w5 ⟨a5, n5, c5, rfl, p5, g5⟩; have hb5 := keep_below hb4 g5; have hr5 := Lib.hid (hr4.out.below g5); obtain rfl : n5 = 1 := p5.1; have hp5 := Lib.hid p5; clear p5)
    | (go_at_call 14; refine (same9_eq a5 _ 1 c5 1 _ _ (hp5.out.below (below_alloc _ _)) (lit_pairs w5 #[.int .i64 2, .int .i64 11] [(2, 11)] 1 rfl rfl (by decide)) (by decide)).mono ?_; rintro e w6 ⟨rfl, g6⟩; have hb6 := keep_below (keep_below hb5 (below_alloc _ _)) g6; have hr6 := Lib.hid ((hr5.out.below (below_alloc _ _)).below g6))
    | (go_at_call 13; have q := hb7; clear q; refine (C6.out _ hr7.out).mono ?_; rintro e w8 ⟨rfl, g8⟩; have hb8 := keep_below hb7 g8)
    | (go_at_call 13; refine (C5.out _ hr6.out).mono ?_; rintro e w7 ⟨rfl, g7⟩; have hb7 := keep_below hb6 g7; have hr7 := Lib.hid (hr6.out.below g7)))
  go_ret
  exact ⟨rfl, hb8⟩
end Go.Proofs.YtacgnofmccennaaGreatDoor
