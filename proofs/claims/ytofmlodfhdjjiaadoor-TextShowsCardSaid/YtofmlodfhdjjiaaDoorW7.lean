/- What is proved here: the walk of the law TextShows. Conditions: the row and the instruction fit; the listed variables hold what their initialisers lay ('Env'). -/
import Derived.Test.YtofmlodfhdjjiaaDoorKnown
import Derived.Test.YtofmlodfhdjjiaaDoorShowR
import Derived.Deep.RegionHeld3
namespace Go.Proofs.YtofmlodfhdjjiaaDoor
open Go.ChangeShapes Go.WideShapes Go.RowKit

theorem keep_cellT {W w9 : World} {p : Addr} {v : Value} (hb : Below W.heap.size W w9) (h : W.cell? p = some v) : w9.cell? p = some v := (hb.cell (cell_lt h)).trans h
set_option maxHeartbeats 8000000 in
set_option maxRecDepth 100000 in
theorem shows_walk (a : Option Addr) (n c : Nat) (L : List (Int × Int × Int)) (o x y : Int) (hnm : n ≤ maxLen) (w : World) (hE : Env w) (hr : RowI w a n L) (hL : AllFitI L) (hf : FitsI (o, x, y)) :
    Calls Tryd.prog 3 #[.slice a n c, .agg #[.int .i64 o, .int .i64 x, .int .i64 y]] w fun e w' => e = .returned (.bool true) ∧ Below w.heap.size w w' := by
  have HE := Lib.hid hE
  unfold maxLen at hnm
  have G := below_alloc w (.cells #[.int .i64 o, .int .i64 x, .int .i64 y] 24)
  by_cases h1 : 250 < n
  · have CK := Lib.hid known_any
    clear hr
    have d1 : decide ((250 : Int) < n) = true := by simp; omega
    go_enter Tryd.func3, Tryd.ntmps3
    go_wp2_with (go_at_call 10; refine (CK.out _ (HE.out.below G)).mono ?_; rintro e w2 ⟨rfl, hb⟩)
    go_ret
    exact ⟨rfl, keep_below G hb⟩
  have d1 : decide ((250 : Int) < n) = false := by simp; omega
  obtain ⟨S, hS⟩ : ∃ S, S = bs (line (o, x, y)) := ⟨_, rfl⟩
  obtain ⟨T, hT⟩ : ∃ T, T = bs (showL L) := ⟨_, rfl⟩
  have c11 := fun W h => line_any o x y W h hf
  have c12 := fun W => lineR_any o x y W hf
  have c13 := fun W (hW : Below w.heap.size w W) => show_any a n c L W (hr.below hW) hL (HE.out.below hW)
  have c14 := fun W (hW : Below w.heap.size w W) => showR_any a n c L W (hr.below hW) hL (by omega)
  rw [← hS] at c11 c12
  rw [← hT] at c13 c14
  have C11 := Lib.hid c11
  have C12 := Lib.hid c12
  have C13 := Lib.hid c13
  have C14 := Lib.hid c14
  have CK := Lib.hid known_any
  have k0 : (w.alloc (.cells #[.int .i64 o, .int .i64 x, .int .i64 y] 24)).cell? ⟨w.heap.size, 0, none⟩ = some (.int .i64 o) := by simp
  have k1 : (w.alloc (.cells #[.int .i64 o, .int .i64 x, .int .i64 y] 24)).cell? ⟨w.heap.size, 1, none⟩ = some (.int .i64 x) := by simp
  have k2 : (w.alloc (.cells #[.int .i64 o, .int .i64 x, .int .i64 y] 24)).cell? ⟨w.heap.size, 2, none⟩ = some (.int .i64 y) := by simp
  clear c11 c12 c13 c14 hS hT hE hr hL hf
  go_enter Tryd.func3, Tryd.ntmps3
  go_wp2_with fail
  go_region_held3 (fun W => W.cell? ⟨w.heap.size, 0, none⟩ = some (.int .i64 o) ∧ W.cell? ⟨w.heap.size, 1, none⟩ = some (.int .i64 x) ∧ W.cell? ⟨w.heap.size, 2, none⟩ = some (.int .i64 y) ∧ Below w.heap.size w W)
    (first
      | exact ⟨k0, k1, k2, G.drew⟩
      | (go_split_ands; exact ⟨keep_cellT hb9 (by assumption), keep_cellT hb9 (by assumption), keep_cellT hb9 (by assumption), keep_below (by assumption) hb9⟩)
      | (go_split_ands; exact ⟨by assumption, by assumption, by assumption, by assumption⟩))
    (first
      | (go_split_ands; go_at_call 11; refine (C11.out _ (HE.out.below (by assumption))).mono ?_; rintro e w9 ⟨rfl, hb9⟩)
      | (go_split_ands; go_at_call 12; refine (C12.out _).mono ?_; rintro e w9 ⟨rfl, hb9⟩)
      | (go_split_ands; go_at_call 13; refine (C13.out _ (by assumption)).mono ?_; rintro e w9 ⟨rfl, hb9⟩)
      | (go_split_ands; go_at_call 14; refine (C14.out _ (by assumption)).mono ?_; rintro e w9 ⟨rfl, hb9⟩)
      | (go_split_ands; go_at_call 10; refine (CK.out _ (HE.out.below (by assumption))).mono ?_; rintro e w9 ⟨rfl, hb9⟩))
  go_split_ands
  go_wp2
  go_ret
  exact ⟨rfl, by assumption⟩
end Go.Proofs.YtofmlodfhdjjiaaDoor
