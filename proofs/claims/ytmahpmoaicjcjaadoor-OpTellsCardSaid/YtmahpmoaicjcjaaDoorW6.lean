/- What is proved here: the walk of the law OpTells. Conditions: none beyond those each theorem states. -/
import Derived.Test.YtmahpmoaicjcjaaDoorR7
import Derived.Test.YtmahpmoaicjcjaaDoorW3
import Derived.Deep.RegionHeld3
namespace Go.Proofs.YtmahpmoaicjcjaaDoor
open Go.ChangeShapes Go.WideShapes Go.RowKit

theorem keep_cellT {W w9 : World} {p : Addr} {v : Value} (hb : Below W.heap.size W w9) (h : W.cell? p = some v) : w9.cell? p = some v := (hb.cell (cell_lt h)).trans h
theorem keep_belowT {w W w9 : World} (h : Below w.heap.size w W) (hb : Below W.heap.size W w9) : Below w.heap.size w w9 := h.trans (hb.mono h.size)

set_option maxHeartbeats 8000000 in
set_option maxRecDepth 100000 in
theorem tells_walk (o a b : Int) (w : World) (hn : Nms w) (hf : FitsI (o, a, b)) :
    Calls Tryd.prog 3 #[.agg #[.int .i64 o, .int .i64 a, .int .i64 b]] w fun e w' => e = .returned (.bool true) ∧ Below w.heap.size w w' := by
  have G := (Below.refl w.heap.size w).alloc (Nat.le_refl _) (.cells #[.int .i64 o, .int .i64 a, .int .i64 b] 23)
  obtain ⟨_, k0, k1, k2⟩ := Ins3.new w o a b
  simp only at k0 k1 k2
  have HN := Lib.hid hn
  have c10 := fun W h => right_any o a b W h
  have c11 := fun W => rightR_any o a b W
  have c12 := fun W h => encode_any o a b W h hf
  have c13 := fun W => encodeR_any o a b W hf
  have c14 := fun W h => name_any o W h
  have c15 := fun W => nameR_any o W
  have c16 := fun W => args_any o W
  have c17 := fun W => argsR_any o W
  obtain ⟨R, hR⟩ : ∃ R, R = right (o, a, b) := ⟨_, rfl⟩
  obtain ⟨S, hS⟩ : ∃ S, S = bs (encI (o, a, b)) := ⟨_, rfl⟩
  obtain ⟨M, hM⟩ : ∃ M, M = onm o := ⟨_, rfl⟩
  obtain ⟨A, hA⟩ : ∃ A, A = argsOf o := ⟨_, rfl⟩
  rw [← hR] at c10 c11
  rw [← hS] at c12 c13
  rw [← hM] at c14 c15
  rw [← hA] at c16 c17
  have C10 := Lib.hid c10
  have C11 := Lib.hid c11
  have C12 := Lib.hid c12
  have C13 := Lib.hid c13
  have C14 := Lib.hid c14
  have C15 := Lib.hid c15
  have C16 := Lib.hid c16
  have C17 := Lib.hid c17
  clear c10 c11 c12 c13 c14 c15 c16 c17 hR hS hM hA hn hf
  go_enter Tryd.func3, Tryd.ntmps3
  go_wp2_with fail
  go_region_held3 (fun W => W.cell? ⟨w.heap.size, 0, none⟩ = some (.int .i64 o) ∧ W.cell? ⟨w.heap.size, 1, none⟩ = some (.int .i64 a) ∧ W.cell? ⟨w.heap.size, 2, none⟩ = some (.int .i64 b) ∧ Below w.heap.size w W)
    (first
      | exact ⟨k0, k1, k2, G.drew⟩
      | (go_split_ands; exact ⟨keep_cellT hb9 (by assumption), keep_cellT hb9 (by assumption), keep_cellT hb9 (by assumption), keep_belowT (by assumption) hb9⟩)
      | (go_split_ands; exact ⟨by assumption, by assumption, by assumption, by assumption⟩))
    (first
      | (go_split_ands; go_at_call 10; refine (C10.out _ (HN.out.below (by assumption))).mono ?_; rintro e w9 ⟨rfl, hb9⟩)
      | (go_split_ands; go_at_call 11; refine (C11.out _).mono ?_; rintro e w9 ⟨rfl, hb9⟩)
      | (go_split_ands; go_at_call 12; refine (C12.out _ (HN.out.below (by assumption))).mono ?_; rintro e w9 ⟨rfl, hb9⟩)
      | (go_split_ands; go_at_call 13; refine (C13.out _).mono ?_; rintro e w9 ⟨rfl, hb9⟩)
      | (go_split_ands; go_at_call 14; refine (C14.out _ (HN.out.below (by assumption))).mono ?_; rintro e w9 ⟨rfl, rfl⟩)
      | (go_split_ands; go_at_call 15; refine (C15.out _).mono ?_; rintro e w9 ⟨rfl, hb9⟩)
      | (go_split_ands; go_at_call 16; refine (C16.out _).mono ?_; rintro e w9 ⟨rfl, rfl⟩)
      | (go_split_ands; go_at_call 17; refine (C17.out _).mono ?_; rintro e w9 ⟨rfl, hb9⟩)
      | (go_split_ands; go_at_call 18; refine (known_any _ (HN.out.below (by assumption))).mono ?_; rintro e w9 ⟨rfl, hb9⟩))
  go_split_ands
  go_wp2
  go_ret
  exact ⟨rfl, by assumption⟩
end Go.Proofs.YtmahpmoaicjcjaaDoor
