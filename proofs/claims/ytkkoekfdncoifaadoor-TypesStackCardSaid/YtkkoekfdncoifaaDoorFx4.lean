/- What is proved here: the contract of types.effects: it makes a map that has, at each operation, a function that tells what it takes, and one that tells what it gives. Conditions: none. -/
import Derived.Test.YtkkoekfdncoifaaDoorFx3
namespace Go.Proofs.YtkkoekfdncoifaaDoor
open Go.ChangeShapes Go.WideShapes Go.RowKit Go.Maps

/-- Where the four variables lie. -/
def four (x1 x2 x3 x4 : Nat) : Nat → Nat
  | 1 => x1
  | 2 => x2
  | 3 => x3
  | _ => x4
set_option maxHeartbeats 4000000 in
set_option maxRecDepth 100000 in
theorem effects_any (w : World) : Calls Tryd.prog 18 #[] w fun e w' => ∃ b, e = .returned (.map (some b)) ∧ Fxs w.heap.size w' b 25 ∧ Below w.heap.size w w' := by
  have hsf := @run_store_func Tryd.prog
  go_enter Tryd.func18, Tryd.ntmps18
  go_wp2_with fail
  refine (taking_any [] _).mono ?_
  rintro e U1 ⟨t1, rfl, lt1, kt1, BU1⟩
  have D1 := BU1
  go_wp2_with fail
  refine (giving_any [105] _).mono ?_
  rintro e V1 ⟨g1, rfl, lg1, kg1, BV1⟩
  have F1 := keep_below D1 BV1
  have q1 := Loc.new (lo := w.heap.size) (Nat.le_trans (Nat.le_refl _) lt1) (Nat.le_trans D1.size lg1) (keep_cell BV1 kt1) kg1
  have E1 := keep_below F1 (below_alloc V1 (.cells #[.func (.func 51) #[] #[.pointer (some ⟨t1, 0, none⟩)], .func (.func 52) #[] #[.pointer (some ⟨g1, 0, none⟩)]] 53))
  clear D1 F1 BU1 BV1 kt1 kg1
  go_wp2_with fail
  refine (taking_any [105] _).mono ?_
  rintro e U2 ⟨t2, rfl, lt2, kt2, BU2⟩
  have D2 := keep_below E1 BU2
  replace q1 := q1.keep (keeps_below BU2)
  go_wp2_with fail
  refine (giving_any [] _).mono ?_
  rintro e V2 ⟨g2, rfl, lg2, kg2, BV2⟩
  have F2 := keep_below D2 BV2
  replace q1 := q1.keep (keeps_below BV2)
  have q2 := Loc.new (lo := w.heap.size) (Nat.le_trans E1.size lt2) (Nat.le_trans D2.size lg2) (keep_cell BV2 kt2) kg2
  have E2 := keep_below F2 (below_alloc V2 (.cells #[.func (.func 51) #[] #[.pointer (some ⟨t2, 0, none⟩)], .func (.func 52) #[] #[.pointer (some ⟨g2, 0, none⟩)]] 53))
  replace q1 := q1.keep (keeps_below (below_alloc V2 (.cells #[.func (.func 51) #[] #[.pointer (some ⟨t2, 0, none⟩)], .func (.func 52) #[] #[.pointer (some ⟨g2, 0, none⟩)]] 53)))
  clear D2 F2 BU2 BV2 kt2 kg2 E1
  go_wp2_with fail
  refine (taking_any [98, 98] _).mono ?_
  rintro e U3 ⟨t3, rfl, lt3, kt3, BU3⟩
  have D3 := keep_below E2 BU3
  replace q1 := q1.keep (keeps_below BU3)
  replace q2 := q2.keep (keeps_below BU3)
  go_wp2_with fail
  refine (giving_any [98] _).mono ?_
  rintro e V3 ⟨g3, rfl, lg3, kg3, BV3⟩
  have F3 := keep_below D3 BV3
  replace q1 := q1.keep (keeps_below BV3)
  replace q2 := q2.keep (keeps_below BV3)
  have q3 := Loc.new (lo := w.heap.size) (Nat.le_trans E2.size lt3) (Nat.le_trans D3.size lg3) (keep_cell BV3 kt3) kg3
  have E3 := keep_below F3 (below_alloc V3 (.cells #[.func (.func 51) #[] #[.pointer (some ⟨t3, 0, none⟩)], .func (.func 52) #[] #[.pointer (some ⟨g3, 0, none⟩)]] 53))
  replace q1 := q1.keep (keeps_below (below_alloc V3 (.cells #[.func (.func 51) #[] #[.pointer (some ⟨t3, 0, none⟩)], .func (.func 52) #[] #[.pointer (some ⟨g3, 0, none⟩)]] 53)))
  replace q2 := q2.keep (keeps_below (below_alloc V3 (.cells #[.func (.func 51) #[] #[.pointer (some ⟨t3, 0, none⟩)], .func (.func 52) #[] #[.pointer (some ⟨g3, 0, none⟩)]] 53)))
  clear D3 F3 BU3 BV3 kt3 kg3 E2
  go_wp2_with fail
  refine (taking_any [] _).mono ?_
  rintro e U4 ⟨t4, rfl, lt4, kt4, BU4⟩
  have D4 := keep_below E3 BU4
  replace q1 := q1.keep (keeps_below BU4)
  replace q2 := q2.keep (keeps_below BU4)
  replace q3 := q3.keep (keeps_below BU4)
  go_wp2_with fail
  refine (giving_any [] _).mono ?_
  rintro e V4 ⟨g4, rfl, lg4, kg4, BV4⟩
  have F4 := keep_below D4 BV4
  replace q1 := q1.keep (keeps_below BV4)
  replace q2 := q2.keep (keeps_below BV4)
  replace q3 := q3.keep (keeps_below BV4)
  have q4 := Loc.new (lo := w.heap.size) (Nat.le_trans E3.size lt4) (Nat.le_trans D4.size lg4) (keep_cell BV4 kt4) kg4
  have E4 := keep_below F4 (below_alloc V4 (.cells #[.func (.func 51) #[] #[.pointer (some ⟨t4, 0, none⟩)], .func (.func 52) #[] #[.pointer (some ⟨g4, 0, none⟩)]] 53))
  replace q1 := q1.keep (keeps_below (below_alloc V4 (.cells #[.func (.func 51) #[] #[.pointer (some ⟨t4, 0, none⟩)], .func (.func 52) #[] #[.pointer (some ⟨g4, 0, none⟩)]] 53)))
  replace q2 := q2.keep (keeps_below (below_alloc V4 (.cells #[.func (.func 51) #[] #[.pointer (some ⟨t4, 0, none⟩)], .func (.func 52) #[] #[.pointer (some ⟨g4, 0, none⟩)]] 53)))
  replace q3 := q3.keep (keeps_below (below_alloc V4 (.cells #[.func (.func 51) #[] #[.pointer (some ⟨t4, 0, none⟩)], .func (.func 52) #[] #[.pointer (some ⟨g4, 0, none⟩)]] 53)))
  clear D4 F4 BU4 BV4 kt4 kg4 E3
  go_wp2_with fail
  refine eff_region (by kernel_rfl) (by kernel_rfl) (by kernel_rfl) (by kernel_rfl) w (four V1.heap.size V2.heap.size V3.heap.size V4.heap.size) ⟨rfl, rfl, rfl, E4.drew, ?_, ?_, ?_⟩ ?_
  · intro r h1 h2
    rcases (show r = 1 ∨ r = 2 ∨ r = 3 ∨ r = 4 by omega) with rfl | rfl | rfl | rfl
    · exact ⟨rfl, _, _, q1⟩
    · exact ⟨rfl, _, _, q2⟩
    · exact ⟨rfl, _, _, q3⟩
    · exact ⟨rfl, _, _, q4⟩
  · intro i s hi hl
    have : i < 66 := by
      rw [← spec_len]; exact (List.getElem?_eq_some_iff.1 hi).1
    simp [this] at hl
  · intro hl; simp at hl
  · intro a W b h0 hd hF hB
    rename_i K _ hK
    refine hK a W (wp_ret ?_)
    exact ⟨hd, _, results_tmp rfl _ _ _, b, by rw [← h0]; rfl, hF, hB⟩
end Go.Proofs.YtkkoekfdncoifaaDoor
