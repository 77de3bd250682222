/- What is proved here: the walk of the law OpSizes. Conditions: none beyond those each theorem states. -/
import Derived.Test.YtmahpmoaicjcjaaDoorW1
import Derived.StillTailTactics
import Derived.IntWalk
namespace Go.Proofs.YtmahpmoaicjcjaaDoor
open Go.ChangeShapes Go.WideShapes Go.RowKit

theorem still_of {f : FuncId} {args : Array Value} {w : World} {v : Value} (h : Calls Tryd.prog f args w fun e w' => e = .returned v ∧ w = w') : Calls Tryd.prog f args w fun e w'' => e = .returned v ∧ w'' = w :=
  h.mono fun _ _ ⟨h1, h2⟩ => ⟨h1, h2.symm⟩
/-- A small number has no more than two bytes. -/
theorem enc_two {n : Int} (h1 : 0 ≤ n) (h2 : n ≤ 1000) : (enc (turn n)).length ≤ 2 :=
  enc_len (by decide) (by unfold turn; rw [if_pos h1]; omega)
theorem tail_two {i : Int × Int × Int} (h : right i = true) (h1 : i.1 ≠ 1) : (tailI i).length ≤ 2 * nargs i.1 := by
  obtain ⟨_, h2, h3⟩ := right_parts h
  have h4 := rA_small h2 h1
  have h5 := rB_small h3
  have e1 := enc_two h4.1 h4.2
  have e2 := enc_two h5.1 (by omega)
  have h6 := nargs_le i.1
  unfold tailI
  split
  · simp
  · split
    · omega
    · rw [List.length_append]; omega
theorem head_byte {S : ByteArray} {b : UInt8} {l : List UInt8} (h : S.data.toList = b :: l) (h0 : 0 < S.size) : S[0] = b := by
  have := byte_list S 0 h0
  rw [← this]
  simp [h]

theorem wrap_lit {n : Int} (h1 : -1000 ≤ n) (h2 : n ≤ 1000) : IntKind.i64.wrap n = n := IntWalk.i64_in _ (by omega)

theorem sizes_wrong (o a b : Int) (w : World) (hn : Nms w) (h : right (o, a, b) = false) (hf : FitsI (o, a, b)) :
    Calls Tryd.prog 7 #[.agg #[.int .i64 o, .int .i64 a, .int .i64 b]] w fun e w' => e = .returned (.bool true) ∧ Below w.heap.size w w' := by
  have G := (Below.refl w.heap.size w).alloc (Nat.le_refl _) (.cells #[.int .i64 o, .int .i64 a, .int .i64 b] 23)
  have HN := Lib.hid hn
  have C1 : Hid (∀ W, Nms W → Calls Tryd.prog 12 #[.agg #[.int .i64 o, .int .i64 a, .int .i64 b]] W fun e w' => e = .returned (.string ⟨#[]⟩) ∧ Below W.heap.size W w') := fun W hW => encode_at hf (by rw [encI_wrong h]) W hW
  have C2 := Lib.hid (fun W => args_any o W)
  have C3 := Lib.hid (fun W hW => right_at h W hW)
  clear h hn
  go_enter Tryd.func7, Tryd.ntmps7
  go_wp2_with fail
  refine (C1.out _ (HN.out.below G)).mono ?_; rintro e w1 ⟨rfl, hb⟩
  have c0 := hb.cell (p := ⟨w.heap.size, 0, none⟩) (by simp)
  have c1 := hb.cell (p := ⟨w.heap.size, 1, none⟩) (by simp)
  have c2 := hb.cell (p := ⟨w.heap.size, 2, none⟩) (by simp)
  simp at c0 c1 c2
  replace G := G.trans (hb.mono G.size); clear hb
  go_wp2_with fail
  refine (C2.out _).mono ?_; rintro e w2 ⟨rfl, rfl⟩
  go_wp2_with fail
  refine (C3.out _ (HN.out.below G)).mono ?_; rintro e w2 ⟨rfl, hb⟩
  replace G := G.trans (hb.mono G.size); clear hb
  go_wp2_with fail
  refine (known_any _ (HN.out.below G)).mono ?_; rintro e w3 ⟨rfl, hb⟩
  replace G := G.trans (hb.mono G.size); clear hb
  go_wp2
  go_ret
  exact ⟨rfl, G⟩

end Go.Proofs.YtmahpmoaicjcjaaDoor
