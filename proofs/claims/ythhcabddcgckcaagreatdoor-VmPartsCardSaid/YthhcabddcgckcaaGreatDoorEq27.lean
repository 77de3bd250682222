/- What is proved here: '==' of two blocks' numbers that are the same. Conditions: none. -/
import Derived.Test.YthhcabddcgckcaaGreatDoorLp9
import Derived.ChangeKeysEq
import Derived.DeepKeys
namespace Go.Proofs.YthhcabddcgckcaaGreatDoor
open Go.RowKit

theorem items_same (d : Nat) (e : TypeId) (c : Nat) (xs : Array Value) (w : World) : ∀ is : List Nat, (∀ i ∈ is, ∃ a, (part e xs (i * c)).run Tryz.prog w = .ok a w ∧ (Op.equalIn d e a a).run Tryz.prog w = .ok true w) → (Op.eqItems d e c xs xs is).run Tryz.prog w = .ok true w
  | [], _ => by simp [Op.eqItems]
  | i :: is, h => by
    obtain ⟨a, h1, h2⟩ := h i (by simp)
    simp only [Op.eqItems, Sem.run_bind, h1, h2, Result.andThen_ok, Bool.not_true, Bool.false_eq_true, if_false]
    exact items_same d e c xs w is fun j hj => h j (by simp [hj])
theorem cells3 : Tryz.prog.cellsOf 3 = 1 := by kernel_rfl
theorem cells24 : Tryz.prog.cellsOf 24 = 8 := by kernel_rfl
theorem eq3_same (d : Nat) (n : Int) (w : World) : (Op.equalIn (d + 1) 3 (.int .i64 n) (.int .i64 n)).run Tryz.prog w = .ok true w := by
  simp [Op.equalIn, run_underlying Tryz.underlying3]
theorem eq24_same (d : Nat) (A : Array Value) (hA : ∀ j, j < 8 → ∃ n : Int, A[j]? = some (.int .i64 n)) (w : World) : (Op.equalIn (d + 2) 24 (.agg A) (.agg A)).run Tryz.prog w = .ok true w := by
  obtain ⟨i, hi⟩ : ∃ i, Tryz.prog.info? 3 = some i := Option.isSome_iff_exists.1 (by kernel_rfl)
  rw [show d + 2 = (d + 1) + 1 from rfl, run_equalIn_array w (d + 1) A A Tryz.underlying24 hi, cells3]
  refine items_same _ _ _ _ _ _ fun j hj => ?_
  obtain ⟨n, hn⟩ := hA j (by simpa using hj)
  exact ⟨.int .i64 n, run_part_plain w (by kernel_rfl) (by rw [Nat.mul_one]; exact hn), eq3_same d n w⟩
theorem part_agg {t : TypeId} {s : Nat} (h1 : ∀ w, (isAgg t).run Tryz.prog w = .ok true w) (h2 : ∀ w, (sizeOf t).run Tryz.prog w = .ok s w) (A : Array Value) (o : Nat) (w : World) : (part t A o).run Tryz.prog w = .ok (.agg (A.extract o (o + s))) w := by
  simp [part, h1, h2]
theorem eq25_same (d : Nat) (A : Array Value) (hA : ∀ j, j < 64 → ∃ n : Int, A[j]? = some (.int .i64 n)) (w : World) : (Op.equalIn (d + 3) 25 (.agg A) (.agg A)).run Tryz.prog w = .ok true w := by
  obtain ⟨i, hi⟩ : ∃ i, Tryz.prog.info? 24 = some i := Option.isSome_iff_exists.1 (by kernel_rfl)
  rw [show d + 3 = (d + 2) + 1 from rfl, run_equalIn_array w (d + 2) A A Tryz.underlying25 hi, cells24]
  refine items_same _ _ _ _ _ _ fun j hj => ?_
  have hj8 : j < 8 := by simpa using hj
  refine ⟨_, part_agg Tryz.isAgg24 Tryz.sizeOf24 A (j * 8) w, eq24_same d _ (fun k hk => ?_) w⟩
  obtain ⟨n, hn⟩ := hA (j * 8 + k) (by omega)
  refine ⟨n, ?_⟩
  have hs : j * 8 + k < A.size := (Array.getElem?_eq_some_iff.1 hn).1
  rw [Array.getElem?_extract, if_pos (by omega)]
  exact hn
theorem eq27_same (d : Nat) (A : Array Value) (hs : A.size = 64) (hA : ∀ j, j < 64 → ∃ n : Int, A[j]? = some (.int .i64 n)) (w : World) : (Op.equalIn (d + 4) 27 (.agg A) (.agg A)).run Tryz.prog w = .ok true w := by
  have hf : Tryz.prog.fieldsOf 27 = #[{ name := "Blocks", type := 25, offset := 0, embedded := false, tag := "", pkgPath := "", byteOffset := 0 }] := by kernel_rfl
  rw [show d + 4 = (d + 3) + 1 from rfl, run_equalIn_struct w (d + 3) 27 A A (by rw [hf]; exact Tryz.underlying27) (by kernel_rfl), hf]
  have e0 : A.extract 0 (0 + 64) = A := by rw [Nat.zero_add, ← hs]; exact Array.extract_size
  have p := part_agg Tryz.isAgg25 Tryz.sizeOf25 A 0 w
  rw [e0] at p
  simp [Op.eqFields, p, eq25_same d A hA w]
theorem run_eql27 (M : List Int) (hl : M.length = 64) (w : World) : (binOp .eql 27 (.agg (iv M).toArray) (.agg (iv M).toArray)).run Tryz.prog w = .ok (.bool true) w := by
  have := eq27_same 9996 (iv M).toArray (by unfold iv; simpa using hl) (fun j hj => by
    refine ⟨M.getD j 0, ?_⟩
    unfold iv
    rw [List.getElem?_toArray, List.getElem?_map, List.getD_eq_getElem?_getD, List.getElem?_eq_getElem (by omega)]; rfl) w
  simp only [binOp]
  simp [Op.equal, Op.maxDepth, this]
end Go.Proofs.YthhcabddcgckcaaGreatDoor
