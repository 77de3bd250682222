/- What is proved here: blocks that are copied; loads of eight numbers out of blocks. Conditions: those each theorem states. -/
import Derived.Test.YthhcabddcgckcaaGreatDoorLp8
import Derived.Test.YthhcabddcgckcaaGreatDoorPl8
import Derived.Test.YthhcabddcgckcaaGreatDoorPl9
namespace Go.Proofs.YthhcabddcgckcaaGreatDoor
open Go.ChangeShapes Go.WideShapes Go.RowKit Go.Maps

/-- A load of eight numbers, folded. -/
def LD24 (v : Value) : Sem Value := Instr.loadAt 24 v
theorem fold24 (v : Value) : Instr.loadAt 24 v = LD24 v := rfl
theorem ln27 : (Tryz.prog.info? 27).map (·.size) = some 64 := by kernel_rfl
def iv (l : List Int) : List Value := l.map (Value.int .i64)
theorem iv_one (l : List Int) : (iv l).toArray.all (·.oneCell') = true := by
  unfold iv; simp [Value.oneCell']
theorem mem_range {W : World} {mb : Nat} {M : List Int} (h : MemAt W mb M) : W.rangeAt mb 0 (iv M) := by
  intro j v hj
  unfold iv at hj
  have hl : j < M.length := by have := (List.getElem?_eq_some_iff.1 hj).1; simpa using this
  rw [List.getElem?_map, List.getElem?_eq_getElem hl] at hj
  have := h.2.cell (i := j) (by have := h.1; omega)
  rw [Nat.zero_add, this]
  rw [List.getD_eq_getElem?_getD, List.getElem?_eq_getElem hl]
  exact hj
/-- Blocks that are copied. -/
theorem mem_copied (W : World) (Z : Array Value) (M : List Int) (hz : Z.size = 64) (hl : M.length = 64) :
    (W.alloc (.cells Z 27)).there W.heap.size 0 (iv M).toArray.size ∧ MemAt ((W.alloc (.cells Z 27)).setCells W.heap.size 0 (iv M).toArray.toList) W.heap.size M ∧ Below W.heap.size W ((W.alloc (.cells Z 27)).setCells W.heap.size 0 (iv M).toArray.toList) := by
  have h0 := World.rowIs_alloc W Z 27 (fun i => Z.getD i undef) (fun i hi => by rw [Array.getD_eq_getD_getElem?, Array.getElem?_eq_getElem hi]; rfl)
  rw [hz] at h0
  have hs : (iv M).toArray.size = 64 := by unfold iv; simpa using hl
  have e : (iv M).toArray.toList = iv M := by simp
  have hlv : (iv M).length = 64 := by unfold iv; simpa using hl
  refine ⟨?_, ⟨hl, ?_⟩, ?_⟩
  · intro j hj
    rw [hs] at hj
    rw [Nat.zero_add]
    exact ⟨by rw [h0.cell hj]; rfl, h0.frozen j⟩
  · rw [e]
    refine (rowIs_setCells (iv M) 0 _ _ h0).congr fun j hj => ?_
    rw [if_pos ⟨Nat.zero_le _, by omega⟩, Nat.sub_zero]
    unfold iv
    rw [List.getD_eq_getElem?_getD, List.getElem?_map, List.getD_eq_getElem?_getD, List.getElem?_eq_getElem (by omega)]; rfl
  · rw [e]
    have h1 := below_alloc W (.cells Z 27)
    refine h1.trans ⟨(setCells_os _ _ _).1, (setCells_os _ _ _).2.1, (setCells_os _ _ _).2.2, by rw [setCells_size]; exact Nat.le_refl _, fun k hk => setCells_other (by omega) _ _ _⟩
/-- The same, as the walk lays the new blocks. -/
theorem mem_copied64 (W : World) (M : List Int) (hl : M.length = 64) :
    (W.alloc (.cells #[.int .i64 0, .int .i64 0, .int .i64 0, .int .i64 0, .int .i64 0, .int .i64 0, .int .i64 0, .int .i64 0, .int .i64 0, .int .i64 0, .int .i64 0, .int .i64 0, .int .i64 0, .int .i64 0, .int .i64 0, .int .i64 0, .int .i64 0, .int .i64 0, .int .i64 0, .int .i64 0, .int .i64 0, .int .i64 0, .int .i64 0, .int .i64 0, .int .i64 0, .int .i64 0, .int .i64 0, .int .i64 0, .int .i64 0, .int .i64 0, .int .i64 0, .int .i64 0, .int .i64 0, .int .i64 0, .int .i64 0, .int .i64 0, .int .i64 0, .int .i64 0, .int .i64 0, .int .i64 0, .int .i64 0, .int .i64 0, .int .i64 0, .int .i64 0, .int .i64 0, .int .i64 0, .int .i64 0, .int .i64 0, .int .i64 0, .int .i64 0, .int .i64 0, .int .i64 0, .int .i64 0, .int .i64 0, .int .i64 0, .int .i64 0, .int .i64 0, .int .i64 0, .int .i64 0, .int .i64 0, .int .i64 0, .int .i64 0, .int .i64 0, .int .i64 0] 27)).there W.heap.size 0 (iv M).toArray.size ∧ MemAt ((W.alloc (.cells #[.int .i64 0, .int .i64 0, .int .i64 0, .int .i64 0, .int .i64 0, .int .i64 0, .int .i64 0, .int .i64 0, .int .i64 0, .int .i64 0, .int .i64 0, .int .i64 0, .int .i64 0, .int .i64 0, .int .i64 0, .int .i64 0, .int .i64 0, .int .i64 0, .int .i64 0, .int .i64 0, .int .i64 0, .int .i64 0, .int .i64 0, .int .i64 0, .int .i64 0, .int .i64 0, .int .i64 0, .int .i64 0, .int .i64 0, .int .i64 0, .int .i64 0, .int .i64 0, .int .i64 0, .int .i64 0, .int .i64 0, .int .i64 0, .int .i64 0, .int .i64 0, .int .i64 0, .int .i64 0, .int .i64 0, .int .i64 0, .int .i64 0, .int .i64 0, .int .i64 0, .int .i64 0, .int .i64 0, .int .i64 0, .int .i64 0, .int .i64 0, .int .i64 0, .int .i64 0, .int .i64 0, .int .i64 0, .int .i64 0, .int .i64 0, .int .i64 0, .int .i64 0, .int .i64 0, .int .i64 0, .int .i64 0, .int .i64 0, .int .i64 0, .int .i64 0] 27)).setCells W.heap.size 0 (iv M)) W.heap.size M ∧ Below W.heap.size W ((W.alloc (.cells #[.int .i64 0, .int .i64 0, .int .i64 0, .int .i64 0, .int .i64 0, .int .i64 0, .int .i64 0, .int .i64 0, .int .i64 0, .int .i64 0, .int .i64 0, .int .i64 0, .int .i64 0, .int .i64 0, .int .i64 0, .int .i64 0, .int .i64 0, .int .i64 0, .int .i64 0, .int .i64 0, .int .i64 0, .int .i64 0, .int .i64 0, .int .i64 0, .int .i64 0, .int .i64 0, .int .i64 0, .int .i64 0, .int .i64 0, .int .i64 0, .int .i64 0, .int .i64 0, .int .i64 0, .int .i64 0, .int .i64 0, .int .i64 0, .int .i64 0, .int .i64 0, .int .i64 0, .int .i64 0, .int .i64 0, .int .i64 0, .int .i64 0, .int .i64 0, .int .i64 0, .int .i64 0, .int .i64 0, .int .i64 0, .int .i64 0, .int .i64 0, .int .i64 0, .int .i64 0, .int .i64 0, .int .i64 0, .int .i64 0, .int .i64 0, .int .i64 0, .int .i64 0, .int .i64 0, .int .i64 0, .int .i64 0, .int .i64 0, .int .i64 0, .int .i64 0] 27)).setCells W.heap.size 0 (iv M)) := by
  have := mem_copied W #[.int .i64 0, .int .i64 0, .int .i64 0, .int .i64 0, .int .i64 0, .int .i64 0, .int .i64 0, .int .i64 0, .int .i64 0, .int .i64 0, .int .i64 0, .int .i64 0, .int .i64 0, .int .i64 0, .int .i64 0, .int .i64 0, .int .i64 0, .int .i64 0, .int .i64 0, .int .i64 0, .int .i64 0, .int .i64 0, .int .i64 0, .int .i64 0, .int .i64 0, .int .i64 0, .int .i64 0, .int .i64 0, .int .i64 0, .int .i64 0, .int .i64 0, .int .i64 0, .int .i64 0, .int .i64 0, .int .i64 0, .int .i64 0, .int .i64 0, .int .i64 0, .int .i64 0, .int .i64 0, .int .i64 0, .int .i64 0, .int .i64 0, .int .i64 0, .int .i64 0, .int .i64 0, .int .i64 0, .int .i64 0, .int .i64 0, .int .i64 0, .int .i64 0, .int .i64 0, .int .i64 0, .int .i64 0, .int .i64 0, .int .i64 0, .int .i64 0, .int .i64 0, .int .i64 0, .int .i64 0, .int .i64 0, .int .i64 0, .int .i64 0, .int .i64 0] M rfl hl
  simpa using this
/-- A row of eight is loaded. -/
theorem load_row {W : World} {mb : Nat} {M : List Int} (h : MemAt W mb M) {r : Nat} (hr : r < 8) : (LD24 (.pointer (some ⟨mb, r * 8, none⟩))).run Tryz.prog W = .ok (.agg (iv (row8 M r)).toArray) W := by
  have hl := h.1
  have hlen : (iv (row8 M r)).length = 8 := by unfold iv row8; simp; omega
  have hi24 : (Tryz.prog.info? 24).map (·.size) = some (iv (row8 M r)).length := by rw [hlen]; exact ln24
  refine run_loadAt_mid W mb (r * 8) 24 (iv (row8 M r)) _ ?_ Tryz.underlying24 rfl hi24
  intro j v hj
  have hj8 : j < 8 := by have := (List.getElem?_eq_some_iff.1 hj).1; omega
  have := mem_range h (r * 8 + j) v (by
    unfold iv row8 at hj
    unfold iv
    rw [List.getElem?_map, List.getElem?_take, if_pos hj8, List.getElem?_drop] at hj
    rw [List.getElem?_map]; exact hj)
  rw [Nat.zero_add] at this; exact this
/-- '!=' of two rows of eight. -/
theorem neq_row {a b : List Int} (ha : a.length = 8) (hb : b.length = 8) (W : World) : (binOp .neq 24 (.agg (iv a).toArray) (.agg (iv b).toArray)).run Tryz.prog W = .ok (.bool (!decide (a = b))) W := by
  obtain ⟨x0, x1, x2, x3, x4, x5, x6, x7, rfl⟩ := eight ha
  obtain ⟨y0, y1, y2, y3, y4, y5, y6, y7, rfl⟩ := eight hb
  have e1 : (iv [x0, x1, x2, x3, x4, x5, x6, x7]).toArray = #[.int .i64 x0, .int .i64 x1, .int .i64 x2, .int .i64 x3, .int .i64 x4, .int .i64 x5, .int .i64 x6, .int .i64 x7] := rfl
  have e2 : (iv [y0, y1, y2, y3, y4, y5, y6, y7]).toArray = #[.int .i64 y0, .int .i64 y1, .int .i64 y2, .int .i64 y3, .int .i64 y4, .int .i64 y5, .int .i64 y6, .int .i64 y7] := rfl
  rw [e1, e2, run_neq8]
  congr 2
  unfold eq8
  rw [Bool.eq_iff_iff]
  simp
/-- Eight numbers that are copied. -/
theorem row_copied8 (W : World) (R : List Int) (hl : R.length = 8) :
    (W.alloc (.cells #[.int .i64 0, .int .i64 0, .int .i64 0, .int .i64 0, .int .i64 0, .int .i64 0, .int .i64 0, .int .i64 0] 24)).there W.heap.size 0 (iv R).toArray.size ∧ ((W.alloc (.cells #[.int .i64 0, .int .i64 0, .int .i64 0, .int .i64 0, .int .i64 0, .int .i64 0, .int .i64 0, .int .i64 0] 24)).setCells W.heap.size 0 (iv R)).rangeAt W.heap.size 0 (iv R) ∧ Below W.heap.size W ((W.alloc (.cells #[.int .i64 0, .int .i64 0, .int .i64 0, .int .i64 0, .int .i64 0, .int .i64 0, .int .i64 0, .int .i64 0] 24)).setCells W.heap.size 0 (iv R)) := by
  have hs : (iv R).toArray.size = 8 := by unfold iv; simpa using hl
  have hlv : (iv R).length = 8 := by unfold iv; simpa using hl
  have h0 := World.rowIs_alloc W #[.int .i64 0, .int .i64 0, .int .i64 0, .int .i64 0, .int .i64 0, .int .i64 0, .int .i64 0, .int .i64 0] 24 (fun i => .int .i64 0) (fun i hi => by
    have hi8 : i < 8 := hi
    match i, hi8 with
    | 0, _ => rfl
    | 1, _ => rfl
    | 2, _ => rfl
    | 3, _ => rfl
    | 4, _ => rfl
    | 5, _ => rfl
    | 6, _ => rfl
    | 7, _ => rfl)
  have ht : ∀ j, j < 8 → ((W.alloc (.cells #[.int .i64 0, .int .i64 0, .int .i64 0, .int .i64 0, .int .i64 0, .int .i64 0, .int .i64 0, .int .i64 0] 24)).cell? ⟨W.heap.size, 0 + j, none⟩).isSome = true ∧ (W.alloc (.cells #[.int .i64 0, .int .i64 0, .int .i64 0, .int .i64 0, .int .i64 0, .int .i64 0, .int .i64 0, .int .i64 0] 24)).frozen? ⟨W.heap.size, 0 + j, none⟩ = false := by
    intro j hj
    rw [Nat.zero_add]
    exact ⟨by rw [h0.cell (i := j) hj]; rfl, h0.frozen j⟩
  refine ⟨fun j hj => ht j (by omega), World.rangeAt_setCells_same _ _ _ _ (fun j hj => ht j (by omega)), ?_⟩
  exact (below_alloc W (.cells #[.int .i64 0, .int .i64 0, .int .i64 0, .int .i64 0, .int .i64 0, .int .i64 0, .int .i64 0, .int .i64 0] 24)).trans ⟨(setCells_os _ _ _).1, (setCells_os _ _ _).2.1, (setCells_os _ _ _).2.2, by rw [setCells_size]; exact Nat.le_refl _, fun k hk => setCells_other (by omega) _ _ _⟩
theorem load_8 {W : World} {b : Nat} {R : List Int} (h : W.rangeAt b 0 (iv R)) (hl : R.length = 8) : (LD24 (.pointer (some ⟨b, 0, none⟩))).run Tryz.prog W = .ok (.agg (iv R).toArray) W := by
  have hi24 : (Tryz.prog.info? 24).map (·.size) = some (iv R).length := by rw [show (iv R).length = R.length by unfold iv; simp, hl]; exact ln24
  exact run_loadAt_mid W b 0 24 (iv R) _ h Tryz.underlying24 rfl hi24
theorem range_chg {F F' : Nat → Prop} {x b o : Nat} {w w' : World} {l : List Value} (h : w.rangeAt b o l) (g : Chg F F' x w w') (hf : ¬ F b) (hx : b ≠ x) : w'.rangeAt b o l := fun j v hj => g.cell (h j v hj) hf hx
theorem range_below {b o : Nat} {w w' : World} {l : List Value} (h : w.rangeAt b o l) (g : Below w.heap.size w w') : w'.rangeAt b o l := fun j v hj => keep_cell g (h j v hj)
theorem row8_len {M : List Int} (h : M.length = 64) {r : Nat} (hr : r < 8) : (row8 M r).length = 8 := by unfold row8; simp; omega
theorem deed_memlen (i : Int × Int × Int) (v : V) (M : List Int) : (deed i v M).2.length = M.length := by
  by_cases h : i.1 = 18
  · rw [deed_put _ _ _ h, List.length_set]
  · rw [deed_mem _ _ _ h]
end Go.Proofs.YthhcabddcgckcaaGreatDoor
