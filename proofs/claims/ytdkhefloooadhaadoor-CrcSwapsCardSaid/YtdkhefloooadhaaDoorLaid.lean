/- What is proved here: where the listed variable crc.halves reads as its initialiser lays it, each of its sixteen cells holds what four rounds make of its place ('Hal'); and the heap that the initialisers leave meets that. Conditions: none beyond those each theorem states. -/
import Derived.Test.YtdkhefloooadhaaDoorKnown
import Derived.Test.YtdkhefloooadhaaDoorRows
import Derived.LaidMore
import Derived.Stop.Joined
import Derived.Lib.LaidTab
namespace Go.Proofs.YtdkhefloooadhaaDoor
open Go.ChangeShapes Go.WideShapes Go.RowKit

theorem own : ownKnob Tryd.prog.godebug = none := by kernel_rfl
theorem gHalves : Tryd.prog.globalNamed "camshaft/crc.halves" = some 0 := by kernel_rfl
theorem tHalves : (Tryd.prog.globals[0]?).map (·.type) = some 42 := by kernel_rfl

/-- The list, as the rows have it. -/
def laid1 : List (String × DataW Unit) := [("camshaft/crc.halves", Rows.laid_camshaft_crc_halves)]

theorem door_met (os : Os) (args : Array Value) : laidMetH Tryd.prog laid1 ((World.doorLaid Tryd.prog 400 os).forCall (fun _ _ => 0) ⟨#[], args, []⟩).memory :=
  laidMetH_of_parts3 (fuel := 8) (laidMet_of_run' 8 (by kernel_rfl) (by kernel_rfl)) (by kernel_rfl) (by kernel_rfl)

/-- The table's numbers. -/
def halves : List Int := [0, 4129, 8258, 12387, 16516, 20645, 24774, 28903, 33032, 37161, 41290, 45419, 49548, 53677, 57806, 61935]
theorem halves_num : ∀ i : Fin 16, halves[i.val]? = some ((tab i.val).toNat : Int) := by decide +kernel
theorem halves_tab (i : Fin 16) : (halves.map fun z => Value.int .u16 z)[i.val]? = some (.int .u16 ((tab i.val).toNat : Int)) := by
  rw [List.getElem?_map, halves_num]; rfl

theorem of_laid {W : World} (h : laidMetH Tryd.prog laid1 W) : Hal W := by
  rw [MakeChecks.laidMetH_plain _ _ _ (by kernel_rfl)] at h
  obtain ⟨ps, ⟨g0, t0, cs0, f0, p0, q0, hg0, ht0, hv0, hd0, _, _⟩, _, _⟩ := h
  obtain rfl := Option.some.inj (gHalves.symm.trans hg0)
  obtain rfl := Option.some.inj (tHalves.symm.trans ht0)
  have hcs := Lib.cells_of_tab (zs := halves) (k := .u16) Tryd.underlying42 Tryd.underlying30 (by kernel_rfl) (by kernel_rfl) hd0
  have hcells : ∀ i : Nat, i < 16 → W.cell? ⟨0, i, none⟩ = some (.int .u16 ((tab i).toNat : Int)) := by
    intro i hi
    have hc := World.var?_cell hg0 hv0 i
    rw [← halves_tab ⟨i, hi⟩, ← hcs, Array.getElem?_toList]
    exact hc
  refine ⟨?_, hcells⟩
  have h0 := hcells 0 (by omega)
  unfold World.cell? at h0
  cases hb : W.heap[0]? with
  | none => simp [hb] at h0
  | some o => exact (Array.getElem?_eq_some_iff.1 hb).1
end Go.Proofs.YtdkhefloooadhaaDoor
