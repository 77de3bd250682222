/- What is proved here: where the listed variables op.names and num.names read as their initialisers lay them, each of their cells holds the name of its place ('Nms'); and the heap that the initialisers leave meets that. Conditions: none beyond those each theorem states. -/
import Derived.Test.YtkkoekfdncoifaaDoorSmall
import Derived.Test.YtkkoekfdncoifaaDoorKeep
import Derived.Test.YtkkoekfdncoifaaDoorRows
import Derived.OpenShut
import Derived.ProofKit
import Derived.LaidMore
import Derived.Stop.Joined
namespace Go.Proofs.YtkkoekfdncoifaaDoor
open Go.ChangeShapes Go.WideShapes Go.RowKit

theorem own : ownKnob Tryd.prog.godebug = none := by kernel_rfl
theorem gNum : Tryd.prog.globalNamed "camshaft/num.names" = some 0 := by kernel_rfl
theorem tNum : (Tryd.prog.globals[0]?).map (·.type) = some 72 := by kernel_rfl

/-- The list, as the rows have it. -/
def laid1 : List (String × DataW Unit) := [("camshaft/num.names", Rows.laid_camshaft_num_names)]

theorem door_met (os : Os) (args : Array Value) : laidMetH Tryd.prog laid1 ((World.doorLaid Tryd.prog 400 os).forCall (fun _ _ => 0) ⟨#[], args, []⟩).memory :=
  laidMetH_of_parts3 (fuel := 8) (laidMet_of_run' 8 (by kernel_rfl) (by kernel_rfl)) (by kernel_rfl) (by kernel_rfl)

theorem bytes_of {s : ByteArray} {l : List UInt8} (h : s.data.toList = l) : s = ⟨l.toArray⟩ := by
  cases s; subst h; simp
/-- A table of names as data. -/
def tabData (f : Nat → ByteArray) (n : Nat) : List (DataW Unit) := (List.range n).map fun i => .lit (.string (f i).data.toList)
theorem num_data : Rows.laid_camshaft_num_names (H := Unit) = .agg (tabData nameOf 13) := by rfl
/-- What a listed table of strings reads as, cell by cell. -/
theorem tab_cells {W : World} {g t n : Nat} {name : String} {f : Nat → ByteArray} {cs0 : Array Value} {fuel : Nat} {base : Nat} {sp : Nat → Bool} {held : Bool} {enc : TypeId × Value → Unit} {p : List MemPlace}
    (hu : Tryd.prog.underlying t = some (.array n 9)) (hc : Tryd.prog.cellsOf t = n) (hg : Tryd.prog.globalNamed name = some g) (hv : W.var? Tryd.prog name = some cs0)
    (hd : DataW.trod enc Tryd.prog W base sp held fuel t cs0.toList = some (.agg (tabData f n), p)) : ∀ i : Nat, i < n → W.cell? ⟨g, i, none⟩ = some (.string (f i)) := by
  obtain ⟨xs, m1, rfl, hx1, hlen, hn, hel⟩ := DataW.trod_array hu hd
  have c9 : Tryd.prog.cellsOf 9 = 1 := by kernel_rfl
  simp only [c9, Nat.mul_one] at hel
  simp only [Prod.mk.injEq, DataW.agg.injEq] at hx1
  have hx := hx1.1
  intro i hi
  have hxi : i < xs.length := by omega
  have h0 := hel i hi
  rw [List.getElem?_eq_getElem hxi] at h0
  obtain ⟨s, e1, e2, _⟩ := DataW.trod_string Tryd.underlying9 h0
  have e3 : (xs.map (·.1))[i]? = some (.lit (.string s.data.toList)) := by
    rw [List.getElem?_map, List.getElem?_eq_getElem hxi, e2]; rfl
  rw [← hx] at e3
  unfold tabData at e3
  rw [List.getElem?_map, List.getElem?_range hi] at e3
  simp only [Option.map_some, Option.some.injEq, DataW.lit.injEq, Lit.string.injEq] at e3
  have hs : s = f i := by rw [bytes_of e3.symm]
  subst hs
  have hci : cs0[i]? = some (.string (f i)) := by
    have h3 : ((cs0.toList.drop i).take 1)[0]? = some (.string (f i)) := by rw [e1]; rfl
    rw [List.getElem?_take_of_lt (by omega), List.getElem?_drop] at h3
    simpa using h3
  rw [← hci]; exact World.var?_cell hg hv i
theorem of_laid {W : World} (h : laidMetH Tryd.prog laid1 W) : Nms W := by
  rw [MakeChecks.laidMetH_plain _ _ _ (by kernel_rfl)] at h
  obtain ⟨ps, ⟨g0, t0, cs0, f0, p0, q0, hg0, ht0, hv0, hd0, _, _⟩, _, _⟩ := h
  obtain rfl := Option.some.inj (gNum.symm.trans hg0)
  obtain rfl := Option.some.inj (tNum.symm.trans ht0)
  rw [num_data] at hd0
  have h1 := tab_cells Tryd.underlying72 (by kernel_rfl) hg0 hv0 hd0
  exact ⟨cell_lt (h1 0 (by omega)), h1⟩
end Go.Proofs.YtkkoekfdncoifaaDoor
