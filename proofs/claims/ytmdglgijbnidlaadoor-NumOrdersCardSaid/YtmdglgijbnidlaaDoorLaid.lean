/- What is proved here: where the listed variable num.names reads as its initialiser lays it, each of its thirteen cells holds the name of its place ('Nam'); and the heap that the initialisers leave meets that. Conditions: none beyond those each theorem states. -/
import Derived.Test.YtmdglgijbnidlaaDoorKnown
import Derived.LaidMore
import Derived.Stop.Joined
namespace Go.Proofs.YtmdglgijbnidlaaDoor
open Go.ChangeShapes Go.WideShapes Go.ChangeAt Go.WideMaps Go.WideElems Go.RowKit

theorem own : ownKnob Tryd.prog.godebug = none := by kernel_rfl
theorem gNames : Tryd.prog.globalNamed "camshaft/num.names" = some 0 := by kernel_rfl
theorem tNames : (Tryd.prog.globals[0]?).map (·.type) = some 40 := by kernel_rfl

/-- The list, as the rows have it. -/
def laid1 : List (String × DataW Unit) := [("camshaft/num.names", Rows.laid_camshaft_num_names)]

theorem door_met (os : Os) (args : Array Value) : laidMetH Tryd.prog laid1 ((World.doorLaid Tryd.prog 400 os).forCall (fun _ _ => 0) ⟨#[], args, []⟩).memory :=
  laidMetH_of_parts3 (fuel := 8) (laidMet_of_run' 8 (by kernel_rfl) (by kernel_rfl)) (by kernel_rfl) (by kernel_rfl)

theorem bytes_of {s : ByteArray} {l : List UInt8} (h : s.data.toList = l) : s = ⟨l.toArray⟩ := by
  cases s; subst h; simp

theorem of_laid {W : World} (h : laidMetH Tryd.prog laid1 W) : Nam W := by
  rw [MakeChecks.laidMetH_plain _ _ _ (by kernel_rfl)] at h
  obtain ⟨ps, ⟨g0, t0, cs0, f0, p0, q0, hg0, ht0, hv0, hd0, _, _⟩, _, _⟩ := h
  obtain rfl := Option.some.inj (gNames.symm.trans hg0)
  obtain rfl := Option.some.inj (tNames.symm.trans ht0)
  obtain ⟨xs, m1, rfl, hx1, hlen, hn, hel⟩ := DataW.trod_array Tryd.underlying40 hd0
  have c9 : Tryd.prog.cellsOf 9 = 1 := by kernel_rfl
  have c40 : Tryd.prog.cellsOf 40 = 13 := by kernel_rfl
  rw [c40] at hlen
  simp only [c9, Nat.mul_one] at hel
  simp only [Prod.mk.injEq] at hx1
  have hx := hx1.1
  simp only [Rows.laid_camshaft_num_names, DataW.agg.injEq] at hx
  have hcells : ∀ i : Nat, i < 13 → W.cell? ⟨0, i, none⟩ = some (.string (nameOf i)) := by
    intro i hi
    have hxi : i < xs.length := by omega
    have h0 := hel i hi
    rw [List.getElem?_eq_getElem hxi] at h0
    obtain ⟨s, e1, e2, _⟩ := DataW.trod_string Tryd.underlying9 h0
    have e3 : (xs.map (·.1))[i]? = some (.lit (.string s.data.toList)) := by
      rw [List.getElem?_map, List.getElem?_eq_getElem hxi, e2]; rfl
    rw [← hx] at e3
    have hc := World.var?_cell hg0 hv0 i
    have hs : s = nameOf i := by
      match i, hi, e3 with
      | 0, _, e3 => exact bytes_of (by simpa using e3.symm)
      | 1, _, e3 => exact bytes_of (by simpa using e3.symm)
      | 2, _, e3 => exact bytes_of (by simpa using e3.symm)
      | 3, _, e3 => exact bytes_of (by simpa using e3.symm)
      | 4, _, e3 => exact bytes_of (by simpa using e3.symm)
      | 5, _, e3 => exact bytes_of (by simpa using e3.symm)
      | 6, _, e3 => exact bytes_of (by simpa using e3.symm)
      | 7, _, e3 => exact bytes_of (by simpa using e3.symm)
      | 8, _, e3 => exact bytes_of (by simpa using e3.symm)
      | 9, _, e3 => exact bytes_of (by simpa using e3.symm)
      | 10, _, e3 => exact bytes_of (by simpa using e3.symm)
      | 11, _, e3 => exact bytes_of (by simpa using e3.symm)
      | 12, _, e3 => exact bytes_of (by simpa using e3.symm)
    subst hs
    have hci : cs0[i]? = some (.string (nameOf i)) := by
      have h3 : ((cs0.toList.drop i).take 1)[0]? = some (.string (nameOf i)) := by rw [e1]; rfl
      rw [List.getElem?_take_of_lt (by omega), List.getElem?_drop] at h3
      simpa using h3
    rw [← hci]; exact hc
  refine ⟨?_, hcells⟩
  have h0 := hcells 0 (by omega)
  unfold World.cell? at h0
  cases hb : W.heap[0]? with
  | none => simp [hb] at h0
  | some o => exact (Array.getElem?_eq_some_iff.1 hb).1
end Go.Proofs.YtmdglgijbnidlaaDoor
