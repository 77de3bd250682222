/- What is proved here: where the listed variables read as their initialisers lay them, they hold what 'Env' says; and the heap that the initialisers leave meets that. Conditions: none beyond those each theorem states. -/
import Derived.Test.YtofmlodfhdjjiaaDoorKnown
import Derived.Test.YtofmlodfhdjjiaaDoorRows
import Derived.OpenShut
import Derived.ProofKit
import Derived.LaidMore
import Derived.Stop.Joined
import Derived.Stop.LaidErr
import Derived.Lib.LaidTab
namespace Go.Proofs.YtofmlodfhdjjiaaDoor
open Go.ChangeShapes Go.WideShapes Go.RowKit

theorem own : ownKnob Tryd.prog.godebug = none := by kernel_rfl
theorem gNum : Tryd.prog.globalNamed "camshaft/num.names" = some 1 := by kernel_rfl
theorem tNum : (Tryd.prog.globals[1]?).map (·.type) = some 79 := by kernel_rfl
theorem gOp : Tryd.prog.globalNamed "camshaft/op.names" = some 0 := by kernel_rfl
theorem tOp : (Tryd.prog.globals[0]?).map (·.type) = some 62 := by kernel_rfl

/-- The list, as the rows have it. -/
def laid1 : List (String × DataW Unit) := [("camshaft/num.names", Rows.laid_camshaft_num_names), ("math/bits.deBruijn32tab", Rows.laid_math_bits_deBruijn32tab), ("math/bits.deBruijn64tab", Rows.laid_math_bits_deBruijn64tab), ("internal/strconv.uint64pow10", Rows.laid_internal_strconv_uint64pow10), ("strconv.ErrRange", Rows.laid_strconv_ErrRange), ("strconv.ErrSyntax", Rows.laid_strconv_ErrSyntax), ("camshaft/op.names", Rows.laid_camshaft_op_names)]

theorem door_met (os : Os) (args : Array Value) : laidMetH Tryd.prog laid1 ((World.doorLaid Tryd.prog 400 os).forCall (fun _ _ => 0) ⟨#[], args, []⟩).memory :=
  laidMetH_of_parts3 (fuel := 8) (laidMet_of_run' 8 (by kernel_rfl) (by kernel_rfl)) (by kernel_rfl) (by kernel_rfl)

theorem bytes_of {s : ByteArray} {l : List UInt8} (h : s.data.toList = l) : s = ⟨l.toArray⟩ := by
  cases s; subst h; simp
/-- A table of names as data. -/
def tabData (f : Nat → ByteArray) (n : Nat) : List (DataW Unit) := (List.range n).map fun i => .lit (.string (f i).data.toList)
theorem num_data : Rows.laid_camshaft_num_names (H := Unit) = .agg (tabData nameOf 13) := by rfl
theorem op_data : Rows.laid_camshaft_op_names (H := Unit) = .agg (tabData opNameOf 26) := by rfl
/-- What a listed table of strings reads as, cell by cell. -/
theorem tab_cells {W : World} {g t n : Nat} {name : String} {f : Nat → ByteArray} {cs0 : Array Value} {fuel : Nat} {base : Nat} {sp : Nat → Bool} {held : Bool} {enc : TypeId × Value → Unit} {p : List MemPlace}
    (hu : Tryd.prog.underlying t = some (.array n 9)) (hc : Tryd.prog.cellsOf t = n) (hg : Tryd.prog.globalNamed name = some g) (hv : W.var? Tryd.prog name = some cs0)
    (hd : DataW.trod enc Tryd.prog W base sp held fuel t cs0.toList = some (.agg (tabData f n), p)) : ∀ i : Nat, i < n → W.cell? ⟨g, i, none⟩ = some (.string (f i)) := by
  obtain ⟨xs, m1, rfl, hx1, hlen, hn, hel⟩ := DataW.trod_array hu hd
  have c9 : Tryd.prog.cellsOf 9 = 1 := by kernel_rfl
  simp only [c9, Nat.mul_one] at hel
  simp only [Prod.mk.injEq, DataW.agg.injEq] at hx1
  have hx := hx1.1
  intro i hi
  have hxi : i < xs.length := by omega
  have h0 := hel i hi
  rw [List.getElem?_eq_getElem hxi] at h0
  obtain ⟨s, e1, e2, _⟩ := DataW.trod_string Tryd.underlying9 h0
  have e3 : (xs.map (·.1))[i]? = some (.lit (.string s.data.toList)) := by
    rw [List.getElem?_map, List.getElem?_eq_getElem hxi, e2]; rfl
  rw [← hx] at e3
  unfold tabData at e3
  rw [List.getElem?_map, List.getElem?_range hi] at e3
  simp only [Option.map_some, Option.some.injEq, DataW.lit.injEq, Lit.string.injEq] at e3
  have hs : s = f i := by rw [bytes_of e3.symm]
  subst hs
  have hci : cs0[i]? = some (.string (f i)) := by
    have h3 : ((cs0.toList.drop i).take 1)[0]? = some (.string (f i)) := by rw [e1]; rfl
    rw [List.getElem?_take_of_lt (by omega), List.getElem?_drop] at h3
    simpa using h3
  rw [← hci]; exact World.var?_cell hg hv i
theorem pow_data : Rows.laid_internal_strconv_uint64pow10 (H := Unit) = Lib.tabData .u64 Lib.pow10Tab := by kernel_rfl
theorem gSyn : Tryd.prog.globalNamed "strconv.ErrSyntax" = some 2 := by kernel_rfl
theorem tSyn : (Tryd.prog.globals[2]?).map (·.type) = some 48 := by kernel_rfl
theorem gRan : Tryd.prog.globalNamed "strconv.ErrRange" = some 3 := by kernel_rfl
theorem tRan : (Tryd.prog.globals[3]?).map (·.type) = some 48 := by kernel_rfl
theorem tPow : (Tryd.prog.globals[4]?).map (·.type) = some 96 := by kernel_rfl
/-- A variable of an interface's type that reads as a value in an interface holds one. -/
theorem iface_of {W : World} {fuel : Nat} {base : Nat} {sp : Nat → Bool} {held : Bool} {enc : TypeId × Value → Unit} {cs : List Value} {nm : String} {d : DataW Unit} {p : List MemPlace}
    (h : DataW.trod enc Tryd.prog W base sp held fuel 48 cs = some (.iface nm d, p)) : ∃ u v, cs = [.iface u v] := by
  cases fuel with
  | zero => simp [DataW.trod] at h
  | succ n =>
    simp only [DataW.trod, Tryd.underlying48] at h
    rcases cs with _ | ⟨x, _ | ⟨y, r⟩⟩
    · simp at h
    · cases x <;> first | (simp at h; done) | exact ⟨_, _, rfl⟩
    · cases x <;> simp at h
theorem iface_cell {W : World} {name nm : String} {d : DataW Unit} {r : List (String × DataW Unit)} {g : Nat} (hg : Tryd.prog.globalNamed name = some g) (ht : (Tryd.prog.globals[g]?).map (·.type) = some 48)
    (h : laidMet Tryd.prog ((name, .iface nm d) :: r) W) : ∃ u v, W.cell? ⟨g, 0, none⟩ = some (.iface u v) := by
  obtain ⟨ps, ⟨g0, t0, cs0, f0, p0, q0, hg0, ht0, hv0, hd0, _, _⟩, _, _⟩ := h
  obtain rfl := Option.some.inj (hg.symm.trans hg0)
  obtain rfl := Option.some.inj (ht.symm.trans ht0)
  obtain ⟨u, v, hc⟩ := iface_of hd0
  refine ⟨u, v, (World.var?_cell hg hv0 0).trans ?_⟩
  rw [← Array.getElem?_toList, hc]; rfl
theorem of_laid {W : World} (h : laidMetH Tryd.prog laid1 W) : Env W := by
  rw [MakeChecks.laidMetH_plain _ _ _ (by kernel_rfl)] at h
  have h3 : laidMet Tryd.prog (("internal/strconv.uint64pow10", Lib.tabData .u64 Lib.pow10Tab) :: laid1.drop 4) W := by
    rw [← pow_data]; exact h.tail.tail.tail
  have hP : Pow W := Lib.tabIs_of_head gPow tPow Tryd.underlying96 Tryd.underlying81 (by kernel_rfl) (by kernel_rfl) h3
  have h4 := h.tail.tail.tail.tail
  have h5 := h4.tail
  obtain ⟨u4, v4, c4⟩ := iface_cell gRan tRan h4
  obtain ⟨u5, v5, c5⟩ := iface_cell gSyn tSyn h5
  have h6 := h5.tail
  obtain ⟨ps, ⟨g0, t0, cs0, f0, p0, q0, hg0, ht0, hv0, hd0, _, _⟩, _, _⟩ := h
  obtain ⟨ps', ⟨g1, t1, cs1, f1, p1, q1, hg1, ht1, hv1, hd1, _, _⟩, _, _⟩ := h6
  obtain rfl := Option.some.inj (gNum.symm.trans hg0)
  obtain rfl := Option.some.inj (tNum.symm.trans ht0)
  obtain rfl := Option.some.inj (gOp.symm.trans hg1)
  obtain rfl := Option.some.inj (tOp.symm.trans ht1)
  rw [num_data] at hd0
  rw [op_data] at hd1
  have h1 := tab_cells Tryd.underlying79 (by kernel_rfl) hg0 hv0 hd0
  have h0 := tab_cells Tryd.underlying62 (by kernel_rfl) hg1 hv1 hd1
  exact ⟨⟨cell_lt (h1 0 (by omega)), h0, h1⟩, cell_lt c4, ⟨_, _, c5⟩, ⟨_, _, c4⟩, hP⟩
end Go.Proofs.YtofmlodfhdjjiaaDoor
