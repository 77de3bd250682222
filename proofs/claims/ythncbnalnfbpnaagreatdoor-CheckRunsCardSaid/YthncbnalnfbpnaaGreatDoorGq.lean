/- What is proved here: where the listed variables op.names and num.names read as their initialisers lay them, each of their cells holds the name of its place ('Nms'); and the heap that the initialisers leave meets that. Conditions: none beyond those each theorem states. how an instruction, and a slice of instructions, that came in is opened: its numbers fit, and the slice reads as a list. Conditions: none beyond those each theorem states. -/
import Derived.Test.YthncbnalnfbpnaaGreatDoorGb
import Derived.Test.YthncbnalnfbpnaaGreatDoorRows
import Derived.OpenShut
import Derived.ProofKit
import Derived.LaidMore
import Derived.Stop.Joined
import Derived.Deep.Slices
import Derived.Deep.Fields
import Derived.Lib.SmallJoins
import Derived.ChangeSame
import Derived.ShutString
import Derived.ChangeOld
import Derived.Carry
section
namespace Go.Proofs.YthncbnalnfbpnaaGreatDoor
open Go.ChangeShapes Go.WideShapes Go.RowKit

theorem own : ownKnob Tryz.prog.godebug = none := by kernel_rfl
theorem gNum : Tryz.prog.globalNamed "camshaft/num.names" = some 0 := by kernel_rfl
theorem tNum : (Tryz.prog.globals[0]?).map (·.type) = some 182 := by kernel_rfl

/-- The list, as the rows have it. -/
def laid1 : List (String × DataW Unit) := [("camshaft/num.names", Rows.laid_camshaft_num_names)]

theorem door_met (os : Os) (args : Array Value) : laidMetH Tryz.prog laid1 ((World.doorLaid Tryz.prog 400 os).forCall (fun _ _ => 0) ⟨#[], args, []⟩).memory :=
  laidMetH_of_parts3 (fuel := 8) (laidMet_of_run' 8 (by kernel_rfl) (by kernel_rfl)) (by kernel_rfl) (by kernel_rfl)

theorem bytes_of {s : ByteArray} {l : List UInt8} (h : s.data.toList = l) : s = ⟨l.toArray⟩ := by
  cases s; subst h; simp
/-- A table of names as data. -/
def tabData (f : Nat → ByteArray) (n : Nat) : List (DataW Unit) := (List.range n).map fun i => .lit (.string (f i).data.toList)
theorem num_data : Rows.laid_camshaft_num_names (H := Unit) = .agg (tabData nameOf 13) := by rfl
/-- What a listed table of strings reads as, cell by cell. -/
theorem tab_cells {W : World} {g t n : Nat} {name : String} {f : Nat → ByteArray} {cs0 : Array Value} {fuel : Nat} {base : Nat} {sp : Nat → Bool} {held : Bool} {enc : TypeId × Value → Unit} {p : List MemPlace}
    (hu : Tryz.prog.underlying t = some (.array n 9)) (hc : Tryz.prog.cellsOf t = n) (hg : Tryz.prog.globalNamed name = some g) (hv : W.var? Tryz.prog name = some cs0)
    (hd : DataW.trod enc Tryz.prog W base sp held fuel t cs0.toList = some (.agg (tabData f n), p)) : ∀ i : Nat, i < n → W.cell? ⟨g, i, none⟩ = some (.string (f i)) := by
  obtain ⟨xs, m1, rfl, hx1, hlen, hn, hel⟩ := DataW.trod_array hu hd
  have c9 : Tryz.prog.cellsOf 9 = 1 := by kernel_rfl
  simp only [c9, Nat.mul_one] at hel
  simp only [Prod.mk.injEq, DataW.agg.injEq] at hx1
  have hx := hx1.1
  intro i hi
  have hxi : i < xs.length := by omega
  have h0 := hel i hi
  rw [List.getElem?_eq_getElem hxi] at h0
  obtain ⟨s, e1, e2, _⟩ := DataW.trod_string Tryz.underlying9 h0
  have e3 : (xs.map (·.1))[i]? = some (.lit (.string s.data.toList)) := by
    rw [List.getElem?_map, List.getElem?_eq_getElem hxi, e2]; rfl
  rw [← hx] at e3
  unfold tabData at e3
  rw [List.getElem?_map, List.getElem?_range hi] at e3
  simp only [Option.map_some, Option.some.injEq, DataW.lit.injEq, Lit.string.injEq] at e3
  have hs : s = f i := by rw [bytes_of e3.symm]
  subst hs
  have hci : cs0[i]? = some (.string (f i)) := by
    have h3 : ((cs0.toList.drop i).take 1)[0]? = some (.string (f i)) := by rw [e1]; rfl
    rw [List.getElem?_take_of_lt (by omega), List.getElem?_drop] at h3
    simpa using h3
  rw [← hci]; exact World.var?_cell hg hv i
theorem of_laid {W : World} (h : laidMetH Tryz.prog laid1 W) : Nms W := by
  rw [MakeChecks.laidMetH_plain _ _ _ (by kernel_rfl)] at h
  obtain ⟨ps, ⟨g0, t0, cs0, f0, p0, q0, hg0, ht0, hv0, hd0, _, _⟩, _, _⟩ := h
  obtain rfl := Option.some.inj (gNum.symm.trans hg0)
  obtain rfl := Option.some.inj (tNum.symm.trans ht0)
  rw [num_data] at hd0
  have h1 := tab_cells Tryz.underlying182 (by kernel_rfl) hg0 hv0 hd0
  exact ⟨cell_lt (h1 0 (by omega)), h1⟩
end Go.Proofs.YthncbnalnfbpnaaGreatDoor
end

section
namespace Go.Proofs.YthncbnalnfbpnaaGreatDoor
open Go.ChangeShapes Go.WideShapes Go.RowKit Go.Deep

/-- A number fits 64 bits; so do those of an instruction, and of a row of them. -/
def Fits (n : Int) : Prop := -9223372036854775808 ≤ n ∧ n ≤ 9223372036854775807
def FitsI (i : Int × Int × Int) : Prop := Fits i.1 ∧ Fits i.2.1 ∧ Fits i.2.2
def AllFitI (L : List (Int × Int × Int)) : Prop := ∀ i ∈ L, FitsI i
theorem fits_wf {a : Int} (h : (Lit.int .i64 a).wf = true) : Fits a := by
  have := bounds_i64 h; unfold Fits; omega
theorem laidOut : laidOutB Tryz.prog = true := by kernel_rfl
section
variable {H : Type} {enc : TypeId × Value → H} {W : World} {base : Nat} {sp : Nat → Bool} {held : Bool}
set_option maxRecDepth 100000 in
theorem trod_ins {fuel : Nat} {cs : List Value} {x : DataW H × List MemPlace} (h : DataW.trod enc Tryz.prog W base sp held fuel 70 cs = some x) :
    ∃ o a b, cs = [.int .i64 o, .int .i64 a, .int .i64 b] ∧ FitsI (o, a, b) := by
  obtain ⟨xs, n, _, _, hlen, hxs, hf⟩ := DataW.trod_struct Tryz.underlying70 h
  have c23 : Tryz.prog.cellsOf 70 = 3 := by kernel_rfl
  have c3 : Tryz.prog.cellsOf 3 = 1 := by kernel_rfl
  rw [c23] at hlen
  have hx3 : xs.length = 3 := hxs
  have part : ∀ j, j < 3 → ∀ f : Field, (#[({ name := "Op", type := 3, offset := 0, embedded := false, tag := "", pkgPath := "", byteOffset := 0 } : Field), { name := "A", type := 3, offset := 1, embedded := false, tag := "", pkgPath := "", byteOffset := 8 }, { name := "B", type := 3, offset := 2, embedded := false, tag := "", pkgPath := "", byteOffset := 16 }])[j]? = some f → f.type = 3 → f.offset = j → ∃ m, (cs.drop j).take 1 = [.int .i64 m] ∧ Fits m := by
    intro j hj f hfj ht ho
    have h1 := hf j f hfj
    rw [ht, ho, c3, List.getElem?_eq_getElem (by omega)] at h1
    obtain ⟨m, h2, _, h3⟩ := DataW.trod_int Tryz.underlying3 h1
    exact ⟨m, h2, fits_wf h3⟩
  obtain ⟨o, h0, f0⟩ := part 0 (by omega) _ rfl rfl rfl
  obtain ⟨a, h1, f1⟩ := part 1 (by omega) _ rfl rfl rfl
  obtain ⟨b, h2, f2⟩ := part 2 (by omega) _ rfl rfl rfl
  match cs, hlen with
  | [x0, x1, x2], _ =>
    simp at h0 h1 h2
    subst h0 h1 h2
    exact ⟨o, a, b, rfl, f0, f1, f2⟩
set_option maxRecDepth 100000 in
theorem open_ins {r : Reach} {b0 : Nat} {v : Value} {d : DataW H} {p : List MemPlace} (hv : Value.okWide Tryz.prog W r b0 70 v) (h : DataW.Trod enc Tryz.prog W base sp held 70 v d p) :
    ∃ o a b, v = .agg #[.int .i64 o, .int .i64 a, .int .i64 b] ∧ FitsI (o, a, b) := by
  obtain ⟨cs, rfl, _⟩ := okWide_struct Tryz.underlying70 hv
  obtain ⟨fuel, hf⟩ := h
  obtain ⟨o, a, b, hc, hfit⟩ := trod_ins hf
  refine ⟨o, a, b, ?_, hfit⟩
  have : cs.toList = [.int .i64 o, .int .i64 a, .int .i64 b] := hc
  rw [← Array.toArray_toList (xs := cs), this]
set_option maxRecDepth 100000 in
theorem open_row {a : Option Addr} {len cap : Nat} {d : DataW H} {p : List MemPlace} (h : DataW.Trod enc Tryz.prog W base sp held 50 (.slice a len cap) d p) :
    ∃ L, RowI W a len L ∧ AllFitI L ∧ len ≤ cap ∧ cap ≤ maxLen := by
  obtain ⟨fuel, hf⟩ := h
  rcases open_slice Tryz.underlying50 hf with ⟨hcs, _⟩ | ⟨ad, l, c, m, n, D, Pl, hcs, _, hl, hm, hmm, _, hi⟩
  · simp [Value.cells] at hcs
    obtain ⟨rfl, rfl, rfl⟩ := hcs
    exact ⟨[], RowI.nil _ _, (fun _ hj => by cases hj), Nat.le_refl _, Nat.zero_le _⟩
  · simp [Value.cells] at hcs
    obtain ⟨rfl, rfl, rfl⟩ := hcs
    have hlm : len ≤ m := by rw [hmm]; split <;> omega
    have c23 : Tryz.prog.cellsOf 70 = 3 := by kernel_rfl
    have each : ∀ i, i < len → ∃ t : Int × Int × Int, FitsI t ∧ W.cell? (ad.add (i * 3)) = some (.int .i64 t.1) ∧ W.cell? ((ad.add (i * 3)).add 1) = some (.int .i64 t.2.1) ∧ W.cell? ((ad.add (i * 3)).add 2) = some (.int .i64 t.2.2) := by
      intro i hil
      obtain ⟨cs', hc, ht⟩ := hi i (by omega)
      rw [c23] at hc
      obtain ⟨o, x, y, rfl, hfit⟩ := trod_ins ht
      obtain ⟨_, _, hat⟩ := World.cells?_some hc
      have h0 := hat 0 (by omega)
      have h1 := hat 1 (by omega)
      have h2 := hat 2 (by omega)
      exact ⟨(o, x, y), hfit, by simpa [Addr.add] using h0, by simpa using h1, by simpa using h2⟩
    have many : ∀ k, k ≤ len → ∃ L : List (Int × Int × Int), L.length = k ∧ ∀ i (h : i < L.length), FitsI L[i] ∧ W.cell? (ad.add (i * 3)) = some (.int .i64 L[i].1) ∧ W.cell? ((ad.add (i * 3)).add 1) = some (.int .i64 L[i].2.1) ∧ W.cell? ((ad.add (i * 3)).add 2) = some (.int .i64 L[i].2.2) := by
      intro k
      induction k with
      | zero => exact fun _ => ⟨[], rfl, fun i h => by simp at h⟩
      | succ k ih =>
        intro hk
        obtain ⟨L, hl, hL⟩ := ih (by omega)
        obtain ⟨t, ht⟩ := each k (by omega)
        refine ⟨L ++ [t], by simp [hl], fun i h => ?_⟩
        by_cases hik : i < L.length
        · rw [List.getElem_append_left hik]; exact hL i hik
        · have e : i = k := by simp at h; omega
          subst e
          rw [List.getElem_append_right (by omega)]
          simp only [hl, Nat.sub_self, List.getElem_cons_zero]
          exact ht
    obtain ⟨L, hLl, hL⟩ := many len (Nat.le_refl _)
    refine ⟨L, ⟨hLl.symm, fun h0 => ?_⟩, ?_, hl, hm⟩
    · obtain ⟨b, off, spot⟩ := ad
      have hspot : spot = none := by
        have := (hL 0 (by omega)).2.1
        simpa [Addr.add] using World.cell?_spot this
      subst hspot
      have hb := cell_lt (hL 0 (by omega)).2.1
      refine ⟨b, off, rfl, by simpa [Addr.add] using hb, fun i hi => ?_⟩
      have hil : i < L.length := by omega
      obtain ⟨_, k1, k2, k3⟩ := hL i hil
      have e : L.getD i (0, 0, 0) = L[i] := by rw [List.getD_eq_getElem?_getD, List.getElem?_eq_getElem hil]; rfl
      rw [e]
      by_cases h3 : i * 3 = 0
      · simp only [Addr.add, h3, if_true] at k1 k2 k3
        rw [h3]
        exact ⟨by simpa using k1, by simpa using k2, by simpa using k3⟩
      · simp only [Addr.add, h3, if_false] at k1 k2 k3
        exact ⟨by simpa using k1, by simpa using k2, by simpa using k3⟩
    · intro t ht
      obtain ⟨i, hi, rfl⟩ := List.getElem_of_mem ht
      exact (hL i hi).1
end
end Go.Proofs.YthncbnalnfbpnaaGreatDoor
end
