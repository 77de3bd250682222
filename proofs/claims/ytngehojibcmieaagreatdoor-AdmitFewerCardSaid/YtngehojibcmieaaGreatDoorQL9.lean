/- What is proved here: where the listed variables op.names and num.names read as their initialisers lay them, each of their cells holds the name of its place ('Nms'); and the heap that the initialisers leave meets that. Conditions: none beyond those each theorem states. how an instruction, and a slice of instructions, that came in is opened: its numbers fit, and the slice reads as a list. how an image that came in is opened: its slices lie in memory, and none of them is longer than one may reach. rows of tasks that a call owns; appends of rows that came in to own rows. Conditions: those each theorem states. -/
import Derived.Test.YtngehojibcmieaaGreatDoorRows
import Derived.OpenShut
import Derived.ProofKit
import Derived.LaidMore
import Derived.Stop.Joined
import Derived.Lib.LaidTab
import Derived.Deep.Slices
import Derived.Deep.Fields
import Derived.Lib.SmallJoins
import Derived.ChangeSame
import Derived.ShutString
import Derived.ChangeOld
import Derived.Carry
import Derived.SizedLaws
import Derived.Test.YtngehojibcmieaaGreatDoorQGj
import Derived.Test.YtngehojibcmieaaGreatDoorQGr
import Derived.Deep.DeepAppendWide
set_option maxRecDepth 100000
set_option maxHeartbeats 8000000
section
section
namespace Go.Proofs.YtngehojibcmieaaGreatDoor
open Go.ChangeShapes Go.WideShapes Go.RowKit
theorem own : ownKnob Tryz.prog.godebug = none := by kernel_rfl
theorem gNum : Tryz.prog.globalNamed "camshaft/num.names" = some 1 := by kernel_rfl
theorem tNum : (Tryz.prog.globals[1]?).map (·.type) = some 267 := by kernel_rfl
theorem gHalves : Tryz.prog.globalNamed "camshaft/crc.halves" = some 0 := by kernel_rfl
theorem tHalves : (Tryz.prog.globals[0]?).map (·.type) = some 262 := by kernel_rfl
def halves : List Int := [0, 4129, 8258, 12387, 16516, 20645, 24774, 28903, 33032, 37161, 41290, 45419, 49548, 53677, 57806, 61935]
def laid1 : List (String × DataW Unit) := [("camshaft/num.names", Rows.laid_camshaft_num_names), ("camshaft/crc.halves", Rows.laid_camshaft_crc_halves)]
theorem door_met (os : Os) (args : Array Value) : laidMetH Tryz.prog laid1 ((World.doorLaid Tryz.prog 400 os).forCall (fun _ _ => 0) ⟨#[], args, []⟩).memory :=
 laidMetH_of_parts3 (fuel := 8) (laidMet_of_run' 8 (by kernel_rfl) (by kernel_rfl)) (by kernel_rfl) (by kernel_rfl)
theorem bytes_of {s : ByteArray} {l : List UInt8} (h : s.data.toList = l) : s = ⟨l.toArray⟩ := by
 cases s; subst h; simp
def tabData (f : Nat → ByteArray) (n : Nat) : List (DataW Unit) := (List.range n).map fun i => .lit (.string (f i).data.toList)
theorem num_data : Rows.laid_camshaft_num_names (H := Unit) = .agg (tabData nameOf 13) := by rfl
theorem tab_cells {W : World} {g t n : Nat} {name : String} {f : Nat → ByteArray} {cs0 : Array Value} {fuel : Nat} {base : Nat} {sp : Nat → Bool} {held : Bool} {enc : TypeId × Value → Unit} {p : List MemPlace}
  (hu : Tryz.prog.underlying t = some (.array n 9)) (hc : Tryz.prog.cellsOf t = n) (hg : Tryz.prog.globalNamed name = some g) (hv : W.var? Tryz.prog name = some cs0)
  (hd : DataW.trod enc Tryz.prog W base sp held fuel t cs0.toList = some (.agg (tabData f n), p)) : ∀ i : Nat, i < n → W.cell? ⟨g, i, none⟩ = some (.string (f i)) := by
 obtain ⟨xs, m1, rfl, hx1, hlen, hn, hel⟩ := DataW.trod_array hu hd
 have c9 : Tryz.prog.cellsOf 9 = 1 := by kernel_rfl
 simp only [c9, Nat.mul_one] at hel
 simp only [Prod.mk.injEq, DataW.agg.injEq] at hx1
 have hx := hx1.1
 intro i hi
 have hxi : i < xs.length := by omega
 have h0 := hel i hi
 rw [List.getElem?_eq_getElem hxi] at h0
 obtain ⟨s, e1, e2, _⟩ := DataW.trod_string Tryz.underlying9 h0
 have e3 : (xs.map (·.1))[i]? = some (.lit (.string s.data.toList)) := by
  rw [List.getElem?_map, List.getElem?_eq_getElem hxi, e2]; rfl
 rw [← hx] at e3
 unfold tabData at e3
 rw [List.getElem?_map, List.getElem?_range hi] at e3
 simp only [Option.map_some, Option.some.injEq, DataW.lit.injEq, Lit.string.injEq] at e3
 have hs : s = f i := by rw [bytes_of e3.symm]
 subst hs
 have hci : cs0[i]? = some (.string (f i)) := by
  have h3 : ((cs0.toList.drop i).take 1)[0]? = some (.string (f i)) := by rw [e1]; rfl
  rw [List.getElem?_take_of_lt (by omega), List.getElem?_drop] at h3
  simpa using h3
 rw [← hci]; exact World.var?_cell hg hv i
theorem of_laid {W : World} (h : laidMetH Tryz.prog laid1 W) : Nms W ∧ 0 < W.heap.size ∧ ∀ i : Nat, i < 16 → W.cell? ⟨0, i, none⟩ = (halves.map fun z => Value.int .u16 z)[i]? := by
 rw [MakeChecks.laidMetH_plain _ _ _ (by kernel_rfl)] at h
 obtain ⟨ps, ⟨g0, t0, cs0, f0, p0, q0, hg0, ht0, hv0, hd0, ⟨g1, t1, cs1, f1, p1, q1, hg1, ht1, hv1, hd1, _, _⟩, _⟩, _, _⟩ := h
 obtain rfl := Option.some.inj (gNum.symm.trans hg0)
 obtain rfl := Option.some.inj (tNum.symm.trans ht0)
 obtain rfl := Option.some.inj (gHalves.symm.trans hg1)
 obtain rfl := Option.some.inj (tHalves.symm.trans ht1)
 rw [num_data] at hd0
 have h1 := tab_cells Tryz.underlying267 (by kernel_rfl) hg0 hv0 hd0
 have hcs := Lib.cells_of_tab (zs := halves) (k := .u16) Tryz.underlying262 Tryz.underlying240 (by kernel_rfl) (by kernel_rfl) hd1
 have hlt := cell_lt (h1 0 (by omega))
 refine ⟨⟨hlt, h1⟩, Nat.lt_of_le_of_lt (Nat.zero_le _) hlt, fun i _ => ?_⟩
 rw [← hcs, Array.getElem?_toList]
 exact World.var?_cell hg1 hv1 i
end Go.Proofs.YtngehojibcmieaaGreatDoor
end
section
namespace Go.Proofs.YtngehojibcmieaaGreatDoor
open Go.ChangeShapes Go.WideShapes Go.RowKit Go.Deep
def Fits (n : Int) : Prop := -9223372036854775808 ≤ n ∧ n ≤ 9223372036854775807
def FitsI (i : Int × Int × Int) : Prop := Fits i.1 ∧ Fits i.2.1 ∧ Fits i.2.2
theorem fits_wf {a : Int} (h : (Lit.int .i64 a).wf = true) : Fits a := by
 have := bounds_i64 h; unfold Fits; omega
theorem laidOut : laidOutB Tryz.prog = true := by kernel_rfl
section
variable {H : Type} {enc : TypeId × Value → H} {W : World} {base : Nat} {sp : Nat → Bool} {held : Bool}
theorem trod_ins {fuel : Nat} {cs : List Value} {x : DataW H × List MemPlace} (h : DataW.trod enc Tryz.prog W base sp held fuel 103 cs = some x) :
  ∃ o a b, cs = [.int .i64 o, .int .i64 a, .int .i64 b] ∧ FitsI (o, a, b) := by
 obtain ⟨xs, n, _, _, hlen, hxs, hf⟩ := DataW.trod_struct Tryz.underlying103 h
 have c23 : Tryz.prog.cellsOf 103 = 3 := by kernel_rfl
 have c3 : Tryz.prog.cellsOf 3 = 1 := by kernel_rfl
 rw [c23] at hlen
 have hx3 : xs.length = 3 := hxs
 have part : ∀ j, j < 3 → ∀ f : Field, (#[({ name := "Op", type := 3, offset := 0, embedded := false, tag := "", pkgPath := "", byteOffset := 0 } : Field), { name := "A", type := 3, offset := 1, embedded := false, tag := "", pkgPath := "", byteOffset := 8 }, { name := "B", type := 3, offset := 2, embedded := false, tag := "", pkgPath := "", byteOffset := 16 }])[j]? = some f → f.type = 3 → f.offset = j → ∃ m, (cs.drop j).take 1 = [.int .i64 m] ∧ Fits m := by
  intro j hj f hfj ht ho
  have h1 := hf j f hfj
  rw [ht, ho, c3, List.getElem?_eq_getElem (by omega)] at h1
  obtain ⟨m, h2, _, h3⟩ := DataW.trod_int Tryz.underlying3 h1
  exact ⟨m, h2, fits_wf h3⟩
 obtain ⟨o, h0, f0⟩ := part 0 (by omega) _ rfl rfl rfl
 obtain ⟨a, h1, f1⟩ := part 1 (by omega) _ rfl rfl rfl
 obtain ⟨b, h2, f2⟩ := part 2 (by omega) _ rfl rfl rfl
 match cs, hlen with
 | [x0, x1, x2], _ =>
  simp at h0 h1 h2
  subst h0 h1 h2
  exact ⟨o, a, b, rfl, f0, f1, f2⟩
end
end Go.Proofs.YtngehojibcmieaaGreatDoor
end
end
section
namespace Go.Proofs.YtngehojibcmieaaGreatDoor
open Go.ChangeShapes Go.WideShapes Go.RowKit Go.Deep
theorem add_none (b off k : Nat) : (⟨b, off, none⟩ : Addr).add k = ⟨b, off + k, none⟩ := by
 unfold Addr.add
 by_cases h : k = 0
 ·subst h; rfl
 ·simp [h]
theorem list_of {α : Type} [Inhabited α] {n : Nat} {p : Nat → α → Prop} (h : ∀ i, i < n → ∃ x, p i x) : ∃ L : List α, n = L.length ∧ ∀ i, i < n → ∃ x, L[i]? = some x ∧ p i x := by
 obtain ⟨f, hf⟩ := choose_lt h
 exact ⟨(List.range n).map f, by simp, fun i hi => ⟨f i, by simp [hi], hf i hi⟩⟩
theorem weightsAll_in {H : Type} {P : Program} {e : TypeId} {d : DataW H} : ∀ {l : List (DataW H)}, d ∈ l → ∀ n ∈ d.weights P e, n ∈ DataW.weightsAll P e l
 | [], h, _, _ => by cases h
 | x :: l, h, n, hn => by
  simp only [DataW.weightsAll, List.mem_append]
  rcases List.mem_cons.1 h with rfl | h
  ·exact Or.inl hn
  ·exact Or.inr (weightsAll_in h n hn)
section
variable {H : Type} {enc : TypeId × Value → H} {W : World} {base : Nat} {sp : Nat → Bool} {held : Bool}
def Few (t : TypeId) (d : DataW H) : Prop := ∀ n ∈ d.weights Tryz.prog t, n ≤ reachBytes
theorem Few.field {t u : TypeId} {fs : Array Field} {parts : List (DataW H)} (h : Few t (.agg parts)) (ht : Tryz.prog.underlying t = some (.struct fs)) {j : Nat} (hf : (fs.toList.map (·.type))[j]? = some u) {d : DataW H} (hd : parts[j]? = some d) : Few u d :=
 fun n hn => h n (by simp only [DataW.weights, ht]; exact DataW.weights_mem_each hf hd n hn)
theorem Few.elem {t u : TypeId} {elems spare : List (DataW H)} (h : Few t (.slice elems spare)) (ht : Tryz.prog.underlying t = some (.slice u)) {d : DataW H} (hd : d ∈ elems) : Few u d :=
 fun n hn => h n (by simp only [DataW.weights, ht, List.mem_cons, List.mem_append]; exact Or.inr (Or.inl (weightsAll_in hd n hn)))
theorem Few.len {t u : TypeId} {elems spare : List (DataW H)} (h : Few t (.slice elems spare)) (ht : Tryz.prog.underlying t = some (.slice u)) : (elems.length + spare.length) * Tryz.prog.bytesOf u ≤ reachBytes :=
 h _ (by simp [DataW.weights, ht])
theorem few_room {n r b : Nat} (h : (n + r) * b ≤ reachBytes) (hb : 8 ≤ b) : n ≤ 140737488355328 := by
 have : (n + r) * 8 ≤ (n + r) * b := Nat.mul_le_mul_left _ hb
 unfold reachBytes at h
 omega
theorem cells_slice {α : Type} [Inhabited α] {t u : TypeId} {k : Nat} {fuel : Nat} {cs : List Value} {x : DataW H × List MemPlace} (p : List Value → α → Prop) (ht : Tryz.prog.underlying t = some (.slice u)) (hk : Tryz.prog.cellsOf u = k) {bb : Nat} (hbb : Tryz.prog.bytesOf u = bb) (hb : 8 ≤ bb) (hk0 : 0 < k)
  (h : DataW.trod enc Tryz.prog W base sp held fuel t cs = some x) (hs : Few t x.1)
  (each : ∀ (n : Nat) (cs' : List Value) (y : DataW H × List MemPlace), DataW.trod enc Tryz.prog W base sp held n u cs' = some y → Few u y.1 → ∃ z, p cs' z) :
  ∃ (s : Sl) (L : List α), cs = [s.v] ∧ s.n ≤ 140737488355328 ∧ s.n = L.length ∧ (0 < s.n → ∃ b off, s.a = some ⟨b, off, none⟩ ∧ b < W.heap.size ∧ ∀ i, i < s.n → ∃ z cs', L[i]? = some z ∧ p cs' z ∧ cs'.length = k ∧ ∀ j, j < k → W.cell? ⟨b, off + i * k + j, none⟩ = cs'[j]?) ∧ s.n ≤ s.c := by
 rcases open_slice ht h with ⟨hcs, _⟩ | ⟨ad, l, c, m, n, D, Pl, hcs, _, hl, hm, hmm, hx, hi⟩
 ·exact ⟨⟨none, 0, 0⟩, [], hcs, Nat.zero_le _, rfl, fun h => absurd h (by show ¬ 0 < 0; omega), Nat.le_refl _⟩
 ·have hlm : l ≤ m := by rw [hmm]; split <;> omega
  rw [hx] at hs
  have hroom := few_room (hs.len ht) (by rw [hbb]; exact hb)
  rw [List.length_map, List.length_range] at hroom
  have fam : ∀ i, i < l → ∃ z, ∃ cs', p cs' z ∧ cs'.length = k ∧ ∀ j, j < k → W.cell? ((ad.add (i * k)).add j) = cs'[j]? := by
   intro i hil
   obtain ⟨cs', hc, hd⟩ := hi i (by omega)
   rw [hk] at hc
   obtain ⟨z, hz⟩ := each n cs' _ hd (hs.elem ht (List.mem_map.2 ⟨i, by simpa using hil, rfl⟩))
   obtain ⟨_, h1, hat⟩ := World.cells?_some hc
   exact ⟨z, cs', hz, h1, fun j hj => hat j hj⟩
  obtain ⟨L, hL, hLi⟩ := list_of fam
  refine ⟨⟨some ad, l, c⟩, L, hcs, hroom, hL, fun h0 => ?_, hl⟩
  have h0' : 0 < l := h0
  obtain ⟨b, off, spot⟩ := ad
  have hsp : spot = none ∧ b < W.heap.size := by
   obtain ⟨z, _, cs', _, hcl, hat⟩ := hLi 0 h0'
   have h1 := hat 0 hk0
   rw [List.getElem?_eq_getElem (by omega)] at h1
   have h2 : W.cell? ⟨b, off, spot⟩ = some cs'[0] := by simpa [Addr.add] using h1
   exact ⟨by simpa using World.cell?_spot h2, cell_lt h2⟩
  obtain ⟨rfl, hblt⟩ := hsp
  refine ⟨b, off, rfl, hblt, fun i hil => ?_⟩
  obtain ⟨z, hz, cs', hp, hcl, hat⟩ := hLi i hil
  refine ⟨z, cs', hz, hp, hcl, fun j hj => ?_⟩
  have := hat j hj
  rw [add_none, add_none] at this
  exact this
theorem few_int {fuel : Nat} {cs : List Value} {x : DataW H × List MemPlace} (h : DataW.trod enc Tryz.prog W base sp held fuel 3 cs = some x) : ∃ n, cs = [.int .i64 n] := by
 obtain ⟨n, h1, _⟩ := DataW.trod_int Tryz.underlying3 h
 exact ⟨n, h1⟩
theorem cells_ints {fuel : Nat} {cs : List Value} {x : DataW H × List MemPlace} (h : DataW.trod enc Tryz.prog W base sp held fuel 22 cs = some x) (hs : Few 22 x.1) :
  ∃ (s : Sl) (l : List Int), cs = [s.v] ∧ SlI W s l := by
 obtain ⟨s, L, h1, h2, h3, h4, h5⟩ := cells_slice (fun cs z => cs = [.int .i64 z]) Tryz.underlying22 (k := 1) (by kernel_rfl) (bb := 8) (by kernel_rfl) (by omega) (by omega) h hs (fun n cs' y hy _ => few_int hy)
 refine ⟨s, L, h1, ⟨h3, fun h0 => ?_⟩, h2⟩
 obtain ⟨b, off, ha, hb, hc⟩ := h4 h0
 refine ⟨b, off, ha, hb, fun i hi => ?_⟩
 obtain ⟨z, cs', hz, rfl, _, hat⟩ := hc i hi
 have := hat 0 (by omega)
 rw [List.getD_eq_getElem?_getD, hz]
 simpa using this
theorem cells_code {fuel : Nat} {cs : List Value} {x : DataW H × List MemPlace} (h : DataW.trod enc Tryz.prog W base sp held fuel 57 cs = some x) (hs : Few 57 x.1) :
  ∃ (s : Sl) (l : List (Int × Int × Int)), cs = [s.v] ∧ SlC W s l := by
 obtain ⟨s, L, h1, h2, h3, h4, h5⟩ := cells_slice (fun cs (z : Int × Int × Int) => cs = [.int .i64 z.1, .int .i64 z.2.1, .int .i64 z.2.2]) Tryz.underlying57 (k := 3) (by kernel_rfl) (bb := 24) (by kernel_rfl) (by omega) (by omega) h hs (fun n cs' y hy _ => by
  obtain ⟨o, a, b, e, _⟩ := trod_ins hy
  exact ⟨(o, a, b), e⟩)
 refine ⟨s, L, h1, ⟨h3, fun h0 => ?_⟩, h2⟩
 obtain ⟨b, off, ha, hb, hc⟩ := h4 h0
 refine ⟨b, off, ha, hb, fun i hi => ?_⟩
 obtain ⟨z, cs', hz, rfl, _, hat⟩ := hc i hi
 rw [List.getD_eq_getElem?_getD, hz]
 exact ⟨by simpa using hat 0 (by omega), by simpa using hat 1 (by omega), by simpa using hat 2 (by omega)⟩
theorem cells_rows {fuel : Nat} {cs : List Value} {x : DataW H × List MemPlace} (h : DataW.trod enc Tryz.prog W base sp held fuel 23 cs = some x) (hs : Few 23 x.1) :
  ∃ (s : Sl) (L : List (List Int)), cs = [s.v] ∧ RowR W s.a s.n L ∧ s.n ≤ 140737488355328 := by
 obtain ⟨s, L, h1, h2, h3, h4, h5⟩ := cells_slice (fun cs (z : List Int) => ∃ s : Sl, cs = [s.v] ∧ SlI W s z) Tryz.underlying23 (k := 1) (by kernel_rfl) (bb := 24) (by kernel_rfl) (by omega) (by omega) h hs (fun n cs' y hy hf => by
  obtain ⟨s, l, e, h⟩ := cells_ints hy hf
  exact ⟨l, s, e, h⟩)
 refine ⟨s, L, h1, ⟨h3, fun h0 => ?_⟩, h2⟩
 obtain ⟨b, off, ha, hb, hc⟩ := h4 h0
 refine ⟨b, off, ha, hb, fun i hi => ?_⟩
 obtain ⟨z, cs', hz, ⟨s', rfl, hsl⟩, _, hat⟩ := hc i hi
 refine ⟨s', ?_, ?_⟩
 ·simpa using hat 0 (by omega)
 ·rw [List.getD_eq_getElem?_getD, hz]; exact hsl
theorem field_at {fs : Array Field} {xs : List (DataW H × List MemPlace)} {n : Nat} {cs : List Value} (hf : ∀ (i : Nat) (f : Field), fs[i]? = some f → DataW.trod enc Tryz.prog W base sp held n f.type ((cs.drop f.offset).take (Tryz.prog.cellsOf f.type)) = xs[i]?)
  (j : Nat) (ty : TypeId) (off : Nat) (h : (fs[j]?).map (fun f => (f.type, f.offset)) = some (ty, off)) (hc : Tryz.prog.cellsOf ty = 1) (hj : j < xs.length) : DataW.trod enc Tryz.prog W base sp held n ty ((cs.drop off).take 1) = some xs[j] := by
 obtain ⟨f, h1, h2⟩ := Option.map_eq_some_iff.1 h
 simp only [Prod.mk.injEq] at h2
 have := hf j f h1
 rw [h2.1, h2.2, hc, List.getElem?_eq_getElem hj] at this
 exact this
theorem seven {cs : List Value} (h : cs.length = 7) : ∃ a b c d e f g, cs = [a, b, c, d, e, f, g] := by
 match cs, h with
 | [a, b, c, d, e, f, g], _ => exact ⟨a, b, c, d, e, f, g, rfl⟩
theorem cells_task {fuel : Nat} {cs : List Value} {x : DataW H × List MemPlace} (h : DataW.trod enc Tryz.prog W base sp held fuel 59 cs = some x) (hs : Few 59 x.1) :
  ∃ (T : TkP) (t : TaV), cs = t.cells ∧ t.Is W T := by
 obtain ⟨xs, n, _, rfl, hlen, hxs, hf⟩ := DataW.trod_struct Tryz.underlying59 h
 have hx7 : xs.length = 7 := hxs
 have c7 : Tryz.prog.cellsOf 59 = 7 := by kernel_rfl
 have c1 : Tryz.prog.cellsOf 3 = 1 := by kernel_rfl
 have c2 : Tryz.prog.cellsOf 22 = 1 := by kernel_rfl
 have c3 : Tryz.prog.cellsOf 57 = 1 := by kernel_rfl
 rw [c7] at hlen
 obtain ⟨v0, v1, v2, v3, v4, v5, v6, rfl⟩ := seven hlen
 have g0 := field_at hf 0 3 0 rfl c1 (by omega)
 have g1 := field_at hf 1 3 1 rfl c1 (by omega)
 have g2 := field_at hf 2 3 2 rfl c1 (by omega)
 have g3 := field_at hf 3 3 3 rfl c1 (by omega)
 have g4 := field_at hf 4 22 4 rfl c2 (by omega)
 have g5 := field_at hf 5 22 5 rfl c2 (by omega)
 have g6 := field_at hf 6 57 6 rfl c3 (by omega)
 simp only [List.drop_succ_cons, List.drop_zero, List.take_succ_cons, List.take_zero] at g0 g1 g2 g3 g4 g5 g6
 obtain ⟨n0, k0⟩ := few_int g0
 obtain ⟨n1, k1⟩ := few_int g1
 obtain ⟨n2, k2⟩ := few_int g2
 obtain ⟨n3, k3⟩ := few_int g3
 have d4 : (xs.map (·.1))[4]? = some xs[4].1 := by rw [List.getElem?_map, List.getElem?_eq_getElem (by omega)]; rfl
 have d5 : (xs.map (·.1))[5]? = some xs[5].1 := by rw [List.getElem?_map, List.getElem?_eq_getElem (by omega)]; rfl
 have d6 : (xs.map (·.1))[6]? = some xs[6].1 := by rw [List.getElem?_map, List.getElem?_eq_getElem (by omega)]; rfl
 obtain ⟨s4, l4, k4, q4⟩ := cells_ints g4 (hs.field Tryz.underlying59 (j := 4) rfl d4)
 obtain ⟨s5, l5, k5, q5⟩ := cells_ints g5 (hs.field Tryz.underlying59 (j := 5) rfl d5)
 obtain ⟨s6, l6, k6, q6⟩ := cells_code g6 (hs.field Tryz.underlying59 (j := 6) rfl d6)
 simp only [List.cons.injEq, and_true] at k0 k1 k2 k3 k4 k5 k6
 subst k0 k1 k2 k3 k4 k5 k6
 exact ⟨⟨n0, n1, n2, n3, l4, l5, l6⟩, ⟨n0, n1, n2, n3, s4, s5, s6⟩, rfl, rfl, rfl, rfl, rfl, q4, q5, q6⟩
instance : Inhabited TkP := ⟨⟨0, 0, 0, 0, [], [], []⟩⟩
theorem cells_tasks {fuel : Nat} {cs : List Value} {x : DataW H × List MemPlace} (h : DataW.trod enc Tryz.prog W base sp held fuel 24 cs = some x) (hs : Few 24 x.1) :
  ∃ (s : Sl) (L : List TkP), cs = [s.v] ∧ (RowT W s.a s.n L ∧ s.n ≤ 140737488355328) ∧ s.n ≤ s.c := by
 obtain ⟨s, L, h1, h2, h3, h4, h5⟩ := cells_slice (fun cs (z : TkP) => ∃ t : TaV, cs = t.cells ∧ t.Is W z) Tryz.underlying24 (k := 7) (by kernel_rfl) (bb := 104) (by kernel_rfl) (by omega) (by omega) h hs (fun n cs' y hy hf => cells_task hy hf)
 refine ⟨s, L, h1, ⟨⟨h3, fun h0 => ?_⟩, h2⟩, h5⟩
 obtain ⟨b, off, ha, hb, hc⟩ := h4 h0
 refine ⟨b, off, ha, hb, fun i hi => ?_⟩
 obtain ⟨z, cs', hz, ⟨t, rfl, ht⟩, _, hat⟩ := hc i hi
 refine ⟨t, z, hz, ht, fun j v hj => ?_⟩
 have h7 : j < 7 := (List.getElem?_eq_some_iff.1 hj).1
 rw [hat j h7]; exact hj
theorem cells_image {fuel : Nat} {cs : List Value} {x : DataW H × List MemPlace} (h : DataW.trod enc Tryz.prog W base sp held fuel 26 cs = some x) (hs : Few 26 x.1) :
  ∃ (t : ImV) (m : ImP), cs = t.cells ∧ t.Is W m ∧ t.tasks.n ≤ t.tasks.c := by
 obtain ⟨xs, n, _, rfl, hlen, hxs, hf⟩ := DataW.trod_struct Tryz.underlying26 h
 have hx7 : xs.length = 7 := hxs
 have c7 : Tryz.prog.cellsOf 26 = 7 := by kernel_rfl
 have c1 : Tryz.prog.cellsOf 3 = 1 := by kernel_rfl
 have c2 : Tryz.prog.cellsOf 22 = 1 := by kernel_rfl
 have c3 : Tryz.prog.cellsOf 23 = 1 := by kernel_rfl
 have c4 : Tryz.prog.cellsOf 24 = 1 := by kernel_rfl
 rw [c7] at hlen
 obtain ⟨v0, v1, v2, v3, v4, v5, v6, rfl⟩ := seven hlen
 have g0 := field_at hf 0 3 0 rfl c1 (by omega)
 have g1 := field_at hf 1 3 1 rfl c1 (by omega)
 have g2 := field_at hf 2 3 2 rfl c1 (by omega)
 have g3 := field_at hf 3 3 3 rfl c1 (by omega)
 have g4 := field_at hf 4 22 4 rfl c2 (by omega)
 have g5 := field_at hf 5 23 5 rfl c3 (by omega)
 have g6 := field_at hf 6 24 6 rfl c4 (by omega)
 simp only [List.drop_succ_cons, List.drop_zero, List.take_succ_cons, List.take_zero] at g0 g1 g2 g3 g4 g5 g6
 obtain ⟨n0, k0⟩ := few_int g0
 obtain ⟨n1, k1⟩ := few_int g1
 obtain ⟨n2, k2⟩ := few_int g2
 obtain ⟨n3, k3⟩ := few_int g3
 have d4 : (xs.map (·.1))[4]? = some xs[4].1 := by rw [List.getElem?_map, List.getElem?_eq_getElem (by omega)]; rfl
 have d5 : (xs.map (·.1))[5]? = some xs[5].1 := by rw [List.getElem?_map, List.getElem?_eq_getElem (by omega)]; rfl
 have d6 : (xs.map (·.1))[6]? = some xs[6].1 := by rw [List.getElem?_map, List.getElem?_eq_getElem (by omega)]; rfl
 obtain ⟨s4, l4, k4, q4⟩ := cells_ints g4 (hs.field Tryz.underlying26 (j := 4) rfl d4)
 obtain ⟨s5, l5, k5, q5⟩ := cells_rows g5 (hs.field Tryz.underlying26 (j := 5) rfl d5)
 obtain ⟨s6, l6, k6, q6, q7⟩ := cells_tasks g6 (hs.field Tryz.underlying26 (j := 6) rfl d6)
 simp only [List.cons.injEq, and_true] at k0 k1 k2 k3 k4 k5 k6
 subst k0 k1 k2 k3 k4 k5 k6
 exact ⟨⟨n0, n1, n2, n3, s4, s5, s6⟩, ⟨n0, n1, n2, n3, l4, l5, l6⟩, rfl, ⟨rfl, rfl, rfl, rfl, q4, q5, q6⟩, q7⟩
theorem open_im {r : Reach} {b0 : Nat} {v : Value} {d : DataW H} {p : List MemPlace} (hv : Value.okWide Tryz.prog W r b0 26 v) (h : DataW.Trod enc Tryz.prog W base sp held 26 v d p) (hs : Few 26 d) :
  ∃ (x : ImV) (m : ImP), v = x.v ∧ x.Is W m ∧ x.tasks.n ≤ x.tasks.c := by
 obtain ⟨cs, rfl, _⟩ := okWide_struct Tryz.underlying26 hv
 obtain ⟨fuel, hf⟩ := h
 obtain ⟨x, m, hc, hi, hq⟩ := cells_image hf hs
 refine ⟨x, m, ?_, hi, hq⟩
 have : cs.toList = x.cells := hc
 rw [← Array.toArray_toList (xs := cs), this]; rfl
end
end Go.Proofs.YtngehojibcmieaaGreatDoor
end
section
namespace Go.Proofs.YtngehojibcmieaaGreatDoor
open Go.ChangeShapes Go.WideShapes Go.RowKit
def tkC (V : List TaV) : List Value := V.flatMap TaV.cells
theorem tkC_len (V : List TaV) : (tkC V).length = V.length * 7 := by
 induction V with
 | nil => rfl
 | cons x l ih => simp only [tkC, List.flatMap_cons, List.length_append, List.length_cons, TaV.cells, List.length_nil] at ih ⊢; omega
theorem tkC_at (V : List TaV) (i j : Nat) (t : TaV) (h : V[i]? = some t) (hj : j < 7) : (tkC V)[i * 7 + j]? = t.cells[j]? := by
 induction V generalizing i with
 | nil => simp at h
 | cons x l ih =>
  have e : tkC (x :: l) = x.cells ++ tkC l := rfl
  rw [e]
  rcases i with _ | i
  ·simp at h
   subst h
   rw [List.getElem?_append_left (by show 0 * 7 + j < 7; omega)]
   rw [show 0 * 7 + j = j by omega]
  ·rw [List.getElem?_append_right (by show 7 ≤ (i + 1) * 7 + j; omega)]
   rw [show (i + 1) * 7 + j - x.cells.length = i * 7 + j by show (i + 1) * 7 + j - 7 = _; omega]
   exact ih i (by simpa using h)
theorem tkC_one (V : List TaV) : ∀ u ∈ tkC V, u.oneCell' = true := by
 intro u hu
 unfold tkC at hu
 rw [List.mem_flatMap] at hu
 obtain ⟨t, _, hi⟩ := hu
 simp [TaV.cells, Sl.v] at hi
 rcases hi with rfl | rfl | rfl | rfl | rfl | rfl | rfl <;> rfl
def TksIs (w : World) (V : List TaV) (L : List TkP) : Prop := V.length = L.length ∧ ∀ (i : Nat) (t : TaV), V[i]? = some t → ∃ T, L[i]? = some T ∧ t.Is w T
theorem TksIs.below {w w' : World} {V : List TaV} {L : List TkP} (h : TksIs w V L) (hb : Below w.heap.size w w') : TksIs w' V L :=
 ⟨h.1, fun i t ht => by obtain ⟨T, h1, h2⟩ := h.2 i t ht; exact ⟨T, h1, h2.below hb⟩⟩
theorem RowT.raw {w : World} {a : Option Addr} {n : Nat} {L : List TkP} (h : RowT w a n L) : ∃ V : List TaV, TksIs w V L ∧
  ∀ (i : Nat) (t : TaV), V[i]? = some t → ∃ b off, a = some ⟨b, off, none⟩ ∧ b < w.heap.size ∧ ∀ j v, t.cells[j]? = some v → w.cell? ⟨b, off + i * 7 + j, none⟩ = some v := by
 obtain ⟨hl, h2⟩ := h
 by_cases h0 : 0 < n
 ·obtain ⟨b, off, e, hlt, hc⟩ := h2 h0
  have many : ∀ k, k ≤ n → ∃ V : List TaV, V.length = k ∧ ∀ (i : Nat) (t : TaV), V[i]? = some t → ∃ T, L[i]? = some T ∧ t.Is w T ∧ ∀ j v, t.cells[j]? = some v → w.cell? ⟨b, off + i * 7 + j, none⟩ = some v := by
   intro k
   induction k with
   | zero => exact fun _ => ⟨[], rfl, fun i t h => by simp at h⟩
   | succ k ih =>
    intro hk
    obtain ⟨V, hV, hV2⟩ := ih (by omega)
    obtain ⟨t, T, h1, h2, h3⟩ := hc k (by omega)
    refine ⟨V ++ [t], by simp [hV], fun i t' ht' => ?_⟩
    by_cases hi : i < V.length
    ·rw [List.getElem?_append_left hi] at ht'
     exact hV2 i t' ht'
    ·rw [List.getElem?_append_right (by omega)] at ht'
     have hi2 : i - V.length = 0 := by
      have := (List.getElem?_eq_some_iff.1 ht').1
      simp at this; omega
     rw [hi2] at ht'
     simp at ht'
     subst ht'
     obtain rfl : i = k := by omega
     exact ⟨T, h1, h2, h3⟩
  obtain ⟨V, hV, hV2⟩ := many n (Nat.le_refl _)
  exact ⟨V, ⟨by omega, fun i t ht => by obtain ⟨T, k1, k2, _⟩ := hV2 i t ht; exact ⟨T, k1, k2⟩⟩, fun i t ht => by obtain ⟨T, _, _, k3⟩ := hV2 i t ht; exact ⟨b, off, e, hlt, k3⟩⟩
 ·obtain rfl : L = [] := List.eq_nil_of_length_eq_zero (by omega)
  exact ⟨[], ⟨rfl, fun i t h => by simp at h⟩, fun i t h => by simp at h⟩
theorem RowT.own {w : World} {base e : Nat} {v : Value} {m : Nat} {V : List TaV} {L : List TkP} (h : w.ownsRow base e 7 v m (tkC V)) (hi : TksIs w V L) :
  ∃ a c, v = .slice a m c ∧ m = L.length ∧ RowT w a m L ∧ ∀ p, a = some p → base ≤ p.block ∧ p.block < w.heap.size := by
 have hl := h.1
 rw [tkC_len] at hl
 have hm : m = L.length := by have := hi.1; omega
 rcases h.2 with ⟨h1, h2⟩ | ⟨g, cap, cur, h1, h2, h3, h4⟩
 ·subst h2
  exact ⟨none, 0, h1, hm, ⟨hm, fun h => absurd h (by omega)⟩, fun p hp => by cases hp⟩
 ·subst h1
  have hlt := h.lt g rfl
  refine ⟨_, cap, rfl, hm, ⟨hm, fun _ => ⟨g, 0, rfl, hlt.2, fun i hi2 => ?_⟩⟩, fun p hp => by cases hp; exact hlt⟩
  have hiv : i < V.length := by have := hi.1; omega
  obtain ⟨T, k1, k2⟩ := hi.2 i V[i] (List.getElem?_eq_getElem hiv)
  refine ⟨V[i], T, k1, k2, fun j u hj => ?_⟩
  have hj7 : j < 7 := (List.getElem?_eq_some_iff.1 hj).1
  have := tkC_at V i j _ (List.getElem?_eq_getElem hiv) hj7
  rw [show 0 + i * 7 + j = i * 7 + j by omega, h.cellAt (i * 7 + j) (by omega), this]
  exact hj
theorem tkC_get (V : List TaV) (i j : Nat) (hi : i < V.length) (hj : j < 7) : (tkC V)[i * 7 + j]? = V[i].cells[j]? := tkC_at V i j _ (List.getElem?_eq_getElem hi) hj
theorem tkC_set (V : List TaV) (i j : Nat) (t' : TaV) (u : Value) (hi : i < V.length) (hj : j < 7) (h : t'.cells = V[i].cells.set j u) : (tkC V).set (i * 7 + j) u = tkC (V.set i t') := by
 refine List.ext_getElem? fun p => ?_
 have hl : (tkC (V.set i t')).length = (tkC V).length := by rw [tkC_len, tkC_len, List.length_set]
 rcases Nat.lt_or_ge p (tkC V).length with hp | hp
 ·rw [tkC_len] at hp
  obtain ⟨a, b, ha, hb, rfl⟩ : ∃ a b, a < V.length ∧ b < 7 ∧ p = a * 7 + b := ⟨p / 7, p % 7, by omega, by omega, by omega⟩
  rw [List.getElem?_set, tkC_get (V.set i t') a b (by rw [List.length_set]; exact ha) hb, tkC_get V a b ha hb]
  by_cases e : i = a
  ·subst e
   have e2 : (V.set i t')[i]'(by rw [List.length_set]; exact ha) = t' := by simp
   rw [e2, h, List.getElem?_set]
   by_cases e3 : j = b
   ·subst e3
    rw [if_pos rfl, if_pos rfl, if_pos (by rw [tkC_len]; omega), if_pos (by show j < 7; exact hj)]
   ·rw [if_neg (by omega), if_neg e3]
  ·have e2 : (V.set i t')[a]'(by rw [List.length_set]; exact ha) = V[a] := by simp [e]
   rw [e2, if_neg (by omega)]
 ·rw [List.getElem?_eq_none (by rw [List.length_set]; exact hp), List.getElem?_eq_none (by rw [hl]; exact hp)]
theorem wpList_append_gen {P : Program} (w : World) {ops : Array Oper} {rest : List Oper} {o : Oper} {a : Act} {Q : Exit → Act → World → Prop} (hw : Region.wanted o (yielded ops a.tmps) = true) (s x : Operand) (t : TypeId)
  (ho : o.op = .call { callee := .builtin .append, args := #[s, x], argTypes := #[t, t] })
  (base : Nat) (e : TypeId) (i : TypeInfo) (z : Value) (size bytes : Nat) (ht : P.underlying t = some (.slice e)) (hi : P.info? e = some i) (hz : i.zero = some z) (hsize : i.size = size) (hby : i.bytes = bytes) (hzs : z.cells.size = size) (hsz : 0 < size) (hb2 : bytes ≤ 200)
  (g n cap : Nat) (xs : List Value) (hs : a.eval s = .slice (some ⟨g, 0, none⟩) n cap) (hown : w.ownsRow base e size (.slice (some ⟨g, 0, none⟩) n cap) n xs)
  (xa : Option Addr) (m c : Nat) (ys : List Value) (hx : a.eval x = .slice xa m c) (hl : ys.length = m * size) (hc : ∀ ad, xa = some ad → ∀ j u, ys[j]? = some u → w.cell? (ad.add j) = some u) (hn : xa = none → m = 0) (h1 : ∀ u ∈ ys, u.oneCell' = true)
  (h63 : n + m ≤ 1000) (hbase : base ≤ w.heap.size)
  (h : ∀ g' cap' w', w'.ownsRow base e size (.slice (some ⟨g', 0, none⟩) (n + m) cap') (n + m) (xs ++ ys) → w.grownBy w' (some g) → wpList P ops Q rest (a.put o.dst (.slice (some ⟨g', 0, none⟩) (n + m) cap')) w') : wpList P ops Q (o :: rest) a w := by
 unfold wpList
 rw [if_pos hw]
 cases xa with
 | none =>
  have hm := hn rfl
  subst hm
  have hl2 : ys = [] := List.eq_nil_of_length_eq_zero (by rw [hl]; omega)
  subst hl2
  have hnc : n ≤ cap := by
   rcases hown.2 with ⟨e, _⟩ | ⟨g', cap', cur, e, _, _, h4, _⟩
   ·cases e
   ·cases e; exact h4
  refine Or.inl (Lib.wp_append_run_sl w s x t ho _ _ hs hx (run_append_none w t o.type e i ht hi g n cap c hnc) ?_)
  exact h g cap w (by simpa using hown) ⟨rfl, rfl, rfl, Nat.le_refl _, fun _ _ _ => rfl⟩
 | some ad =>
  have hbig : ((n + m) + (n + m) / 4 + 192) * bytes ≤ 281474976710656 := by
   have : ((n + m) + (n + m) / 4 + 192) * bytes ≤ 1500 * 200 := Nat.mul_le_mul (by omega) hb2
   omega
  refine Or.inl (wp_append_own_wide w s x t ho base e i z size bytes ht hi hz hsize hby hzs hsz _ n xs hs hown ad m c ys hx hl (hc ad rfl) h1 (by unfold maxLen; omega) hbig hbase ?_)
  intro v' w' k1 k2 k3
  rcases k1.2 with ⟨e1, e0⟩ | ⟨g', cap', cur, e1, _⟩
  ·have := k3.1 e1
   cases this.1
  ·subst e1
   exact h g' cap' w' k1 k2
theorem itk_info : (Tryz.prog.info? 59).map (fun i => (i.zero, i.size, i.bytes)) = some (some (.agg #[.int .i64 0, .int .i64 0, .int .i64 0, .int .i64 0, .slice none 0 0, .slice none 0 0, .slice none 0 0]), 7, 104) := by kernel_rfl
end Go.Proofs.YtngehojibcmieaaGreatDoor
end
