/- What is proved here: what an array of sixteen numbers, and blocks, are as arguments. Conditions: those each theorem states. -/
import Derived.Test.YthncbnalnfbpnaaGreatDoorGq
import Derived.OpenShut
import Derived.ChangeSame
namespace Go.Proofs.YthncbnalnfbpnaaGreatDoor
open Go.ChangeShapes Go.WideShapes Go.RowKit

section
variable {H : Type} {enc : TypeId × Value → H} {W : World} {base : Nat} {sp : Nat → Bool} {held : Bool}
/-- Cells that are numbers, all of them. -/
theorem ints_of (n : Nat) : ∀ (cs : List Value), cs.length = n → (∀ i, i < n → ∃ m, cs[i]? = some (.int .i64 m)) → ∃ l : List Int, cs = l.map (Value.int .i64) ∧ l.length = n := by
  induction n with
  | zero => intro cs h _; exact ⟨[], by simpa using h, rfl⟩
  | succ n ih =>
    intro cs h hc
    cases cs with
    | nil => simp at h
    | cons c r =>
      obtain ⟨m, hm⟩ := hc 0 (by omega)
      obtain ⟨l, h1, h2⟩ := ih r (by simpa using h) (fun i hi => by have := hc (i + 1) (by omega); simpa using this)
      simp at hm
      exact ⟨m :: l, by rw [h1, hm]; rfl, by simp [h2]⟩
theorem c3 : Tryz.prog.cellsOf 3 = 1 := by kernel_rfl
theorem c23 : Tryz.prog.cellsOf 46 = 16 := by kernel_rfl
theorem c24 : Tryz.prog.cellsOf 55 = 8 := by kernel_rfl
theorem c25 : Tryz.prog.cellsOf 56 = 64 := by kernel_rfl
theorem c27 : Tryz.prog.cellsOf 58 = 64 := by kernel_rfl
theorem trod_one {m : Nat} {cs : List Value} {x : DataW H × List MemPlace} {i : Nat} (hi : i < cs.length) (h : DataW.trod enc Tryz.prog W base sp held m 3 ((cs.drop (i * 1)).take 1) = some x) : ∃ k, cs[i]? = some (.int .i64 k) := by
  obtain ⟨k, h2, _, _⟩ := DataW.trod_int Tryz.underlying3 h
  rw [Nat.mul_one, List.drop_eq_getElem_cons hi] at h2
  rw [List.take_succ_cons, List.take_zero] at h2
  exact ⟨k, by rw [List.getElem?_eq_getElem hi]; exact congrArg some (List.cons.inj h2).1⟩
theorem trod_16 {fuel : Nat} {cs : List Value} {x : DataW H × List MemPlace} (h : DataW.trod enc Tryz.prog W base sp held fuel 46 cs = some x) : ∃ l : List Int, cs = l.map (Value.int .i64) ∧ l.length = 16 := by
  obtain ⟨xs, m, _, _, hlen, hxs, hf⟩ := DataW.trod_array Tryz.underlying46 h
  rw [c23] at hlen
  refine ints_of 16 cs hlen fun i hi => ?_
  have h1 := hf i hi
  rw [c3, List.getElem?_eq_getElem (by omega)] at h1
  exact trod_one (by omega) h1
theorem trod_8 {fuel : Nat} {cs : List Value} {x : DataW H × List MemPlace} (h : DataW.trod enc Tryz.prog W base sp held fuel 55 cs = some x) : ∃ l : List Int, cs = l.map (Value.int .i64) ∧ l.length = 8 := by
  obtain ⟨xs, m, _, _, hlen, hxs, hf⟩ := DataW.trod_array Tryz.underlying55 h
  rw [c24] at hlen
  refine ints_of 8 cs hlen fun i hi => ?_
  have h1 := hf i hi
  rw [c3, List.getElem?_eq_getElem (by omega)] at h1
  exact trod_one (by omega) h1
theorem trod_64 {fuel : Nat} {cs : List Value} {x : DataW H × List MemPlace} (h : DataW.trod enc Tryz.prog W base sp held fuel 56 cs = some x) : ∃ l : List Int, cs = l.map (Value.int .i64) ∧ l.length = 64 := by
  obtain ⟨xs, m, _, _, hlen, hxs, hf⟩ := DataW.trod_array Tryz.underlying56 h
  rw [c25] at hlen
  refine ints_of 64 cs hlen fun i hi => ?_
  have h1 := hf (i / 8) (by omega)
  rw [c24, List.getElem?_eq_getElem (by omega)] at h1
  obtain ⟨l, hl, hll⟩ := trod_8 h1
  have h2 : ((cs.drop (i / 8 * 8)).take 8)[i % 8]? = cs[i]? := by
    rw [List.getElem?_take, if_pos (Nat.mod_lt _ (by decide)), List.getElem?_drop, show i / 8 * 8 + i % 8 = i by omega]
  rw [hl, List.getElem?_map, List.getElem?_eq_getElem (by rw [hll]; exact Nat.mod_lt _ (by decide))] at h2
  exact ⟨_, h2.symm⟩
set_option maxRecDepth 100000 in
theorem open_16 {r : Reach} {b0 : Nat} {v : Value} {d : DataW H} {p : List MemPlace} (hv : Value.okWide Tryz.prog W r b0 46 v) (h : DataW.Trod enc Tryz.prog W base sp held 46 v d p) :
    ∃ l : List Int, v = .agg (l.map (Value.int .i64)).toArray ∧ l.length = 16 := by
  have hv' : ∃ cs, v = .agg cs := by
    simp only [Value.okWide, Tryz.underlying46] at hv
    obtain ⟨cs, h1, _⟩ := hv
    exact ⟨cs, h1⟩
  obtain ⟨cs, rfl⟩ := hv'
  obtain ⟨fuel, hf⟩ := h
  obtain ⟨l, hl, hll⟩ := trod_16 hf
  refine ⟨l, ?_, hll⟩
  have : cs.toList = l.map (Value.int .i64) := hl
  rw [← this]
end
end Go.Proofs.YthncbnalnfbpnaaGreatDoor
