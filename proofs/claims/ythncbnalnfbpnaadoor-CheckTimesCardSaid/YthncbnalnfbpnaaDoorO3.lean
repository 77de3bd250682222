/- What is proved here: what an array of three small numbers is as an argument. Conditions: those each theorem states. -/
import Derived.Test.YthncbnalnfbpnaaDoorIo
import Derived.OpenShut
import Derived.ChangeSame
namespace Go.Proofs.YthncbnalnfbpnaaDoor
open Go.ChangeShapes Go.WideShapes Go.RowKit

section
variable {H : Type} {enc : TypeId × Value → H} {W : World} {base : Nat} {sp : Nat → Bool} {held : Bool}
theorem cu8 : Tryd.prog.cellsOf 5 = 1 := by kernel_rfl
theorem cu83 : Tryd.prog.cellsOf 43 = 3 := by kernel_rfl
theorem u8s_of (n : Nat) : ∀ (cs : List Value), cs.length = n → (∀ i, i < n → ∃ m, cs[i]? = some (.int .u8 m) ∧ 0 ≤ m ∧ m ≤ 255) → ∃ l : List Int, cs = l.map (Value.int .u8) ∧ l.length = n ∧ ∀ z ∈ l, 0 ≤ z ∧ z ≤ 255 := by
  induction n with
  | zero => intro cs h _; exact ⟨[], by simpa using h, rfl, fun z hz => by cases hz⟩
  | succ n ih =>
    intro cs h hc
    cases cs with
    | nil => simp at h
    | cons c r =>
      obtain ⟨m, hm, hr⟩ := hc 0 (by omega)
      obtain ⟨l, h1, h2, h3⟩ := ih r (by simpa using h) (fun i hi => by have := hc (i + 1) (by omega); simpa using this)
      simp at hm
      exact ⟨m :: l, by rw [h1, hm]; rfl, by simp [h2], fun z hz => by rcases List.mem_cons.1 hz with rfl | hz; exact hr; exact h3 z hz⟩
theorem trod_u8 {m : Nat} {cs : List Value} {x : DataW H × List MemPlace} {i : Nat} (hi : i < cs.length) (h : DataW.trod enc Tryd.prog W base sp held m 5 ((cs.drop (i * 1)).take 1) = some x) : ∃ k, cs[i]? = some (.int .u8 k) ∧ 0 ≤ k ∧ k ≤ 255 := by
  obtain ⟨k, h2, _, h3⟩ := DataW.trod_int Tryd.underlying5 h
  rw [Nat.mul_one, List.drop_eq_getElem_cons hi] at h2
  rw [List.take_succ_cons, List.take_zero] at h2
  have h4 : IntKind.u8.min ≤ k ∧ k ≤ IntKind.u8.max := by simpa [Lit.wf] using h3
  have e1 : IntKind.u8.min = 0 := by decide
  have e2 : IntKind.u8.max = 255 := by decide
  rw [e1, e2] at h4
  exact ⟨k, by rw [List.getElem?_eq_getElem hi]; exact congrArg some (List.cons.inj h2).1, h4⟩
set_option maxRecDepth 100000 in
theorem open_3 {r : Reach} {b0 : Nat} {v : Value} {d : DataW H} {p : List MemPlace} (hv : Value.okWide Tryd.prog W r b0 43 v) (h : DataW.Trod enc Tryd.prog W base sp held 43 v d p) :
    ∃ l : List Int, v = .agg (l.map (Value.int .u8)).toArray ∧ l.length = 3 ∧ ∀ z ∈ l, 0 ≤ z ∧ z ≤ 255 := by
  have hv' : ∃ cs, v = .agg cs := by
    simp only [Value.okWide, Tryd.underlying43] at hv
    obtain ⟨cs, h1, _⟩ := hv
    exact ⟨cs, h1⟩
  obtain ⟨cs, rfl⟩ := hv'
  obtain ⟨fuel, hf⟩ := h
  obtain ⟨xs, m, _, _, hlen, hxs, hf⟩ := DataW.trod_array Tryd.underlying43 hf
  rw [cu83] at hlen
  have hlen : cs.toList.length = 3 := hlen
  obtain ⟨l, hl, hll, hb⟩ := u8s_of 3 cs.toList hlen fun i hi => by
    have h1 := hf i hi
    rw [cu8] at h1
    have h2 : i < cs.toList.length := by omega
    rw [List.getElem?_eq_getElem (show i < xs.length by omega)] at h1
    exact trod_u8 h2 h1
  refine ⟨l, ?_, hll, hb⟩
  rw [← hl]
theorem three_of : ∀ {l : List Int}, l.length = 3 → ∃ a b c, l = [a, b, c]
  | [a, b, c], _ => ⟨a, b, c, rfl⟩
  | [], h => by simp at h
  | [_], h => by simp at h
  | [_, _], h => by simp at h
  | _ :: _ :: _ :: _ :: _, h => by simp at h
end
end Go.Proofs.YthncbnalnfbpnaaDoor
