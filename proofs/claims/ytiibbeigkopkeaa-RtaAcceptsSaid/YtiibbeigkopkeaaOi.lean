/- What is proved here: how rows of tasks' numbers, one of them, and a pair of integers that came in are opened. Conditions: none beyond those each theorem states. -/
import Derived.Test.YtiibbeigkopkeaaRw
import Derived.ProofKit
import Derived.OpenShut
import Derived.ShutString
import Derived.ChangeOld
import Derived.ChangeSame
import Derived.Below
import Derived.SizedLaws
import Derived.Deep.Slices
import Derived.Deep.Fields
import Derived.Lib.SmallJoins
import Derived.Carry
namespace Go.Proofs.Ytiibbeigkopkeaa
open Go.ChangeShapes Go.WideShapes Go.RowKit Go.Deep

/-- A slice's three numbers. -/
structure Sl where
  a : Option Addr
  n : Nat
  c : Nat
def Sl.v (s : Sl) : Value := .slice s.a s.n s.c
theorem add_none (b off k : Nat) : (⟨b, off, none⟩ : Addr).add k = ⟨b, off + k, none⟩ := by
  unfold Addr.add
  by_cases h : k = 0
  · subst h; rfl
  · simp [h]
theorem list_of {α : Type} [Inhabited α] {n : Nat} {p : Nat → α → Prop} (h : ∀ i, i < n → ∃ x, p i x) : ∃ L : List α, n = L.length ∧ ∀ i, i < n → ∃ x, L[i]? = some x ∧ p i x := by
  obtain ⟨f, hf⟩ := choose_lt h
  exact ⟨(List.range n).map f, by simp, fun i hi => ⟨f i, by simp [hi], hf i hi⟩⟩
theorem weightsAll_in {H : Type} {P : Program} {e : TypeId} {d : DataW H} : ∀ {l : List (DataW H)}, d ∈ l → ∀ n ∈ d.weights P e, n ∈ DataW.weightsAll P e l
  | [], h, _, _ => by cases h
  | x :: l, h, n, hn => by
    simp only [DataW.weightsAll, List.mem_append]
    rcases List.mem_cons.1 h with rfl | h
    · exact Or.inl hn
    · exact Or.inr (weightsAll_in h n hn)
section
variable {H : Type} {enc : TypeId × Value → H} {W : World} {base : Nat} {sp : Nat → Bool} {held : Bool}
/-- No part of a datum has more bytes than one may reach. -/
def Few (t : TypeId) (d : DataW H) : Prop := ∀ n ∈ d.weights Try.prog t, n ≤ reachBytes
theorem Few.field {t u : TypeId} {fs : Array Field} {parts : List (DataW H)} (h : Few t (.agg parts)) (ht : Try.prog.underlying t = some (.struct fs)) {j : Nat} (hf : (fs.toList.map (·.type))[j]? = some u) {d : DataW H} (hd : parts[j]? = some d) : Few u d :=
  fun n hn => h n (by simp only [DataW.weights, ht]; exact DataW.weights_mem_each hf hd n hn)
theorem Few.elem {t u : TypeId} {elems spare : List (DataW H)} (h : Few t (.slice elems spare)) (ht : Try.prog.underlying t = some (.slice u)) {d : DataW H} (hd : d ∈ elems) : Few u d :=
  fun n hn => h n (by simp only [DataW.weights, ht, List.mem_cons, List.mem_append]; exact Or.inr (Or.inl (weightsAll_in hd n hn)))
theorem Few.len {t u : TypeId} {elems spare : List (DataW H)} (h : Few t (.slice elems spare)) (ht : Try.prog.underlying t = some (.slice u)) : (elems.length + spare.length) * Try.prog.bytesOf u ≤ reachBytes :=
  h _ (by simp [DataW.weights, ht])
theorem few_room {n r b : Nat} (h : (n + r) * b ≤ reachBytes) (hb : 8 ≤ b) : n ≤ 140737488355328 := by
  have : (n + r) * 8 ≤ (n + r) * b := Nat.mul_le_mul_left _ hb
  unfold reachBytes at h
  omega
/-- A slice of one cell an element, of elements that are told of by a predicate. -/
theorem cells_slice {α : Type} [Inhabited α] {t u : TypeId} {k : Nat} {fuel : Nat} {cs : List Value} {x : DataW H × List MemPlace} (p : List Value → α → Prop) (ht : Try.prog.underlying t = some (.slice u)) (hk : Try.prog.cellsOf u = k) {bb : Nat} (hbb : Try.prog.bytesOf u = bb) (hb : 8 ≤ bb) (hk0 : 0 < k)
    (h : DataW.trod enc Try.prog W base sp held fuel t cs = some x) (hs : Few t x.1)
    (each : ∀ (n : Nat) (cs' : List Value) (y : DataW H × List MemPlace), DataW.trod enc Try.prog W base sp held n u cs' = some y → Few u y.1 → ∃ z, p cs' z) :
    ∃ (s : Sl) (L : List α), cs = [s.v] ∧ s.n ≤ 140737488355328 ∧ s.n = L.length ∧ (0 < s.n → ∃ b off, s.a = some ⟨b, off, none⟩ ∧ b < W.heap.size ∧ ∀ i, i < s.n → ∃ z cs', L[i]? = some z ∧ p cs' z ∧ cs'.length = k ∧ ∀ j, j < k → W.cell? ⟨b, off + i * k + j, none⟩ = cs'[j]?) ∧ s.n ≤ s.c := by
  rcases open_slice ht h with ⟨hcs, _⟩ | ⟨ad, l, c, m, n, D, Pl, hcs, _, hl, hm, hmm, hx, hi⟩
  · exact ⟨⟨none, 0, 0⟩, [], hcs, Nat.zero_le _, rfl, fun h => absurd h (by show ¬ 0 < 0; omega), Nat.le_refl _⟩
  · have hlm : l ≤ m := by rw [hmm]; split <;> omega
    rw [hx] at hs
    have hroom := few_room (hs.len ht) (by rw [hbb]; exact hb)
    rw [List.length_map, List.length_range] at hroom
    have fam : ∀ i, i < l → ∃ z, ∃ cs', p cs' z ∧ cs'.length = k ∧ ∀ j, j < k → W.cell? ((ad.add (i * k)).add j) = cs'[j]? := by
      intro i hil
      obtain ⟨cs', hc, hd⟩ := hi i (by omega)
      rw [hk] at hc
      obtain ⟨z, hz⟩ := each n cs' _ hd (hs.elem ht (List.mem_map.2 ⟨i, by simpa using hil, rfl⟩))
      obtain ⟨_, h1, hat⟩ := World.cells?_some hc
      exact ⟨z, cs', hz, h1, fun j hj => hat j hj⟩
    obtain ⟨L, hL, hLi⟩ := list_of fam
    refine ⟨⟨some ad, l, c⟩, L, hcs, hroom, hL, fun h0 => ?_, hl⟩
    have h0' : 0 < l := h0
    obtain ⟨b, off, spot⟩ := ad
    have hsp : spot = none ∧ b < W.heap.size := by
      obtain ⟨z, _, cs', _, hcl, hat⟩ := hLi 0 h0'
      have h1 := hat 0 hk0
      rw [List.getElem?_eq_getElem (by omega)] at h1
      have h2 : W.cell? ⟨b, off, spot⟩ = some cs'[0] := by simpa [Addr.add] using h1
      exact ⟨by simpa using World.cell?_spot h2, cell_lt h2⟩
    obtain ⟨rfl, hblt⟩ := hsp
    refine ⟨b, off, rfl, hblt, fun i hil => ?_⟩
    obtain ⟨z, hz, cs', hp, hcl, hat⟩ := hLi i hil
    refine ⟨z, cs', hz, hp, hcl, fun j hj => ?_⟩
    have := hat j hj
    rw [add_none, add_none] at this
    exact this
theorem few_int {fuel : Nat} {cs : List Value} {x : DataW H × List MemPlace} (h : DataW.trod enc Try.prog W base sp held fuel 3 cs = some x) : ∃ n, cs = [.int .i64 n] := by
  obtain ⟨n, h1, _⟩ := DataW.trod_int Try.underlying3 h
  exact ⟨n, h1⟩
theorem field_at {fs : Array Field} {xs : List (DataW H × List MemPlace)} {n : Nat} {cs : List Value} (hf : ∀ (i : Nat) (f : Field), fs[i]? = some f → DataW.trod enc Try.prog W base sp held n f.type ((cs.drop f.offset).take (Try.prog.cellsOf f.type)) = xs[i]?)
    (j : Nat) (ty : TypeId) (off : Nat) (h : (fs[j]?).map (fun f => (f.type, f.offset)) = some (ty, off)) (hc : Try.prog.cellsOf ty = 1) (hj : j < xs.length) : DataW.trod enc Try.prog W base sp held n ty ((cs.drop off).take 1) = some xs[j] := by
  obtain ⟨f, h1, h2⟩ := Option.map_eq_some_iff.1 h
  simp only [Prod.mk.injEq] at h2
  have := hf j f h1
  rw [h2.1, h2.2, hc, List.getElem?_eq_getElem hj] at this
  exact this
theorem six {cs : List Value} (h : cs.length = 6) : ∃ a b c d e f, cs = [a, b, c, d, e, f] := by
  match cs, h with
  | [a, b, c, d, e, f], _ => exact ⟨a, b, c, d, e, f, rfl⟩
theorem cells_rt {fuel : Nat} {cs : List Value} {x : DataW H × List MemPlace} (h : DataW.trod enc Try.prog W base sp held fuel 41 cs = some x) : ∃ r : RtR, cs = rtC r := by
  obtain ⟨xs, n, _, rfl, hlen, hxs, hf⟩ := DataW.trod_struct Try.underlying41 h
  have hx6 : xs.length = 6 := hxs
  have c6 : Try.prog.cellsOf 41 = 6 := by kernel_rfl
  have c1 : Try.prog.cellsOf 3 = 1 := by kernel_rfl
  rw [c6] at hlen
  obtain ⟨v0, v1, v2, v3, v4, v5, rfl⟩ := six hlen
  have g0 := field_at hf 0 3 0 rfl c1 (by omega)
  have g1 := field_at hf 1 3 1 rfl c1 (by omega)
  have g2 := field_at hf 2 3 2 rfl c1 (by omega)
  have g3 := field_at hf 3 3 3 rfl c1 (by omega)
  have g4 := field_at hf 4 3 4 rfl c1 (by omega)
  have g5 := field_at hf 5 3 5 rfl c1 (by omega)
  simp only [List.drop_succ_cons, List.drop_zero, List.take_succ_cons, List.take_zero] at g0 g1 g2 g3 g4 g5
  obtain ⟨n0, k0⟩ := few_int g0
  obtain ⟨n1, k1⟩ := few_int g1
  obtain ⟨n2, k2⟩ := few_int g2
  obtain ⟨n3, k3⟩ := few_int g3
  obtain ⟨n4, k4⟩ := few_int g4
  obtain ⟨n5, k5⟩ := few_int g5
  simp only [List.cons.injEq, and_true] at k0 k1 k2 k3 k4 k5
  subst k0 k1 k2 k3 k4 k5
  exact ⟨⟨n0, n1, n2, n3, n4, n5⟩, rfl⟩
instance : Inhabited RtR := ⟨⟨0, 0, 0, 0, 0, 0⟩⟩
/-- Rows that came in. -/
theorem open_rows {a : Option Addr} {len cap : Nat} {d : DataW H} {p : List MemPlace} (h : DataW.Trod enc Try.prog W base sp held 22 (.slice a len cap) d p) (hs : Few 22 d) :
    ∃ L : List RtR, RowS W a len L ∧ len ≤ 140737488355328 ∧ len ≤ cap := by
  obtain ⟨fuel, hf⟩ := h
  obtain ⟨⟨a', n', c'⟩, L, h1, h2, h3, h4, h5⟩ := cells_slice (fun cs (z : RtR) => cs = rtC z) Try.underlying22 (k := 6) (by kernel_rfl) (bb := 48) (by kernel_rfl) (by omega) (by omega) hf hs (fun n cs' y hy _ => cells_rt hy)
  have hc : [Value.slice a len cap] = [Value.slice a' n' c'] := h1
  simp only [List.cons.injEq, Value.slice.injEq, and_true] at hc
  obtain ⟨rfl, rfl, rfl⟩ := hc
  refine ⟨L, ⟨h3, fun h0 => ?_⟩, h2, h5⟩
  obtain ⟨b, off, ha, hb, hc⟩ := h4 h0
  refine ⟨b, off, ha, hb, fun i hi => ?_⟩
  obtain ⟨z, cs', hz, rfl, _, hat⟩ := hc i hi
  refine ⟨z, hz, fun j v hj => ?_⟩
  have h3 : j < 6 := (List.getElem?_eq_some_iff.1 hj).1
  rw [hat j h3]; exact hj
set_option maxRecDepth 100000 in
/-- A row that came in. -/
theorem open_rt {r : Reach} {b0 : Nat} {v : Value} {d : DataW H} {p : List MemPlace} (hv : Value.okWide Try.prog W r b0 41 v) (h : DataW.Trod enc Try.prog W base sp held 41 v d p) :
    ∃ x : RtR, v = .agg #[.int .i64 x.C, .int .i64 x.B, .int .i64 x.T, .int .i64 x.D, .int .i64 x.J, .int .i64 x.P] := by
  obtain ⟨cs, rfl, _⟩ := okWide_struct Try.underlying41 hv
  obtain ⟨fuel, hf⟩ := h
  obtain ⟨x, hc⟩ := cells_rt hf
  refine ⟨x, ?_⟩
  have : cs.toList = rtC x := hc
  rw [← Array.toArray_toList (xs := cs), this]; rfl
theorem ci64 : Try.prog.cellsOf 3 = 1 := by kernel_rfl
theorem ci642 : Try.prog.cellsOf 43 = 2 := by kernel_rfl
theorem trod_i64 {m : Nat} {cs : List Value} {x : DataW H × List MemPlace} {i : Nat} (hi : i < cs.length) (h : DataW.trod enc Try.prog W base sp held m 3 ((cs.drop (i * 1)).take 1) = some x) : ∃ k, cs[i]? = some (.int .i64 k) ∧ -9223372036854775808 ≤ k ∧ k ≤ 9223372036854775807 := by
  obtain ⟨k, h2, _, h3⟩ := DataW.trod_int Try.underlying3 h
  rw [Nat.mul_one, List.drop_eq_getElem_cons hi] at h2
  rw [List.take_succ_cons, List.take_zero] at h2
  have h4 : IntKind.i64.min ≤ k ∧ k ≤ IntKind.i64.max := by simpa [Lit.wf] using h3
  have e1 : IntKind.i64.min = -9223372036854775808 := by decide
  have e2 : IntKind.i64.max = 9223372036854775807 := by decide
  rw [e1, e2] at h4
  exact ⟨k, by rw [List.getElem?_eq_getElem hi]; exact congrArg some (List.cons.inj h2).1, h4⟩
theorem two_ints {cs : List Value} (h : cs.length = 2) (f : ∀ i, i < 2 → ∃ k, cs[i]? = some (.int .i64 k) ∧ -9223372036854775808 ≤ k ∧ k ≤ 9223372036854775807) : ∃ x y : Int, cs = [.int .i64 x, .int .i64 y] ∧ (-9223372036854775808 ≤ x ∧ x ≤ 9223372036854775807) ∧ (-9223372036854775808 ≤ y ∧ y ≤ 9223372036854775807) := by
  match cs, h with
  | [a, b], _ =>
    obtain ⟨x, hx, x1⟩ := f 0 (by omega)
    obtain ⟨y, hy, y1⟩ := f 1 (by omega)
    simp at hx hy
    exact ⟨x, y, by rw [hx, hy], x1, y1⟩
set_option maxRecDepth 100000 in
theorem open_2i {r : Reach} {b0 : Nat} {v : Value} {d : DataW H} {p : List MemPlace} (hv : Value.okWide Try.prog W r b0 43 v) (h : DataW.Trod enc Try.prog W base sp held 43 v d p) :
    ∃ x y : Int, v = .agg #[.int .i64 x, .int .i64 y] ∧ (-9223372036854775808 ≤ x ∧ x ≤ 9223372036854775807) ∧ (-9223372036854775808 ≤ y ∧ y ≤ 9223372036854775807) := by
  have hv' : ∃ cs, v = .agg cs := by
    simp only [Value.okWide, Try.underlying43] at hv
    obtain ⟨cs, h1, _⟩ := hv
    exact ⟨cs, h1⟩
  obtain ⟨cs, rfl⟩ := hv'
  obtain ⟨fuel, hf⟩ := h
  obtain ⟨xs, m, _, _, hlen, hxs, hf⟩ := DataW.trod_array Try.underlying43 hf
  rw [ci642] at hlen
  have hlen : cs.toList.length = 2 := hlen
  obtain ⟨x, y, hl, hb⟩ := two_ints hlen fun i hi => by
    have h1 := hf i hi
    rw [ci64] at h1
    have h2 : i < cs.toList.length := by omega
    rw [List.getElem?_eq_getElem (show i < xs.length by omega)] at h1
    exact trod_i64 h2 h1
  refine ⟨x, y, ?_, hb⟩
  rw [← Array.toArray_toList (xs := cs), hl]
end
end Go.Proofs.Ytiibbeigkopkeaa
