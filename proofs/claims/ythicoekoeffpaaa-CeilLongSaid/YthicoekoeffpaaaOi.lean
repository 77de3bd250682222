/- What is proved here: how uses of blocks, rows of them, and small arrays that came in are opened. Conditions: none beyond those each theorem states. -/
import Derived.Test.YthicoekoeffpaaaRo
import Derived.ProofKit
import Derived.OpenShut
import Derived.ShutString
import Derived.ChangeOld
import Derived.ChangeSame
import Derived.Below
import Derived.SizedLaws
import Derived.Deep.Slices
import Derived.Deep.Fields
import Derived.Lib.SmallJoins
import Derived.Carry
namespace Go.Proofs.Ythicoekoeffpaaa
open Go.ChangeShapes Go.WideShapes Go.RowKit Go.Deep

theorem add_none (b off k : Nat) : (⟨b, off, none⟩ : Addr).add k = ⟨b, off + k, none⟩ := by
  unfold Addr.add
  by_cases h : k = 0
  · subst h; rfl
  · simp [h]
theorem list_of {α : Type} [Inhabited α] {n : Nat} {p : Nat → α → Prop} (h : ∀ i, i < n → ∃ x, p i x) : ∃ L : List α, n = L.length ∧ ∀ i, i < n → ∃ x, L[i]? = some x ∧ p i x := by
  obtain ⟨f, hf⟩ := choose_lt h
  exact ⟨(List.range n).map f, by simp, fun i hi => ⟨f i, by simp [hi], hf i hi⟩⟩
theorem weightsAll_in {H : Type} {P : Program} {e : TypeId} {d : DataW H} : ∀ {l : List (DataW H)}, d ∈ l → ∀ n ∈ d.weights P e, n ∈ DataW.weightsAll P e l
  | [], h, _, _ => by cases h
  | x :: l, h, n, hn => by
    simp only [DataW.weightsAll, List.mem_append]
    rcases List.mem_cons.1 h with rfl | h
    · exact Or.inl hn
    · exact Or.inr (weightsAll_in h n hn)
section
variable {H : Type} {enc : TypeId × Value → H} {W : World} {base : Nat} {sp : Nat → Bool} {held : Bool}
/-- No part of a datum has more bytes than one may reach. -/
def Few (t : TypeId) (d : DataW H) : Prop := ∀ n ∈ d.weights Try.prog t, n ≤ reachBytes
theorem Few.field {t u : TypeId} {fs : Array Field} {parts : List (DataW H)} (h : Few t (.agg parts)) (ht : Try.prog.underlying t = some (.struct fs)) {j : Nat} (hf : (fs.toList.map (·.type))[j]? = some u) {d : DataW H} (hd : parts[j]? = some d) : Few u d :=
  fun n hn => h n (by simp only [DataW.weights, ht]; exact DataW.weights_mem_each hf hd n hn)
theorem Few.elem {t u : TypeId} {elems spare : List (DataW H)} (h : Few t (.slice elems spare)) (ht : Try.prog.underlying t = some (.slice u)) {d : DataW H} (hd : d ∈ elems) : Few u d :=
  fun n hn => h n (by simp only [DataW.weights, ht, List.mem_cons, List.mem_append]; exact Or.inr (Or.inl (weightsAll_in hd n hn)))
theorem Few.len {t u : TypeId} {elems spare : List (DataW H)} (h : Few t (.slice elems spare)) (ht : Try.prog.underlying t = some (.slice u)) : (elems.length + spare.length) * Try.prog.bytesOf u ≤ reachBytes :=
  h _ (by simp [DataW.weights, ht])
theorem few_room {n r b : Nat} (h : (n + r) * b ≤ reachBytes) (hb : 8 ≤ b) : n ≤ 140737488355328 := by
  have : (n + r) * 8 ≤ (n + r) * b := Nat.mul_le_mul_left _ hb
  unfold reachBytes at h
  omega
/-- A slice of one cell an element, of elements that are told of by a predicate. -/
theorem cells_slice {α : Type} [Inhabited α] {t u : TypeId} {k : Nat} {fuel : Nat} {cs : List Value} {x : DataW H × List MemPlace} (p : List Value → α → Prop) (ht : Try.prog.underlying t = some (.slice u)) (hk : Try.prog.cellsOf u = k) {bb : Nat} (hbb : Try.prog.bytesOf u = bb) (hb : 8 ≤ bb) (hk0 : 0 < k)
    (h : DataW.trod enc Try.prog W base sp held fuel t cs = some x) (hs : Few t x.1)
    (each : ∀ (n : Nat) (cs' : List Value) (y : DataW H × List MemPlace), DataW.trod enc Try.prog W base sp held n u cs' = some y → Few u y.1 → ∃ z, p cs' z) :
    ∃ (s : Sl) (L : List α), cs = [s.v] ∧ s.n ≤ 140737488355328 ∧ s.n = L.length ∧ (0 < s.n → ∃ b off, s.a = some ⟨b, off, none⟩ ∧ b < W.heap.size ∧ ∀ i, i < s.n → ∃ z cs', L[i]? = some z ∧ p cs' z ∧ cs'.length = k ∧ ∀ j, j < k → W.cell? ⟨b, off + i * k + j, none⟩ = cs'[j]?) ∧ s.n ≤ s.c := by
  rcases open_slice ht h with ⟨hcs, _⟩ | ⟨ad, l, c, m, n, D, Pl, hcs, _, hl, hm, hmm, hx, hi⟩
  · exact ⟨⟨none, 0, 0⟩, [], hcs, Nat.zero_le _, rfl, fun h => absurd h (by show ¬ 0 < 0; omega), Nat.le_refl _⟩
  · have hlm : l ≤ m := by rw [hmm]; split <;> omega
    rw [hx] at hs
    have hroom := few_room (hs.len ht) (by rw [hbb]; exact hb)
    rw [List.length_map, List.length_range] at hroom
    have fam : ∀ i, i < l → ∃ z, ∃ cs', p cs' z ∧ cs'.length = k ∧ ∀ j, j < k → W.cell? ((ad.add (i * k)).add j) = cs'[j]? := by
      intro i hil
      obtain ⟨cs', hc, hd⟩ := hi i (by omega)
      rw [hk] at hc
      obtain ⟨z, hz⟩ := each n cs' _ hd (hs.elem ht (List.mem_map.2 ⟨i, by simpa using hil, rfl⟩))
      obtain ⟨_, h1, hat⟩ := World.cells?_some hc
      exact ⟨z, cs', hz, h1, fun j hj => hat j hj⟩
    obtain ⟨L, hL, hLi⟩ := list_of fam
    refine ⟨⟨some ad, l, c⟩, L, hcs, hroom, hL, fun h0 => ?_, hl⟩
    have h0' : 0 < l := h0
    obtain ⟨b, off, spot⟩ := ad
    have hsp : spot = none ∧ b < W.heap.size := by
      obtain ⟨z, _, cs', _, hcl, hat⟩ := hLi 0 h0'
      have h1 := hat 0 hk0
      rw [List.getElem?_eq_getElem (by omega)] at h1
      have h2 : W.cell? ⟨b, off, spot⟩ = some cs'[0] := by simpa [Addr.add] using h1
      exact ⟨by simpa using World.cell?_spot h2, cell_lt h2⟩
    obtain ⟨rfl, hblt⟩ := hsp
    refine ⟨b, off, rfl, hblt, fun i hil => ?_⟩
    obtain ⟨z, hz, cs', hp, hcl, hat⟩ := hLi i hil
    refine ⟨z, cs', hz, hp, hcl, fun j hj => ?_⟩
    have := hat j hj
    rw [add_none, add_none] at this
    exact this
theorem few_int {fuel : Nat} {cs : List Value} {x : DataW H × List MemPlace} (h : DataW.trod enc Try.prog W base sp held fuel 3 cs = some x) : ∃ n, cs = [.int .i64 n] := by
  obtain ⟨n, h1, _⟩ := DataW.trod_int Try.underlying3 h
  exact ⟨n, h1⟩
theorem cells_ints {fuel : Nat} {cs : List Value} {x : DataW H × List MemPlace} (h : DataW.trod enc Try.prog W base sp held fuel 30 cs = some x) (hs : Few 30 x.1) :
    ∃ (s : Sl) (l : List Int), cs = [s.v] ∧ SlI W s l := by
  obtain ⟨s, L, h1, h2, h3, h4, h5⟩ := cells_slice (fun cs z => cs = [.int .i64 z]) Try.underlying30 (k := 1) (by kernel_rfl) (bb := 8) (by kernel_rfl) (by omega) (by omega) h hs (fun n cs' y hy _ => few_int hy)
  refine ⟨s, L, h1, ⟨h3, fun h0 => ?_⟩, h2⟩
  obtain ⟨b, off, ha, hb, hc⟩ := h4 h0
  refine ⟨b, off, ha, hb, fun i hi => ?_⟩
  obtain ⟨z, cs', hz, rfl, _, hat⟩ := hc i hi
  have := hat 0 (by omega)
  rw [List.getD_eq_getElem?_getD, hz]
  simpa using this
theorem field_at {fs : Array Field} {xs : List (DataW H × List MemPlace)} {n : Nat} {cs : List Value} (hf : ∀ (i : Nat) (f : Field), fs[i]? = some f → DataW.trod enc Try.prog W base sp held n f.type ((cs.drop f.offset).take (Try.prog.cellsOf f.type)) = xs[i]?)
    (j : Nat) (ty : TypeId) (off : Nat) (h : (fs[j]?).map (fun f => (f.type, f.offset)) = some (ty, off)) (hc : Try.prog.cellsOf ty = 1) (hj : j < xs.length) : DataW.trod enc Try.prog W base sp held n ty ((cs.drop off).take 1) = some xs[j] := by
  obtain ⟨f, h1, h2⟩ := Option.map_eq_some_iff.1 h
  simp only [Prod.mk.injEq] at h2
  have := hf j f h1
  rw [h2.1, h2.2, hc, List.getElem?_eq_getElem hj] at this
  exact this
theorem three {cs : List Value} (h : cs.length = 3) : ∃ a b c, cs = [a, b, c] := by
  match cs, h with
  | [a, b, c], _ => exact ⟨a, b, c, rfl⟩
theorem cells_use {fuel : Nat} {cs : List Value} {x : DataW H × List MemPlace} (h : DataW.trod enc Try.prog W base sp held fuel 37 cs = some x) (hs : Few 37 x.1) :
    ∃ (u : UsP) (t : UsV), cs = t.cells ∧ t.Is W u := by
  obtain ⟨xs, n, _, rfl, hlen, hxs, hf⟩ := DataW.trod_struct Try.underlying37 h
  have hx3 : xs.length = 3 := hxs
  have c3 : Try.prog.cellsOf 37 = 3 := by kernel_rfl
  have c1 : Try.prog.cellsOf 3 = 1 := by kernel_rfl
  have c2 : Try.prog.cellsOf 30 = 1 := by kernel_rfl
  rw [c3] at hlen
  obtain ⟨v0, v1, v2, rfl⟩ := three hlen
  have g0 := field_at hf 0 3 0 rfl c1 (by omega)
  have g1 := field_at hf 1 30 1 rfl c2 (by omega)
  have g2 := field_at hf 2 30 2 rfl c2 (by omega)
  simp only [List.drop_succ_cons, List.drop_zero, List.take_succ_cons, List.take_zero] at g0 g1 g2
  obtain ⟨n0, k0⟩ := few_int g0
  have d1 : (xs.map (·.1))[1]? = some xs[1].1 := by rw [List.getElem?_map, List.getElem?_eq_getElem (by omega)]; rfl
  have d2 : (xs.map (·.1))[2]? = some xs[2].1 := by rw [List.getElem?_map, List.getElem?_eq_getElem (by omega)]; rfl
  obtain ⟨s1, l1, k1, q1⟩ := cells_ints g1 (hs.field Try.underlying37 (j := 1) rfl d1)
  obtain ⟨s2, l2, k2, q2⟩ := cells_ints g2 (hs.field Try.underlying37 (j := 2) rfl d2)
  simp only [List.cons.injEq, and_true] at k0 k1 k2
  subst k0 k1 k2
  exact ⟨⟨n0, l1, l2⟩, ⟨n0, s1, s2⟩, rfl, rfl, q1, q2⟩
instance : Inhabited UsP := ⟨⟨0, [], []⟩⟩
theorem cells_uses {fuel : Nat} {cs : List Value} {x : DataW H × List MemPlace} (h : DataW.trod enc Try.prog W base sp held fuel 22 cs = some x) (hs : Few 22 x.1) :
    ∃ (s : Sl) (L : List UsP), cs = [s.v] ∧ (RowU W s.a s.n L ∧ s.n ≤ 140737488355328) ∧ s.n ≤ s.c := by
  obtain ⟨s, L, h1, h2, h3, h4, h5⟩ := cells_slice (fun cs (z : UsP) => ∃ t : UsV, cs = t.cells ∧ t.Is W z) Try.underlying22 (k := 3) (by kernel_rfl) (bb := 56) (by kernel_rfl) (by omega) (by omega) h hs (fun n cs' y hy hf => cells_use hy hf)
  refine ⟨s, L, h1, ⟨⟨h3, fun h0 => ?_⟩, h2⟩, h5⟩
  obtain ⟨b, off, ha, hb, hc⟩ := h4 h0
  refine ⟨b, off, ha, hb, fun i hi => ?_⟩
  obtain ⟨z, cs', hz, ⟨t, rfl, ht⟩, _, hat⟩ := hc i hi
  refine ⟨t, z, hz, ht, fun j v hj => ?_⟩
  have h3 : j < 3 := (List.getElem?_eq_some_iff.1 hj).1
  rw [hat j h3]; exact hj
/-- Uses that came in. -/
theorem open_uses {a : Option Addr} {len cap : Nat} {d : DataW H} {p : List MemPlace} (h : DataW.Trod enc Try.prog W base sp held 22 (.slice a len cap) d p) (hs : Few 22 d) :
    ∃ L : List UsP, RowU W a len L ∧ len ≤ 140737488355328 ∧ len ≤ cap := by
  obtain ⟨fuel, hf⟩ := h
  obtain ⟨⟨a', n', c'⟩, L, hc, ⟨hr, hn⟩, hq⟩ := cells_uses hf hs
  have hc : [Value.slice a len cap] = [Value.slice a' n' c'] := hc
  simp only [List.cons.injEq, Value.slice.injEq, and_true] at hc
  obtain ⟨rfl, rfl, rfl⟩ := hc
  exact ⟨L, hr, hn, hq⟩
set_option maxRecDepth 100000 in
/-- A use that came in. -/
theorem open_use {r : Reach} {b0 : Nat} {v : Value} {d : DataW H} {p : List MemPlace} (hv : Value.okWide Try.prog W r b0 37 v) (h : DataW.Trod enc Try.prog W base sp held 37 v d p) (hs : Few 37 d) :
    ∃ (t : UsV) (u : UsP), v = .agg #[.int .i64 t.pr, t.bl.v, t.le.v] ∧ t.Is W u := by
  obtain ⟨cs, rfl, _⟩ := okWide_struct Try.underlying37 hv
  obtain ⟨fuel, hf⟩ := h
  obtain ⟨u, t, hc, hi⟩ := cells_use hf hs
  refine ⟨t, u, ?_, hi⟩
  have : cs.toList = t.cells := hc
  rw [← Array.toArray_toList (xs := cs), this]; rfl
/-- A row of ints that came in. -/
theorem open_row {a : Option Addr} {len cap : Nat} {d : DataW H} {p : List MemPlace} (h : DataW.Trod enc Try.prog W base sp held 30 (.slice a len cap) d p) (hs : Few 30 d) :
    ∃ l : List Int, Row W a len l ∧ len ≤ 140737488355328 ∧ len ≤ cap := by
  obtain ⟨fuel, hf⟩ := h
  obtain ⟨⟨a', n', c'⟩, L, h1, h2, h3, h4, h5⟩ := cells_slice (fun cs z => cs = [.int .i64 z]) Try.underlying30 (k := 1) (by kernel_rfl) (bb := 8) (by kernel_rfl) (by omega) (by omega) hf hs (fun n cs' y hy _ => few_int hy)
  have hc : [Value.slice a len cap] = [Value.slice a' n' c'] := h1
  simp only [List.cons.injEq, Value.slice.injEq, and_true] at hc
  obtain ⟨rfl, rfl, rfl⟩ := hc
  refine ⟨L, ⟨h3, fun h0 => ?_⟩, h2, h5⟩
  obtain ⟨b, off, ha, hb, hc⟩ := h4 h0
  refine ⟨b, off, ha, hb, fun i hi => ?_⟩
  obtain ⟨z, cs', hz, rfl, _, hat⟩ := hc i hi
  have := hat 0 (by omega)
  rw [List.getD_eq_getElem?_getD, hz]
  simpa using this
theorem cu8 : Try.prog.cellsOf 5 = 1 := by kernel_rfl
theorem cu83 : Try.prog.cellsOf 39 = 3 := by kernel_rfl
theorem u8s_of (n : Nat) : ∀ (cs : List Value), cs.length = n → (∀ i, i < n → ∃ m, cs[i]? = some (.int .u8 m) ∧ 0 ≤ m ∧ m ≤ 255) → ∃ l : List Int, cs = l.map (Value.int .u8) ∧ l.length = n ∧ ∀ z ∈ l, 0 ≤ z ∧ z ≤ 255 := by
  induction n with
  | zero => intro cs h _; exact ⟨[], by simpa using h, rfl, fun z hz => by cases hz⟩
  | succ n ih =>
    intro cs h hc
    cases cs with
    | nil => simp at h
    | cons c r =>
      obtain ⟨m, hm, hr⟩ := hc 0 (by omega)
      obtain ⟨l, h1, h2, h3⟩ := ih r (by simpa using h) (fun i hi => by have := hc (i + 1) (by omega); simpa using this)
      simp at hm
      exact ⟨m :: l, by rw [h1, hm]; rfl, by simp [h2], fun z hz => by rcases List.mem_cons.1 hz with rfl | hz; exact hr; exact h3 z hz⟩
theorem trod_u8 {m : Nat} {cs : List Value} {x : DataW H × List MemPlace} {i : Nat} (hi : i < cs.length) (h : DataW.trod enc Try.prog W base sp held m 5 ((cs.drop (i * 1)).take 1) = some x) : ∃ k, cs[i]? = some (.int .u8 k) ∧ 0 ≤ k ∧ k ≤ 255 := by
  obtain ⟨k, h2, _, h3⟩ := DataW.trod_int Try.underlying5 h
  rw [Nat.mul_one, List.drop_eq_getElem_cons hi] at h2
  rw [List.take_succ_cons, List.take_zero] at h2
  have h4 : IntKind.u8.min ≤ k ∧ k ≤ IntKind.u8.max := by simpa [Lit.wf] using h3
  have e1 : IntKind.u8.min = 0 := by decide
  have e2 : IntKind.u8.max = 255 := by decide
  rw [e1, e2] at h4
  exact ⟨k, by rw [List.getElem?_eq_getElem hi]; exact congrArg some (List.cons.inj h2).1, h4⟩
set_option maxRecDepth 100000 in
theorem open_3 {r : Reach} {b0 : Nat} {v : Value} {d : DataW H} {p : List MemPlace} (hv : Value.okWide Try.prog W r b0 39 v) (h : DataW.Trod enc Try.prog W base sp held 39 v d p) :
    ∃ l : List Int, v = .agg (l.map (Value.int .u8)).toArray ∧ l.length = 3 ∧ ∀ z ∈ l, 0 ≤ z ∧ z ≤ 255 := by
  have hv' : ∃ cs, v = .agg cs := by
    simp only [Value.okWide, Try.underlying39] at hv
    obtain ⟨cs, h1, _⟩ := hv
    exact ⟨cs, h1⟩
  obtain ⟨cs, rfl⟩ := hv'
  obtain ⟨fuel, hf⟩ := h
  obtain ⟨xs, m, _, _, hlen, hxs, hf⟩ := DataW.trod_array Try.underlying39 hf
  rw [cu83] at hlen
  have hlen : cs.toList.length = 3 := hlen
  obtain ⟨l, hl, hll, hb⟩ := u8s_of 3 cs.toList hlen fun i hi => by
    have h1 := hf i hi
    rw [cu8] at h1
    have h2 : i < cs.toList.length := by omega
    rw [List.getElem?_eq_getElem (show i < xs.length by omega)] at h1
    exact trod_u8 h2 h1
  refine ⟨l, ?_, hll, hb⟩
  rw [← hl]
theorem three_of : ∀ {l : List Int}, l.length = 3 → ∃ a b c, l = [a, b, c]
  | [a, b, c], _ => ⟨a, b, c, rfl⟩
  | [], h => by simp at h
  | [_], h => by simp at h
  | [_, _], h => by simp at h
  | _ :: _ :: _ :: _ :: _, h => by simp at h
theorem ci64 : Try.prog.cellsOf 3 = 1 := by kernel_rfl
theorem ci643 : Try.prog.cellsOf 33 = 3 := by kernel_rfl
theorem trod_i64 {m : Nat} {cs : List Value} {x : DataW H × List MemPlace} {i : Nat} (hi : i < cs.length) (h : DataW.trod enc Try.prog W base sp held m 3 ((cs.drop (i * 1)).take 1) = some x) : ∃ k, cs[i]? = some (.int .i64 k) ∧ -9223372036854775808 ≤ k ∧ k ≤ 9223372036854775807 := by
  obtain ⟨k, h2, _, h3⟩ := DataW.trod_int Try.underlying3 h
  rw [Nat.mul_one, List.drop_eq_getElem_cons hi] at h2
  rw [List.take_succ_cons, List.take_zero] at h2
  have h4 : IntKind.i64.min ≤ k ∧ k ≤ IntKind.i64.max := by simpa [Lit.wf] using h3
  have e1 : IntKind.i64.min = -9223372036854775808 := by decide
  have e2 : IntKind.i64.max = 9223372036854775807 := by decide
  rw [e1, e2] at h4
  exact ⟨k, by rw [List.getElem?_eq_getElem hi]; exact congrArg some (List.cons.inj h2).1, h4⟩
theorem three_ints {cs : List Value} (h : cs.length = 3) (f : ∀ i, i < 3 → ∃ k, cs[i]? = some (.int .i64 k) ∧ -9223372036854775808 ≤ k ∧ k ≤ 9223372036854775807) : ∃ x y z : Int, cs = [.int .i64 x, .int .i64 y, .int .i64 z] ∧ (-9223372036854775808 ≤ x ∧ x ≤ 9223372036854775807) ∧ (-9223372036854775808 ≤ y ∧ y ≤ 9223372036854775807) ∧ (-9223372036854775808 ≤ z ∧ z ≤ 9223372036854775807) := by
  obtain ⟨a, b, c, rfl⟩ := three h
  obtain ⟨x, hx, x1⟩ := f 0 (by omega)
  obtain ⟨y, hy, y1⟩ := f 1 (by omega)
  obtain ⟨z, hz, z1⟩ := f 2 (by omega)
  simp at hx hy hz
  exact ⟨x, y, z, by rw [hx, hy, hz], x1, y1, z1⟩
set_option maxRecDepth 100000 in
theorem open_3i {r : Reach} {b0 : Nat} {v : Value} {d : DataW H} {p : List MemPlace} (hv : Value.okWide Try.prog W r b0 33 v) (h : DataW.Trod enc Try.prog W base sp held 33 v d p) :
    ∃ x y z : Int, v = .agg #[.int .i64 x, .int .i64 y, .int .i64 z] ∧ (-9223372036854775808 ≤ x ∧ x ≤ 9223372036854775807) ∧ (-9223372036854775808 ≤ y ∧ y ≤ 9223372036854775807) ∧ (-9223372036854775808 ≤ z ∧ z ≤ 9223372036854775807) := by
  have hv' : ∃ cs, v = .agg cs := by
    simp only [Value.okWide, Try.underlying33] at hv
    obtain ⟨cs, h1, _⟩ := hv
    exact ⟨cs, h1⟩
  obtain ⟨cs, rfl⟩ := hv'
  obtain ⟨fuel, hf⟩ := h
  obtain ⟨xs, m, _, _, hlen, hxs, hf⟩ := DataW.trod_array Try.underlying33 hf
  rw [ci643] at hlen
  have hlen : cs.toList.length = 3 := hlen
  obtain ⟨x, y, z, hl, hb⟩ := three_ints hlen fun i hi => by
    have h1 := hf i hi
    rw [ci64] at h1
    have h2 : i < cs.toList.length := by omega
    rw [List.getElem?_eq_getElem (show i < xs.length by omega)] at h1
    exact trod_i64 h2 h1
  refine ⟨x, y, z, ?_, hb⟩
  rw [← Array.toArray_toList (xs := cs), hl]
end
end Go.Proofs.Ythicoekoeffpaaa
