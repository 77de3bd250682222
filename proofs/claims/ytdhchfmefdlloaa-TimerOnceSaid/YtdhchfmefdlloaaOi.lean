/- What is proved here: how rows of ints, rows of such rows, rows of small numbers, and two small numbers that came in are opened. Conditions: none beyond those each theorem states. -/
import Derived.Test.YtdhchfmefdlloaaRo
import Derived.ProofKit
import Derived.OpenShut
import Derived.ShutString
import Derived.ChangeOld
import Derived.ChangeSame
import Derived.Below
import Derived.SizedLaws
import Derived.Deep.Slices
import Derived.Deep.Fields
import Derived.Lib.SmallJoins
import Derived.Carry
namespace Go.Proofs.Ytdhchfmefdlloaa
open Go.ChangeShapes Go.WideShapes Go.RowKit Go.Deep

theorem add_none (b off k : Nat) : (⟨b, off, none⟩ : Addr).add k = ⟨b, off + k, none⟩ := by
  unfold Addr.add
  by_cases h : k = 0
  · subst h; rfl
  · simp [h]
theorem list_of {α : Type} [Inhabited α] {n : Nat} {p : Nat → α → Prop} (h : ∀ i, i < n → ∃ x, p i x) : ∃ L : List α, n = L.length ∧ ∀ i, i < n → ∃ x, L[i]? = some x ∧ p i x := by
  obtain ⟨f, hf⟩ := choose_lt h
  exact ⟨(List.range n).map f, by simp, fun i hi => ⟨f i, by simp [hi], hf i hi⟩⟩
theorem weightsAll_in {H : Type} {P : Program} {e : TypeId} {d : DataW H} : ∀ {l : List (DataW H)}, d ∈ l → ∀ n ∈ d.weights P e, n ∈ DataW.weightsAll P e l
  | [], h, _, _ => by cases h
  | x :: l, h, n, hn => by
    simp only [DataW.weightsAll, List.mem_append]
    rcases List.mem_cons.1 h with rfl | h
    · exact Or.inl hn
    · exact Or.inr (weightsAll_in h n hn)
/-- A slice's parts. -/
structure Sl where
  (a : Option Addr) (n c : Nat)
def Sl.v (s : Sl) : Value := .slice s.a s.n s.c
/-- A slice of small numbers. -/
def RowB (w : World) (a : Option Addr) (n : Nat) (l : List Int) : Prop :=
  n = l.length ∧ (0 < n → ∃ b off, a = some ⟨b, off, none⟩ ∧ b < w.heap.size ∧ ∀ i, i < n → w.cell? ⟨b, off + i, none⟩ = some (.int .u8 (l.getD i 0))) ∧ ∀ z ∈ l, 0 ≤ z ∧ z ≤ 255
/-- A slice that came in, as a list. -/
def SlG (w : World) (s : Sl) (l : List Int) : Prop := Row w s.a s.n l ∧ s.n ≤ s.c ∧ s.c ≤ 9223372036854775807
/-- A row of rows. -/
def RowR (w : World) (a : Option Addr) (n : Nat) (LL : List (List Int)) : Prop :=
  n = LL.length ∧ (0 < n → ∃ b off, a = some ⟨b, off, none⟩ ∧ b < w.heap.size ∧ ∀ i, i < n → ∃ (s : Sl) (l : List Int), LL[i]? = some l ∧ w.cell? ⟨b, off + i, none⟩ = some s.v ∧ SlG w s l)
theorem SlG.below {w w' : World} {s : Sl} {l : List Int} (h : SlG w s l) (hb : Below w.heap.size w w') : SlG w' s l := ⟨h.1.below hb, h.2⟩
theorem RowR.item {w W : World} {a : Option Addr} {n k : Nat} {LL : List (List Int)} (h : RowR w a n LL) (hb : Below w.heap.size w W) (hk : k < n) :
    ∃ b off sa sn sc l, a = some ⟨b, off, none⟩ ∧ b < w.heap.size ∧ LL[k]? = some l ∧ W.cell? ⟨b, off + k, none⟩ = some (.slice sa sn sc) ∧ Row w sa sn l ∧ Row W sa sn l ∧ sn ≤ sc ∧ sc ≤ 9223372036854775807 := by
  obtain ⟨b, off, e, hlt, hc⟩ := h.2 (by omega)
  obtain ⟨s, l, h1, h2, h3⟩ := hc k hk
  exact ⟨b, off, s.a, s.n, s.c, l, e, hlt, h1, keep_cell hb h2, h3.1, h3.1.below hb, h3.2.1, h3.2.2⟩
theorem RowB.item {w W : World} {a : Option Addr} {n k : Nat} {l : List Int} (h : RowB w a n l) (hb : Below w.heap.size w W) (hk : k < n) : ∃ b off x, a = some ⟨b, off, none⟩ ∧ b < w.heap.size ∧ l[k]? = some x ∧ W.cell? ⟨b, off + k, none⟩ = some (.int .u8 x) ∧ 0 ≤ x ∧ x ≤ 255 := by
  obtain ⟨b, off, e, hlt, hc⟩ := h.2.1 (by omega)
  have hl : k < l.length := by have := h.1; omega
  have hx : l.getD k 0 = l[k] := by simp [hl]
  have hm := h.2.2 l[k] (List.getElem_mem hl)
  refine ⟨b, off, l[k], e, hlt, List.getElem?_eq_getElem hl, ?_, hm.1, hm.2⟩
  rw [← hx]
  exact keep_cell hb (hc k hk)
section
variable {H : Type} {enc : TypeId × Value → H} {W : World} {base : Nat} {sp : Nat → Bool} {held : Bool}
/-- No part of a datum has more bytes than one may reach. -/
def Few (t : TypeId) (d : DataW H) : Prop := ∀ n ∈ d.weights Try.prog t, n ≤ reachBytes
theorem Few.field {t u : TypeId} {fs : Array Field} {parts : List (DataW H)} (h : Few t (.agg parts)) (ht : Try.prog.underlying t = some (.struct fs)) {j : Nat} (hf : (fs.toList.map (·.type))[j]? = some u) {d : DataW H} (hd : parts[j]? = some d) : Few u d :=
  fun n hn => h n (by simp only [DataW.weights, ht]; exact DataW.weights_mem_each hf hd n hn)
theorem Few.elem {t u : TypeId} {elems spare : List (DataW H)} (h : Few t (.slice elems spare)) (ht : Try.prog.underlying t = some (.slice u)) {d : DataW H} (hd : d ∈ elems) : Few u d :=
  fun n hn => h n (by simp only [DataW.weights, ht, List.mem_cons, List.mem_append]; exact Or.inr (Or.inl (weightsAll_in hd n hn)))
theorem Few.len {t u : TypeId} {elems spare : List (DataW H)} (h : Few t (.slice elems spare)) (ht : Try.prog.underlying t = some (.slice u)) : (elems.length + spare.length) * Try.prog.bytesOf u ≤ reachBytes :=
  h _ (by simp [DataW.weights, ht])
theorem few_room {n r b : Nat} (h : (n + r) * b ≤ reachBytes) (hb : 1 ≤ b) : n ≤ 140737488355328 := by
  have : (n + r) * 1 ≤ (n + r) * b := Nat.mul_le_mul_left _ hb
  unfold reachBytes at h
  omega
/-- A slice of one cell an element, of elements that are told of by a predicate. -/
theorem cells_slice {α : Type} [Inhabited α] {t u : TypeId} {k : Nat} {fuel : Nat} {cs : List Value} {x : DataW H × List MemPlace} (p : List Value → α → Prop) (ht : Try.prog.underlying t = some (.slice u)) (hk : Try.prog.cellsOf u = k) {bb : Nat} (hbb : Try.prog.bytesOf u = bb) (hb : 1 ≤ bb) (hk0 : 0 < k)
    (h : DataW.trod enc Try.prog W base sp held fuel t cs = some x) (hs : Few t x.1)
    (each : ∀ (n : Nat) (cs' : List Value) (y : DataW H × List MemPlace), DataW.trod enc Try.prog W base sp held n u cs' = some y → Few u y.1 → ∃ z, p cs' z) :
    ∃ (s : Sl) (L : List α), cs = [s.v] ∧ s.n ≤ 140737488355328 ∧ s.n = L.length ∧ (0 < s.n → ∃ b off, s.a = some ⟨b, off, none⟩ ∧ b < W.heap.size ∧ ∀ i, i < s.n → ∃ z cs', L[i]? = some z ∧ p cs' z ∧ cs'.length = k ∧ ∀ j, j < k → W.cell? ⟨b, off + i * k + j, none⟩ = cs'[j]?) ∧ s.n ≤ s.c ∧ s.c ≤ 9223372036854775807 := by
  rcases open_slice ht h with ⟨hcs, _⟩ | ⟨ad, l, c, m, n, D, Pl, hcs, _, hl, hm, hmm, hx, hi⟩
  · exact ⟨⟨none, 0, 0⟩, [], hcs, Nat.zero_le _, rfl, fun h => absurd h (by show ¬ 0 < 0; omega), Nat.le_refl _, Nat.zero_le _⟩
  · have hlm : l ≤ m := by rw [hmm]; split <;> omega
    rw [hx] at hs
    have hroom := few_room (hs.len ht) (by rw [hbb]; exact hb)
    rw [List.length_map, List.length_range] at hroom
    have fam : ∀ i, i < l → ∃ z, ∃ cs', p cs' z ∧ cs'.length = k ∧ ∀ j, j < k → W.cell? ((ad.add (i * k)).add j) = cs'[j]? := by
      intro i hil
      obtain ⟨cs', hc, hd⟩ := hi i (by omega)
      rw [hk] at hc
      obtain ⟨z, hz⟩ := each n cs' _ hd (hs.elem ht (List.mem_map.2 ⟨i, by simpa using hil, rfl⟩))
      obtain ⟨_, h1, hat⟩ := World.cells?_some hc
      exact ⟨z, cs', hz, h1, fun j hj => hat j hj⟩
    obtain ⟨L, hL, hLi⟩ := list_of fam
    refine ⟨⟨some ad, l, c⟩, L, hcs, hroom, hL, fun h0 => ?_, hl, by simpa [maxLen] using hm⟩
    have h0' : 0 < l := h0
    obtain ⟨b, off, spot⟩ := ad
    have hsp : spot = none ∧ b < W.heap.size := by
      obtain ⟨z, _, cs', _, hcl, hat⟩ := hLi 0 h0'
      have h1 := hat 0 hk0
      rw [List.getElem?_eq_getElem (by omega)] at h1
      have h2 : W.cell? ⟨b, off, spot⟩ = some cs'[0] := by simpa [Addr.add] using h1
      exact ⟨by simpa using World.cell?_spot h2, cell_lt h2⟩
    obtain ⟨rfl, hblt⟩ := hsp
    refine ⟨b, off, rfl, hblt, fun i hil => ?_⟩
    obtain ⟨z, hz, cs', hp, hcl, hat⟩ := hLi i hil
    refine ⟨z, cs', hz, hp, hcl, fun j hj => ?_⟩
    have := hat j hj
    rw [add_none, add_none] at this
    exact this
theorem few_int {fuel : Nat} {cs : List Value} {x : DataW H × List MemPlace} (h : DataW.trod enc Try.prog W base sp held fuel 3 cs = some x) : ∃ n, cs = [.int .i64 n] := by
  obtain ⟨n, h1, _⟩ := DataW.trod_int Try.underlying3 h
  exact ⟨n, h1⟩
theorem cells_ints {fuel : Nat} {cs : List Value} {x : DataW H × List MemPlace} (h : DataW.trod enc Try.prog W base sp held fuel 22 cs = some x) (hs : Few 22 x.1) :
    ∃ (s : Sl) (l : List Int), cs = [s.v] ∧ SlG W s l ∧ s.n ≤ 140737488355328 := by
  obtain ⟨s, L, h1, h2, h3, h4, h5, h6⟩ := cells_slice (fun cs z => cs = [.int .i64 z]) Try.underlying22 (k := 1) (by kernel_rfl) (bb := 8) (by kernel_rfl) (by omega) (by omega) h hs (fun n cs' y hy _ => few_int hy)
  refine ⟨s, L, h1, ⟨⟨h3, fun h0 => ?_⟩, h5, h6⟩, h2⟩
  obtain ⟨b, off, ha, hb, hc⟩ := h4 h0
  refine ⟨b, off, ha, hb, fun i hi => ?_⟩
  obtain ⟨z, cs', hz, rfl, _, hat⟩ := hc i hi
  have := hat 0 (by omega)
  rw [List.getD_eq_getElem?_getD, hz]
  simpa using this
/-- A row of ints that came in. -/
theorem open_row {a : Option Addr} {len cap : Nat} {d : DataW H} {p : List MemPlace} (h : DataW.Trod enc Try.prog W base sp held 22 (.slice a len cap) d p) (hs : Few 22 d) :
    ∃ l : List Int, Row W a len l ∧ len ≤ 140737488355328 ∧ len ≤ cap ∧ cap ≤ 9223372036854775807 := by
  obtain ⟨fuel, hf⟩ := h
  obtain ⟨⟨a', n', c'⟩, L, h1, ⟨h2, h3, h4⟩, h5⟩ := cells_ints hf hs
  have hc : [Value.slice a len cap] = [Value.slice a' n' c'] := h1
  simp only [List.cons.injEq, Value.slice.injEq, and_true] at hc
  obtain ⟨rfl, rfl, rfl⟩ := hc
  exact ⟨L, h2, h5, h3, h4⟩
/-- A row of rows of ints that came in. -/
theorem open_rowr {a : Option Addr} {len cap : Nat} {d : DataW H} {p : List MemPlace} (h : DataW.Trod enc Try.prog W base sp held 23 (.slice a len cap) d p) (hs : Few 23 d) :
    ∃ LL : List (List Int), RowR W a len LL ∧ len ≤ 140737488355328 ∧ len ≤ cap := by
  obtain ⟨fuel, hf⟩ := h
  obtain ⟨⟨a', n', c'⟩, L, h1, h2, h3, h4, h5, h6⟩ := cells_slice (fun cs z => ∃ s : Sl, cs = [s.v] ∧ SlG W s z) Try.underlying23 (k := 1) (by kernel_rfl) (bb := 24) (by kernel_rfl) (by omega) (by omega) hf hs (fun n cs' y hy hs' => by
    obtain ⟨s, l, e1, e2, _⟩ := cells_ints hy hs'
    exact ⟨l, s, e1, e2⟩)
  have hc : [Value.slice a len cap] = [Value.slice a' n' c'] := h1
  simp only [List.cons.injEq, Value.slice.injEq, and_true] at hc
  obtain ⟨rfl, rfl, rfl⟩ := hc
  refine ⟨L, ⟨h3, fun h0 => ?_⟩, h2, h5⟩
  obtain ⟨b, off, ha, hb, hc⟩ := h4 h0
  refine ⟨b, off, ha, hb, fun i hi => ?_⟩
  obtain ⟨z, cs', hz, ⟨s, rfl, hsl⟩, _, hat⟩ := hc i hi
  have := hat 0 (by omega)
  exact ⟨s, z, hz, by simpa using this, hsl⟩
theorem cu8 : Try.prog.cellsOf 5 = 1 := by kernel_rfl
theorem u8_range {k : Int} (h3 : (Lit.int .u8 k).wf = true) : 0 ≤ k ∧ k ≤ 255 := by
  have h4 : IntKind.u8.min ≤ k ∧ k ≤ IntKind.u8.max := by simpa [Lit.wf] using h3
  have e1 : IntKind.u8.min = 0 := by decide
  have e2 : IntKind.u8.max = 255 := by decide
  rwa [e1, e2] at h4
/-- A row of small numbers that came in. -/
theorem open_bytes {a : Option Addr} {len cap : Nat} {d : DataW H} {p : List MemPlace} (h : DataW.Trod enc Try.prog W base sp held 46 (.slice a len cap) d p) (hs : Few 46 d) :
    ∃ l : List Int, RowB W a len l ∧ len ≤ 140737488355328 ∧ len ≤ cap := by
  obtain ⟨fuel, hf⟩ := h
  obtain ⟨⟨a', n', c'⟩, L, h1, h2, h3, h4, h5, h6⟩ := cells_slice (fun cs z => cs = [.int .u8 z] ∧ 0 ≤ z ∧ z ≤ 255) Try.underlying46 (k := 1) (by kernel_rfl) (bb := 1) (by kernel_rfl) (by omega) (by omega) hf hs (fun n cs' y hy _ => by
    obtain ⟨z, e1, _, e3⟩ := DataW.trod_int Try.underlying5 hy
    exact ⟨z, e1, u8_range e3⟩)
  have hc : [Value.slice a len cap] = [Value.slice a' n' c'] := h1
  simp only [List.cons.injEq, Value.slice.injEq, and_true] at hc
  obtain ⟨rfl, rfl, rfl⟩ := hc
  by_cases h0 : 0 < len
  · obtain ⟨b, off, ha, hb, hc⟩ := h4 h0
    refine ⟨L, ⟨h3, fun _ => ⟨b, off, ha, hb, fun i hi => ?_⟩, fun z hz => ?_⟩, h2, h5⟩
    · obtain ⟨z, cs', hz, ⟨rfl, _⟩, _, hat⟩ := hc i hi
      have := hat 0 (by omega)
      rw [List.getD_eq_getElem?_getD, hz]
      simpa using this
    · obtain ⟨i, hi⟩ := List.getElem?_of_mem hz
      have hil : i < len := by have h3' : len = L.length := h3; rw [h3']; exact (List.getElem?_eq_some_iff.1 hi).1
      obtain ⟨z', cs', hz', ⟨_, h7⟩, _⟩ := hc i hil
      rw [hi] at hz'
      cases hz'
      exact h7
  · have hl : L = [] := List.eq_nil_of_length_eq_zero (by have h3' : len = L.length := h3; omega)
    subst hl
    exact ⟨[], ⟨h3, fun hc => absurd hc h0, by simp⟩, h2, h5⟩
theorem cu82 : Try.prog.cellsOf 56 = 2 := by kernel_rfl
theorem trod_u8 {m : Nat} {cs : List Value} {x : DataW H × List MemPlace} {i : Nat} (hi : i < cs.length) (h : DataW.trod enc Try.prog W base sp held m 5 ((cs.drop (i * 1)).take 1) = some x) : ∃ k, cs[i]? = some (.int .u8 k) ∧ 0 ≤ k ∧ k ≤ 255 := by
  obtain ⟨k, h2, _, h3⟩ := DataW.trod_int Try.underlying5 h
  rw [Nat.mul_one, List.drop_eq_getElem_cons hi] at h2
  rw [List.take_succ_cons, List.take_zero] at h2
  exact ⟨k, by rw [List.getElem?_eq_getElem hi]; exact congrArg some (List.cons.inj h2).1, u8_range h3⟩
theorem two {cs : List Value} (h : cs.length = 2) : ∃ a b, cs = [a, b] := by
  match cs, h with
  | [a, b], _ => exact ⟨a, b, rfl⟩
set_option maxRecDepth 100000 in
/-- Two small numbers that came in. -/
theorem open_2u {r : Reach} {b0 : Nat} {v : Value} {d : DataW H} {p : List MemPlace} (hv : Value.okWide Try.prog W r b0 56 v) (h : DataW.Trod enc Try.prog W base sp held 56 v d p) :
    ∃ x y : Int, v = .agg #[.int .u8 x, .int .u8 y] ∧ (0 ≤ x ∧ x ≤ 255) ∧ (0 ≤ y ∧ y ≤ 255) := by
  have hv' : ∃ cs, v = .agg cs := by
    simp only [Value.okWide, Try.underlying56] at hv
    obtain ⟨cs, h1, _⟩ := hv
    exact ⟨cs, h1⟩
  obtain ⟨cs, rfl⟩ := hv'
  obtain ⟨fuel, hf⟩ := h
  obtain ⟨xs, m, _, _, hlen, hxs, hf⟩ := DataW.trod_array Try.underlying56 hf
  rw [cu82] at hlen
  have hlen : cs.toList.length = 2 := hlen
  have at_ : ∀ i, i < 2 → ∃ k, cs.toList[i]? = some (.int .u8 k) ∧ 0 ≤ k ∧ k ≤ 255 := fun i hi => by
    have h1 := hf i hi
    rw [cu8] at h1
    rw [List.getElem?_eq_getElem (show i < xs.length by omega)] at h1
    exact trod_u8 (by omega) h1
  obtain ⟨x, hx, x1⟩ := at_ 0 (by omega)
  obtain ⟨y, hy, y1⟩ := at_ 1 (by omega)
  obtain ⟨a, b, hc⟩ := two hlen
  rw [hc] at hx hy
  simp at hx hy
  refine ⟨x, y, ?_, x1, y1⟩
  rw [← Array.toArray_toList (xs := cs), hc, hx, hy]
end
end Go.Proofs.Ytdhchfmefdlloaa
