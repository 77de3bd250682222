/- What is proved here: what must come of fixed calls (known). Condition: the table of names holds what its initialiser lays ('Nms'). how a row of matches reads, place by place. Conditions: those each theorem states. appends of rows that came in, of instructions and of numbers (none, too), behind a guard or not. Conditions: those each theorem states. -/
import Derived.Test.YthncbnalnfbpnaaDoorGc
import Derived.Test.YthncbnalnfbpnaaDoorGa
import Derived.Lib.SlFresh
section
namespace Go.Proofs.YthncbnalnfbpnaaDoor
open Go.ChangeShapes Go.WideShapes Go.RowKit

/-- The rows of the fixed calls. -/
def k1 : List (Int × Int × Int) := [(23, 1, 0), (21, 3, 0), (22, 0, 0), (24, 1, 0), (25, 0, 0)]
def k2 : List (Int × Int × Int) := [(17, 0, 0), (25, 0, 0)]
def k3 : List (Int × Int × Int) := [(19, 1, 0), (21, 1, 0), (22, 0, 0), (25, 0, 0)]
def k4 : List (Int × Int × Int) := [(25, 0, 0), (25, 0, 0)]
theorem k1m : mA k1 = [3, 2, 1, 0, -1] := by decide +kernel
theorem k1e : mE k1 = 0 := by decide +kernel
theorem k1h : hA k1 = [-1, 0, 1, 0, -1] := by decide +kernel
theorem k1le : lE k1 = 0 := by decide +kernel
theorem k1w : wE k1 = 0 := by decide +kernel
theorem k1p : mE (k1.take 2) = 7 := by decide +kernel
theorem k0e : mE [] = 1 := by decide +kernel
theorem k2e : lE k2 = 11 := by decide +kernel
theorem k3e : wE k3 = 8 := by decide +kernel
theorem k4e : wE k4 = 7 := by decide +kernel
theorem lit_row (W : World) (cs : Array Value) (L : List (Int × Int × Int)) (n : Nat) (hn : n = L.length) (h : cs.toList = cellsI L) (hl : L.length ≤ 1000) : RowI (W.alloc (.cells cs 47)) (some ⟨W.heap.size, 0, none⟩) n L := by
  subst hn
  have hs : cs.size = L.length * 3 := by have := congrArg List.length h; rw [cellsI_length] at this; simpa using this
  have := World.ownsRow_lit (base := 0) (e := 47) (size := 3) W cs L.length (by omega) (by unfold maxLen; omega) hs
  rw [h] at this
  obtain ⟨a, c, hv, hr⟩ := RowI.own this
  cases hv
  exact hr
theorem lit_ints (W : World) (cs : Array Value) (l : List Int) (n : Nat) (hn : n = l.length) (h : cs.toList = l.map (Value.int .i64)) (hl : l.length ≤ 1000) : Row (W.alloc (.cells cs 3)) (some ⟨W.heap.size, 0, none⟩) n l := by
  subst hn
  have hs : cs.size = l.length * 1 := by have := congrArg List.length h; simpa using this
  have := World.ownsRow_lit (base := 0) (e := 3) (size := 1) W cs l.length (by omega) (by unfold maxLen; omega) hs
  rw [h] at this
  obtain ⟨a, n, c, hv, hr⟩ := Row.own this
  cases hv
  exact hr
theorem RowI.take {w : World} {a : Option Addr} {n : Nat} {L : List (Int × Int × Int)} (h : RowI w a n L) {m : Nat} (hm : m ≤ n) : RowI w a m (L.take m) := by
  have hl := h.1
  refine ⟨by rw [List.length_take]; omega, fun h0 => ?_⟩
  obtain ⟨b, off, rfl, hlt, hc⟩ := h.2 (by omega)
  refine ⟨b, off, rfl, hlt, fun i hi => ?_⟩
  have e : (L.take m).getD i (0, 0, 0) = L.getD i (0, 0, 0) := by
    rw [List.getD_eq_getElem?_getD, List.getD_eq_getElem?_getD, List.getElem?_take_of_lt hi]
  rw [e]; exact hc i (by omega)
theorem match_at {a : Option Addr} {n c : Nat} {L : List (Int × Int × Int)} {l : List Int} {x : Int} (h1 : mA L = l) (h2 : mE L = x) (w : World) (hr : RowI w a n L) (hN : Nms w) : Calls Tryd.prog 60 #[.slice a n c] w (GotL l x w) := by
  rw [← h1, ← h2]; exact match_any a n c L w hr hN
theorem whole_at {a : Option Addr} {n c : Nat} {L : List (Int × Int × Int)} {x : Int} (h2 : wE L = x) (w : World) (hr : RowI w a n L) (hN : Nms w) : Calls Tryd.prog 23 #[.slice a n c] w fun e w' => e = .returned (.int .i64 x) ∧ Below w.heap.size w w' := by
  rw [← h2]; exact whole_any a n c L w hr hN
end Go.Proofs.YthncbnalnfbpnaaDoor
end

section
namespace Go.Proofs.YthncbnalnfbpnaaDoor
open Go.ChangeShapes Go.WideShapes Go.RowKit

theorem mrow_at {w : World} {a : Option Addr} {n : Nat} {L : List (Int × Int × Int)} (h : Row w a n (mL L)) (hn : n = L.length) {k : Nat} (hk : k < n) : ∃ b o, a = some ⟨b, o, none⟩ ∧ ∀ j, j < n → w.cell? ⟨b, o + j, none⟩ = some (.int .i64 (mt L L.length j)) := by
  obtain ⟨b, o, e, _, hcs⟩ := h.2 (by omega)
  refine ⟨b, o, e, fun j hj => ?_⟩
  rw [hcs j hj, mL_at (by omega)]
end Go.Proofs.YthncbnalnfbpnaaDoor
end

section
namespace Go.Proofs.YthncbnalnfbpnaaDoor
open Go.ChangeShapes Go.WideShapes Go.RowKit

theorem add_plain' (b off j : Nat) : (⟨b, off, none⟩ : Addr).add j = ⟨b, off + j, none⟩ := by
  unfold Addr.add
  split
  · simp
  · rfl
theorem add_block (ad : Addr) (j : Nat) : (ad.add j).block = ad.block := by unfold Addr.add; split <;> rfl
/-- A row's cells, one by one. -/
theorem RowI.cells {w : World} {a : Option Addr} {n : Nat} {L : List (Int × Int × Int)} (h : RowI w a n L) {b off : Nat} (ha : a = some ⟨b, off, none⟩) : ∀ j u, (cellsI L)[j]? = some u → w.cell? ((⟨b, off, none⟩ : Addr).add j) = some u := by
  intro j u hj
  have hjl : j < L.length * 3 := by
    obtain ⟨h1, _⟩ := List.getElem?_eq_some_iff.1 hj
    rw [cellsI_length] at h1; exact h1
  obtain ⟨b', off', e', hlt, hc⟩ := h.2 (by have := h.1; omega)
  rw [ha] at e'
  simp only [Option.some.injEq, Addr.mk.injEq] at e'
  obtain ⟨rfl, rfl, _⟩ := e'
  have e : (⟨b, off, none⟩ : Addr).add j = ⟨b, off + j, none⟩ := add_plain' b off j
  rw [e]
  obtain ⟨i, r, hi, hr, rfl⟩ : ∃ i r, i < L.length ∧ r < 3 ∧ j = i * 3 + r := ⟨j / 3, j % 3, by omega, by omega, by omega⟩
  obtain ⟨c1, c2, c3⟩ := hc i (by have := h.1; omega)
  obtain ⟨d1, d2, d3⟩ := cellsI_at L i hi
  rcases (show r = 0 ∨ r = 1 ∨ r = 2 by omega) with rfl | rfl | rfl
  · rw [Nat.add_zero] at hj ⊢
    rw [d1] at hj; rw [c1, ← hj]
  · rw [d2] at hj; rw [← Nat.add_assoc, c2, ← hj]
  · rw [d3] at hj; rw [← Nat.add_assoc, c3, ← hj]
theorem cellsI_one (L : List (Int × Int × Int)) : ∀ u ∈ cellsI L, u.oneCell' = true := by
  intro u hu
  unfold cellsI at hu
  rw [List.mem_flatMap] at hu
  obtain ⟨i, _, hi⟩ := hu
  simp at hi
  rcases hi with rfl | rfl | rfl <;> rfl
theorem cellsI_append (L M : List (Int × Int × Int)) : cellsI (L ++ M) = cellsI L ++ cellsI M := by simp [cellsI]
theorem Row.cells {w : World} {a : Option Addr} {n : Nat} {l : List Int} (h : Row w a n l) {ad : Addr} (ha : a = some ad) : ∀ j u, (l.map (Value.int .i64))[j]? = some u → w.cell? (ad.add j) = some u := by
  intro j u hj
  have hjl : j < l.length := by
    obtain ⟨h1, _⟩ := List.getElem?_eq_some_iff.1 hj
    rw [List.length_map] at h1; exact h1
  obtain ⟨b, off, e', hlt, hc⟩ := h.2 (by have := h.1; omega)
  rw [ha, Option.some.injEq] at e'
  subst e'
  have e : (⟨b, off, none⟩ : Addr).add j = ⟨b, off + j, none⟩ := add_plain' b off j
  rw [e, hc j (by have := h.1; omega), ← hj, List.getElem?_map, List.getD_eq_getElem?_getD, List.getElem?_eq_getElem hjl]; rfl
/-- Nothing is appended to an own row. -/
theorem run_append_none {P : Program} (w : World) (t ty e : TypeId) (i : TypeInfo) (ht : P.underlying t = some (.slice e)) (hi : P.info? e = some i) (g n cap c : Nat) (hnc : n ≤ cap) :
    (Builtin.append_ #[t, t] ty #[.slice (some ⟨g, 0, none⟩) n cap, .slice none 0 c]).run P w = .ok (.slice (some ⟨g, 0, none⟩) n cap) w := by
  simp [Builtin.append_, run_underlying ht, sizeOf, typeInfo, hi, Builtin.lenOf, hnc, run_firstCells_none, storeCells]
/-- A row of numbers, or none, is appended to an own one. -/
theorem wpList_append_row {P : Program} (w : World) {ops : Array Oper} {rest : List Oper} {o : Oper} {a : Act} {Q : Exit → Act → World → Prop} (hw : Region.wanted o (yielded ops a.tmps) = true) (s x : Operand) (t : TypeId)
    (ho : o.op = .call { callee := .builtin .append, args := #[s, x], argTypes := #[t, t] })
    (base : Nat) (i : TypeInfo) (ht : P.underlying t = some (.slice 3)) (hi : P.info? 3 = some i) (hz : i.zero = some (.int .i64 0)) (hsize : i.size = 1) (hby : i.bytes = 8)
    (g n cap : Nat) (xs : List Value) (hs : a.eval s = .slice (some ⟨g, 0, none⟩) n cap) (hown : w.ownsRow base 3 1 (.slice (some ⟨g, 0, none⟩) n cap) n xs)
    (xa : Option Addr) (m c : Nat) (l : List Int) (hx : a.eval x = .slice xa m c) (hr : Row w xa m l)
    (h63 : n + m ≤ 1000) (hbase : base ≤ w.heap.size)
    (h : ∀ g' cap' w', w'.ownsRow base 3 1 (.slice (some ⟨g', 0, none⟩) (n + m) cap') (n + m) (xs ++ l.map (Value.int .i64)) → w.grownBy w' (some g) → wpList P ops Q rest (a.put o.dst (.slice (some ⟨g', 0, none⟩) (n + m) cap')) w') : wpList P ops Q (o :: rest) a w := by
  unfold wpList
  rw [if_pos hw]
  cases xa with
  | none =>
    have hm : m = 0 := by
      rcases Nat.eq_zero_or_pos m with h | h
      · exact h
      · obtain ⟨_, _, e, _⟩ := hr.2 h; cases e
    subst hm
    have hl : l = [] := List.eq_nil_of_length_eq_zero hr.1.symm
    subst hl
    have hnc : n ≤ cap := by
      rcases hown.2 with ⟨e, _⟩ | ⟨g', cap', cur, e, _, _, h4, _⟩
      · cases e
      · cases e; exact h4
    refine Or.inl (Lib.wp_append_run_sl w s x t ho _ _ hs hx (run_append_none w t o.type 3 i ht hi g n cap c hnc) ?_)
    exact h g cap w (by simpa using hown) ⟨rfl, rfl, rfl, Nat.le_refl _, fun _ _ _ => rfl⟩
  | some ad =>
    refine Or.inl (wp_append_own w s x t ho base 3 i (.int .i64 0) 1 8 ht hi hz hsize hby rfl (by decide) _ n xs hs hown ad m c (l.map (Value.int .i64)) hx (by rw [List.length_map, hr.1]; omega) (hr.cells rfl) ?_ (by unfold maxLen; omega) (by omega) hbase ?_)
    · intro u hu
      obtain ⟨y, _, rfl⟩ := List.mem_map.1 hu
      rfl
    · intro v' w' h1 h2 h3
      rcases h1.2 with ⟨e, e0⟩ | ⟨g', cap', cur, e, _⟩
      · have := h3.1 e
        cases this.1
      · subst e
        exact h g' cap' w' h1 h2
end Go.Proofs.YthncbnalnfbpnaaDoor
end
