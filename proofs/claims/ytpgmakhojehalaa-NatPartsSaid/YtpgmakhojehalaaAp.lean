/- What is proved here: appends of rows that came in (none, too) to an own row of numbers. Conditions: those each theorem states. -/
import Derived.Test.YtpgmakhojehalaaNe
import Derived.Lib.SlFresh
namespace Go.Proofs.Ytpgmakhojehalaa
open Go.ChangeShapes Go.WideShapes Go.RowKit

theorem add_plain' (b off j : Nat) : (⟨b, off, none⟩ : Addr).add j = ⟨b, off + j, none⟩ := by
  unfold Addr.add
  split
  · simp
  · rfl
theorem Row.cells {w : World} {a : Option Addr} {n : Nat} {l : List Int} (h : Row w a n l) {ad : Addr} (ha : a = some ad) : ∀ j u, (l.map (Value.int .i64))[j]? = some u → w.cell? (ad.add j) = some u := by
  intro j u hj
  have hjl : j < l.length := by
    obtain ⟨h1, _⟩ := List.getElem?_eq_some_iff.1 hj
    rw [List.length_map] at h1; exact h1
  obtain ⟨b, off, e', hlt, hc⟩ := h.2 (by have := h.1; omega)
  rw [ha, Option.some.injEq] at e'
  subst e'
  have e : (⟨b, off, none⟩ : Addr).add j = ⟨b, off + j, none⟩ := add_plain' b off j
  rw [e, hc j (by have := h.1; omega), ← hj, List.getElem?_map, List.getD_eq_getElem?_getD, List.getElem?_eq_getElem hjl]; rfl
/-- Nothing is appended to an own row. -/
theorem run_append_none {P : Program} (w : World) (t ty e : TypeId) (i : TypeInfo) (ht : P.underlying t = some (.slice e)) (hi : P.info? e = some i) (g n cap c : Nat) (hnc : n ≤ cap) :
    (Builtin.append_ #[t, t] ty #[.slice (some ⟨g, 0, none⟩) n cap, .slice none 0 c]).run P w = .ok (.slice (some ⟨g, 0, none⟩) n cap) w := by
  simp [Builtin.append_, run_underlying ht, sizeOf, typeInfo, hi, Builtin.lenOf, hnc, run_firstCells_none, storeCells]
/-- A row of numbers, or none, is appended to an own one. -/
theorem wpList_append_row {P : Program} (w : World) {ops : Array Oper} {rest : List Oper} {o : Oper} {a : Act} {Q : Exit → Act → World → Prop} (hw : Region.wanted o (yielded ops a.tmps) = true) (s x : Operand) (t : TypeId)
    (ho : o.op = .call { callee := .builtin .append, args := #[s, x], argTypes := #[t, t] })
    (base : Nat) (i : TypeInfo) (ht : P.underlying t = some (.slice 3)) (hi : P.info? 3 = some i) (hz : i.zero = some (.int .i64 0)) (hsize : i.size = 1) (hby : i.bytes = 8)
    (g n cap : Nat) (xs : List Value) (hs : a.eval s = .slice (some ⟨g, 0, none⟩) n cap) (hown : w.ownsRow base 3 1 (.slice (some ⟨g, 0, none⟩) n cap) n xs)
    (xa : Option Addr) (m c : Nat) (l : List Int) (hx : a.eval x = .slice xa m c) (hr : Row w xa m l)
    (h63 : n + m ≤ 1000) (hbase : base ≤ w.heap.size)
    (h : ∀ g' cap' w', w'.ownsRow base 3 1 (.slice (some ⟨g', 0, none⟩) (n + m) cap') (n + m) (xs ++ l.map (Value.int .i64)) → w.grownBy w' (some g) → wpList P ops Q rest (a.put o.dst (.slice (some ⟨g', 0, none⟩) (n + m) cap')) w') : wpList P ops Q (o :: rest) a w := by
  unfold wpList
  rw [if_pos hw]
  cases xa with
  | none =>
    have hm : m = 0 := by
      rcases Nat.eq_zero_or_pos m with h | h
      · exact h
      · obtain ⟨_, _, e, _⟩ := hr.2 h; cases e
    subst hm
    have hl : l = [] := List.eq_nil_of_length_eq_zero hr.1.symm
    subst hl
    have hnc : n ≤ cap := by
      rcases hown.2 with ⟨e, _⟩ | ⟨g', cap', cur, e, _, _, h4, _⟩
      · cases e
      · cases e; exact h4
    refine Or.inl (Lib.wp_append_run_sl w s x t ho _ _ hs hx (run_append_none w t o.type 3 i ht hi g n cap c hnc) ?_)
    exact h g cap w (by simpa using hown) ⟨rfl, rfl, rfl, Nat.le_refl _, fun _ _ _ => rfl⟩
  | some ad =>
    refine Or.inl (wp_append_own w s x t ho base 3 i (.int .i64 0) 1 8 ht hi hz hsize hby rfl (by decide) _ n xs hs hown ad m c (l.map (Value.int .i64)) hx (by rw [List.length_map, hr.1]; omega) (hr.cells rfl) ?_ (by unfold maxLen; omega) (by omega) hbase ?_)
    · intro u hu
      obtain ⟨y, _, rfl⟩ := List.mem_map.1 hu
      rfl
    · intro v' w' h1 h2 h3
      rcases h1.2 with ⟨e, e0⟩ | ⟨g', cap', cur, e, _⟩
      · have := h3.1 e
        cases this.1
      · subst e
        exact h g' cap' w' h1 h2
theorem new_block (w : World) (o : Obj) : (w.alloc o).heap[w.heap.size]? = some o := Go.Deep.blk_alloc_new _ _
theorem int_info : (Try.prog.info? 3).map (fun i => (i.zero, i.size, i.bytes)) = some (some (.int .i64 0), 1, 8) := by kernel_rfl
theorem info_parts {i : Option TypeInfo} {z : Value} {s b : Nat} (h : i.map (fun i => (i.zero, i.size, i.bytes)) = some (some z, s, b)) : ∃ j, i = some j ∧ j.zero = some z ∧ j.size = s ∧ j.bytes = b := by
  obtain ⟨j, hj, e⟩ := Option.map_eq_some_iff.1 h
  simp only [Prod.mk.injEq] at e
  exact ⟨j, hj, e.1, e.2.1, e.2.2⟩
end Go.Proofs.Ytpgmakhojehalaa
