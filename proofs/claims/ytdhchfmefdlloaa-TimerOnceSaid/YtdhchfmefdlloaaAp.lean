/- What is proved here: appends of releases, or of none, to an own row. Conditions: those each theorem states. -/
import Derived.Test.YtdhchfmefdlloaaMo
namespace Go.Proofs.Ytdhchfmefdlloaa
open Go.ChangeShapes Go.WideShapes Go.RowKit

theorem RowP.cells {w : World} {a : Option Addr} {n : Nat} {l : List (Int × Int)} (h : RowP w a n l) {ad : Addr} (ha : a = some ad) : ∀ j u, (duC l)[j]? = some u → w.cell? (ad.add j) = some u := by
  intro j u hj
  have hj2 : j < l.length * 2 := by rw [← duC_len]; exact (List.getElem?_eq_some_iff.1 hj).1
  rcases h.raw with h0 | ⟨b, off, e, _, hc⟩
  · have := h.1; omega
  · rw [ha, Option.some.injEq] at e
    subst e
    rw [add_plain']
    exact hc j u hj
theorem run_append_nothing {P : Program} (w : World) (t ty e : TypeId) (i : TypeInfo) (ht : P.underlying t = some (.slice e)) (hi : P.info? e = some i) {base size n : Nat} {v : Value} {xs : List Value} (hown : w.ownsRow base e size v n xs) (c : Nat) :
    (Builtin.append_ #[t, t] ty #[v, .slice none 0 c]).run P w = .ok v w := by
  rcases hown.2 with ⟨rfl, rfl⟩ | ⟨g, cap, cur, rfl, _, _, hnc, _⟩
  · simp [Builtin.append_, run_underlying ht, sizeOf, typeInfo, hi, Builtin.lenOf, run_firstCells_none]
  · simp [Builtin.append_, run_underlying ht, sizeOf, typeInfo, hi, Builtin.lenOf, hnc, run_firstCells_none, storeCells]
theorem wpList_append_p {P : Program} (w : World) {ops : Array Oper} {rest : List Oper} {o : Oper} {a : Act} {Q : Exit → Act → World → Prop} (hgd : o.guard = none) (s x : Operand) (t : TypeId)
    (ho : o.op = .call { callee := .builtin .append, args := #[s, x], argTypes := #[t, t] })
    (base : Nat) (e : TypeId) (i : TypeInfo) (z : Value) (ht : P.underlying t = some (.slice e)) (hi : P.info? e = some i) (hz : i.zero = some z) (hsize : i.size = 2) (hby : i.bytes = 16) (hzs : z.cells.size = 2)
    (v : Value) (n : Nat) (xs : List Value) (hs : a.eval s = v) (hown : w.ownsRow base e 2 v n xs)
    (xa : Option Addr) (m c : Nat) (l : List (Int × Int)) (hx : a.eval x = .slice xa m c) (hr : RowP w xa m l) (hnm : n + m ≤ 1000000000000) (hbase : base ≤ w.heap.size)
    (h : ∀ v' w', w'.ownsRow base e 2 v' (n + m) (xs ++ duC l) → w.grownBy w' v.ownBlock → (v'.ownBlock = v.ownBlock ∨ v'.ownBlock = some w.heap.size) → wpList P ops Q rest (a.put o.dst v') w') :
    wpList P ops Q (o :: rest) a w := by
  refine wpList_plain hgd fun K hK => ?_
  cases xa with
  | none =>
    have hm : m = 0 := by
      rcases Nat.eq_zero_or_pos m with h | h
      · exact h
      · obtain ⟨_, _, e, _⟩ := hr.2 h; cases e
    subst hm
    have hl : l = [] := List.eq_nil_of_length_eq_zero hr.1.symm
    subst hl
    have hrun := run_append_nothing w t o.type e i ht hi hown c
    unfold Oper.wp execOp
    simp only [ho, resolve, invoke, builtin, Sem.run_bind, Sem.run_pure, Result.andThen_ok, List.map_toArray, List.map_cons, List.map_nil, hs, hx, hrun]
    exact hK _ _ (h v w (by simpa [duC] using hown) ⟨rfl, rfl, rfl, Nat.le_refl _, fun _ _ _ => rfl⟩ (Or.inl rfl))
  | some ad =>
    exact wp_append_at w s x t ho base e i z 2 16 ht hi hz hsize hby hzs (by decide) v n xs hs hown ad m c (duC l) hx (by rw [duC_len, hr.1]) (hr.cells rfl) (duC_cell l) (by unfold maxLen; omega) (by omega) hbase (fun v' w' h1 h2 h3 => hK _ _ (h v' w' h1 h2 h3))
end Go.Proofs.Ytdhchfmefdlloaa
