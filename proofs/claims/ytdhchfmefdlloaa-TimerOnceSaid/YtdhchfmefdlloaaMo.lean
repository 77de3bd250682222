/- What is proved here: laws at single operations of a region: an append, a look-up, a store into a map, a deletion. Conditions: those each theorem states. -/
import Derived.Test.YtdhchfmefdlloaaGa
namespace Go.Proofs.Ytdhchfmefdlloaa
open Go.ChangeShapes Go.WideShapes Go.RowKit Go.Maps

theorem wp_append_at {P : Program} {o : Oper} {a : Act} {K : Act → World → Prop} {Q : Exit → Act → World → Prop} (w : World) (s x : Operand) (t : TypeId)
    (ho : o.op = .call { callee := .builtin .append, args := #[s, x], argTypes := #[t, t] })
    (base : Nat) (e : TypeId) (i : TypeInfo) (z : Value) (size bytes : Nat) (ht : P.underlying t = some (.slice e)) (hi : P.info? e = some i) (hz : i.zero = some z)
    (hsize : i.size = size) (hby : i.bytes = bytes) (hzs : z.cells.size = size) (hsz : 0 < size)
    (v : Value) (n : Nat) (xs : List Value) (hs : a.eval s = v) (hown : w.ownsRow base e size v n xs)
    (ad : Addr) (m c : Nat) (news : List Value) (hx : a.eval x = .slice (some ad) m c) (hl : news.length = m * size) (hnews : ∀ j u, news[j]? = some u → w.cell? (ad.add j) = some u) (h1 : ∀ u ∈ news, u.oneCell' = true)
    (h63 : n + m ≤ maxLen) (hbytes : (n + m) * bytes ≤ 140737488355328) (hbase : base ≤ w.heap.size)
    (h : ∀ v' w', w'.ownsRow base e size v' (n + m) (xs ++ news) → w.grownBy w' v.ownBlock → (v'.ownBlock = v.ownBlock ∨ v'.ownBlock = some w.heap.size) → K (a.put o.dst v') w') :
    o.wp P a w K Q := by
  obtain ⟨v', w', hr, h2, h3, _, h5⟩ := run_append_own_at (P := P) w base t o.type e i z size bytes ht hi hz hsize hby hzs hsz v n xs hown ad m c news hl hnews h1 h63 hbytes hbase
  unfold Oper.wp execOp
  simp only [ho, resolve, invoke, builtin, Sem.run_bind, Sem.run_pure, Result.andThen_ok, List.map_toArray, List.map_cons, List.map_nil, hs, hx, hr]
  exact h v' w' h2 h3 h5
theorem own_slE {w : World} {base e size : Nat} {v : Value} {m : Nat} {xs : List Value} (h : w.ownsRow base e size v m xs) : ∃ d, slE v = some (d, []) := by
  rcases h.2 with ⟨rfl, _⟩ | ⟨g, cap, cur, rfl, _⟩
  · exact ⟨_, rfl⟩
  · exact ⟨_, slE_some _ _ _⟩
theorem wp_update_mp {P : Program} {o : Oper} {a : Act} {K : Act → World → Prop} {Q : Exit → Act → World → Prop} (w : World) (m x v : Operand) (t : TypeId) (hop : o.op = Op.mapUpdate t m x v) (k e : TypeId) (hk : P.underlying k = some (.int .i64)) (ht : P.underlying t = some (.map k e))
    (b n : Nat) (M : Int → Option Value) (hm : a.eval m = .map (some b)) (hown : MpG P k w b n M) (hn : n < maxLen) (s : Int) (hx : a.eval x = .int .i64 s) (hs : (Lit.int .i64 s).wf = true) (val : Value) (hv : a.eval v = val) (d : DataW Unit) (hd : slE val = some (d, []))
    (hK : ∀ w', MpG P k w' b (n + 1) (updM M s (some val)) → w.grownBy w' (some b) → K (a.put o.dst undef) w') :
    o.wp P a w K Q := by
  obtain ⟨D, ho, hD⟩ := hown
  obtain ⟨w', hrun, r1, r2⟩ := ho.store (int_keyed hk) ht hn (keyOf_int_mk hk hs) hd
  unfold Oper.wp
  simp [execOp, hop, hm, hx, hv, hrun, Result.andThen]
  exact hK w' ⟨_, r1, hD.put ho.isMap hd⟩ r2.grown
theorem wp_delete_mp {P : Program} {o : Oper} {a : Act} {K : Act → World → Prop} {Q : Exit → Act → World → Prop} (w : World) (m x : Operand) (t k : TypeId) (hop : o.op = Op.call { callee := Callee.builtin Builtin.delete, args := #[m, x], argTypes := #[t, k] })
    (e : TypeId) (hk : P.underlying k = some (.int .i64)) (ht : P.underlying t = some (.map k e)) (b n : Nat) (M : Int → Option Value) (hm : a.eval m = .map (some b)) (hown : MpG P k w b n M) (s : Int) (hx : a.eval x = .int .i64 s) (hs : (Lit.int .i64 s).wf = true)
    (hK : ∀ w', MpG P k w' b n (updM M s none) → w.grownBy w' (some b) → K (a.put o.dst (.tuple #[])) w') :
    o.wp P a w K Q := by
  obtain ⟨D, ho, hD⟩ := hown
  obtain ⟨w', hrun, r1, r2⟩ := ho.drop (int_keyed hk) ht (keyOf_int_mk hk hs) o.type
  unfold Oper.wp
  simp [execOp, hop, resolve, invoke, builtin, hm, hx, hrun, Result.andThen]
  exact hK w' ⟨_, r1, hD.del⟩ r2.grown
/-- A look-up runs so. -/
theorem run_lookup_mp {P : Program} {w : World} (t k e : TypeId) (hk : P.underlying k = some (.int .i64)) (ht : P.underlying t = some (.map k e)) (hz : (zeroValue e).run P w = .ok (.slice none 0 0) w) {b n : Nat} {M : Int → Option Value} (hown : MpG P k w b n M) {s : Int} (hs : (Lit.int .i64 s).wf = true) :
    (Instr.lookup t (.map (some b)) (.int .i64 s) false).run P w = .ok (atM M s) w := by
  obtain ⟨D, ho, h1, h2⟩ := hown
  obtain ⟨v, ps, hrun, hv⟩ := ho.lookup (int_keyed hk) ht hz slE_nil (keyOf_int_mk hk hs)
  have e : v = atM M s := by
    unfold atM
    cases hM : M s with
    | none =>
      have hh := h1 s
      rw [hM] at hh
      rw [Maps.atKey_of_not_has hh] at hv
      exact slE_inj hv slE_nil rfl
    | some u =>
      obtain ⟨d, hd, hat⟩ := h2 s u hM
      rw [hat] at hv
      exact slE_inj hv hd rfl
  rw [hrun, e]
theorem zeroS (w : World) : (zeroValue 33).run Try.prog w = .ok (.slice none 0 0) w := by kernel_rfl
theorem due_info : (Try.prog.info? 48).map (fun i => (i.zero, i.size, i.bytes)) = some (some (.agg #[.int .i64 0, .int .i64 0]), 2, 16) := by kernel_rfl
theorem rdue_info : (Try.prog.info? 58).map (fun i => (i.zero, i.size, i.bytes)) = some (some (.agg #[.int .i64 0, .int .i64 0]), 2, 16) := by kernel_rfl
end Go.Proofs.Ytdhchfmefdlloaa
