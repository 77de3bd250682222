/- What is proved here: laws of maps from numbers to slices, by a ghost function: reading, writing, deleting, ranging. Conditions: none beyond those each theorem states. -/
import Derived.Maps.RangeWalk
namespace Go.Proofs.Ytdhchfmefdlloaa
open Go.RowKit Go.Maps Go.WideShapes

/-- What a slice's value reads as, alone. -/
def slE : Value → Option (DataW Unit × List MemPlace)
  | .slice none 0 0 => some (.nil, [])
  | .slice (some ⟨g, 0, none⟩) n c => some (.agg [.lit (.int .i64 g), .lit (.int .i64 n), .lit (.int .i64 c)], [])
  | _ => none
theorem slE_nil : slE (.slice none 0 0) = some (.nil, []) := rfl
theorem slE_some (g n c : Nat) : slE (.slice (some ⟨g, 0, none⟩) n c) = some (.agg [.lit (.int .i64 g), .lit (.int .i64 n), .lit (.int .i64 c)], []) := by
  unfold slE; rfl
theorem slE_inv {v : Value} {z : DataW Unit × List MemPlace} (h : slE v = some z) : (v = .slice none 0 0 ∧ z = (.nil, [])) ∨ ∃ g n c : Nat, v = .slice (some ⟨g, 0, none⟩) n c ∧ z = (.agg [.lit (.int .i64 g), .lit (.int .i64 n), .lit (.int .i64 c)], []) := by
  unfold slE at h
  split at h
  · exact Or.inl ⟨rfl, (Option.some.inj h).symm⟩
  · exact Or.inr ⟨_, _, _, rfl, (Option.some.inj h).symm⟩
  · cases h
theorem slE_inj {v v' : Value} {z z' : DataW Unit × List MemPlace} (h : slE v = some z) (h' : slE v' = some z') (e : z.1 = z'.1) : v = v' := by
  rcases slE_inv h with ⟨rfl, rfl⟩ | ⟨g, n, c, rfl, rfl⟩ <;> rcases slE_inv h' with ⟨rfl, rfl⟩ | ⟨g', n', c', rfl, rfl⟩
  · rfl
  · cases e
  · cases e
  · simp only [DataW.agg.injEq, List.cons.injEq, DataW.lit.injEq, Lit.int.injEq, true_and, and_true] at e
    obtain ⟨e1, e2, e3⟩ := e
    have := Int.ofNat.inj e1; have := Int.ofNat.inj e2; have := Int.ofNat.inj e3
    subst_vars; rfl
theorem slE_shape {v : Value} {z : DataW Unit × List MemPlace} (h : slE v = some z) : ∃ x : Option Addr × Nat × Nat, v = .slice x.1 x.2.1 x.2.2 := by
  rcases slE_inv h with ⟨rfl, _⟩ | ⟨g, n, c, rfl, _⟩
  · exact ⟨(none, 0, 0), rfl⟩
  · exact ⟨(some ⟨g, 0, none⟩, n, c), rfl⟩

def MpD (M : Int → Option Value) (D : DataW Unit) : Prop :=
  (∀ s : Int, Maps.has D (.int .i64 s) = (M s).isSome) ∧ ∀ (s : Int) (v : Value), M s = some v → ∃ d, slE v = some (d, []) ∧ ∀ z, D.atKey (.int .i64 s) z = d
/-- Block b is a map of at most n entries, that has M. -/
def MpG (P : Program) (k : TypeId) (w : World) (b n : Nat) (M : Int → Option Value) : Prop := ∃ D, w.ownsMap P k slE b n D ∧ MpD M D
/-- A range over it under way. -/
def RgG (P : Program) (k : TypeId) (w : World) (b r n : Nat) (M : Int → Option Value) (left : Int → Bool) (cnt : Nat) : Prop :=
  ∃ D lf, w.ranges P k slE b r n D lf cnt ∧ MpD M D ∧ (∀ s : Int, left s = lf (.int .i64 s)) ∧ ∀ s : Int, left s = true → (M s).isSome = true
/-- One entry more, or one less. -/
def updM (M : Int → Option Value) (s : Int) (v : Option Value) : Int → Option Value := fun x => if x = s then v else M x

section
variable {P : Program} {k : TypeId} {w : World} {b r n : Nat} {M : Int → Option Value} {left : Int → Bool} {cnt : Nat}
theorem MpG.made (w : World) (P : Program) (k : TypeId) : MpG P k (w.alloc (.map #[] 0)) w.heap.size 0 (fun _ => none) :=
  ⟨_, World.ownsMap_made _ _ _ _, fun s => rfl, fun s v h => by cases h⟩
theorem MpG.lt (h : MpG P k w b n M) : b < w.heap.size := by obtain ⟨D, h, _⟩ := h; exact h.lt
theorem MpG.mono (h : MpG P k w b n M) {n' : Nat} (hn : n ≤ n') : MpG P k w b n' M := by obtain ⟨D, h, hD⟩ := h; exact ⟨D, h.mono hn, hD⟩
theorem MpG.at_block (h : MpG P k w b n M) {w' : World} (hb : w'.heap[b]? = w.heap[b]?) : MpG P k w' b n M := by
  obtain ⟨D, ⟨es, clock, h1, h2⟩, hD⟩ := h
  exact ⟨D, ⟨es, clock, hb.trans h1, h2⟩, hD⟩
theorem RgG.owns (h : RgG P k w b r n M left cnt) : MpG P k w b n M := by obtain ⟨D, lf, h, hD, _⟩ := h; exact ⟨D, h.owns, hD⟩
theorem RgG.left_eq (h : RgG P k w b r n M left cnt) : w.rangeLeft b r = cnt := by obtain ⟨D, lf, h, _⟩ := h; exact h.left_eq
theorem RgG.lt (h : RgG P k w b r n M left cnt) : r < w.heap.size := by obtain ⟨D, lf, h, _⟩ := h; exact h.lt
theorem RgG.ne (h : RgG P k w b r n M left cnt) : r ≠ b := by obtain ⟨D, lf, h, _⟩ := h; exact h.ne
theorem RgG.at_block (h : RgG P k w b r n M left cnt) {w' : World} (hb : w'.heap[b]? = w.heap[b]?) (hr : w'.heap[r]? = w.heap[r]?) : RgG P k w' b r n M left cnt := by
  obtain ⟨D, lf, ⟨es, clock, since, seen, c0, h1, h2, h3, h4, h5, rest⟩, hD⟩ := h
  exact ⟨D, lf, ⟨es, clock, since, seen, c0, hb.trans h1, h2, h3, h4, hr.trans h5, rest⟩, hD⟩
theorem MpG.shape (h : MpG P k w b n M) {s : Int} {v : Value} (hv : M s = some v) : ∃ x : Option Addr × Nat × Nat, v = .slice x.1 x.2.1 x.2.2 := by
  obtain ⟨D, _, _, h2⟩ := h
  obtain ⟨d, hd, _⟩ := h2 s v hv
  exact slE_shape hd

theorem keyLit (s : Int) : WideAt.IsKeyLit (.int .i64 s) := by
  first | trivial | simp [WideAt.IsKeyLit] | decide
theorem MpD.put {D : DataW Unit} (h : MpD M D) (hm : Maps.IsMap D) {s : Int} {v : Value} {d : DataW Unit} (hv : slE v = some (d, [])) : MpD (updM M s (some v)) (D.put (.int .i64 s) d) := by
  refine ⟨fun x => ?_, fun x u hu => ?_⟩
  · by_cases e : x = s
    · subst e
      rw [Maps.has_put_same hm (keyLit _)]
      simp [updM]
    · rw [Maps.has_put_other (fun e' => e (by cases e'; rfl)), h.1 x]
      simp [updM, e]
  · by_cases e : x = s
    · subst e
      simp [updM] at hu
      subst hu
      exact ⟨d, hv, fun z => Maps.atKey_put_same hm (keyLit _) d z⟩
    · simp [updM, e] at hu
      obtain ⟨d', h1, h2⟩ := h.2 x u hu
      exact ⟨d', h1, fun z => by rw [Maps.atKey_put_other (fun e' => e (by cases e'; rfl))]; exact h2 z⟩
theorem MpD.del {D : DataW Unit} (h : MpD M D) {s : Int} : MpD (updM M s none) (D.del (.int .i64 s)) := by
  refine ⟨fun x => ?_, fun x u hu => ?_⟩
  · by_cases e : x = s
    · subst e
      rw [Maps.has_del_same]
      simp [updM]
    · rw [Maps.has_del_other (fun e' => e (by cases e'; rfl)), h.1 x]
      simp [updM, e]
  · by_cases e : x = s
    · subst e
      simp [updM] at hu
    · simp [updM, e] at hu
      obtain ⟨d', h1, h2⟩ := h.2 x u hu
      exact ⟨d', h1, fun z => by rw [Maps.atKey_del_other (fun e' => e (by cases e'; rfl))]; exact h2 z⟩
end

section
variable {P : Program} (w : World) {ops : Array Oper} {rest : List Oper} {o : Oper} {a : Act} {Q : Exit → Act → World → Prop}
/-- 'm[k]'. -/
theorem wpList_lookup_mp (hg : o.guard = none) (m x : Operand) (t : TypeId) (hop : o.op = Op.lookup t m x false) (k e : TypeId) (hk : P.underlying k = some (.int .i64)) (ht : P.underlying t = some (.map k e))
    (hz : (zeroValue e).run P w = .ok (.slice none 0 0) w) (b n : Nat) (M : Int → Option Value) (hm : a.eval m = .map (some b)) (hown : MpG P k w b n M) (s : Int) (hx : a.eval x = .int .i64 s) (hs : (Lit.int .i64 s).wf = true)
    (hK : wpList P ops Q rest (a.put o.dst ((M s).getD (.slice none 0 0))) w) :
    wpList P ops Q (o :: rest) a w := by
  refine wpList_plain hg fun K' hK' => ?_
  obtain ⟨D, ho, h1, h2⟩ := hown
  obtain ⟨v, ps, hrun, hv⟩ := ho.lookup (int_keyed hk) ht hz slE_nil (keyOf_int_mk hk hs)
  have e : v = (M s).getD (.slice none 0 0) := by
    cases hM : M s with
    | none =>
      have hh := h1 s
      rw [hM] at hh
      rw [Maps.atKey_of_not_has hh] at hv
      exact slE_inj hv slE_nil rfl
    | some u =>
      obtain ⟨d, hd, hat⟩ := h2 s u hM
      rw [hat] at hv
      exact slE_inj hv hd rfl
  subst e
  unfold Oper.wp
  simp [execOp, hop, hm, hx, hrun, Result.andThen]
  exact hK' _ _ hK
/-- 'm[k] = v'. -/
theorem wpList_update_mp (hg : o.guard = none) (m x v : Operand) (t : TypeId) (hop : o.op = Op.mapUpdate t m x v) (k e : TypeId) (hk : P.underlying k = some (.int .i64)) (ht : P.underlying t = some (.map k e))
    (b n : Nat) (M : Int → Option Value) (hm : a.eval m = .map (some b)) (hown : MpG P k w b n M) (hn : n < maxLen) (s : Int) (hx : a.eval x = .int .i64 s) (hs : (Lit.int .i64 s).wf = true) (val : Value) (hv : a.eval v = val) (d : DataW Unit) (hd : slE val = some (d, []))
    (hK : ∀ w', MpG P k w' b (n + 1) (updM M s (some val)) → w.grownBy w' (some b) → w'.heap.size = w.heap.size → wpList P ops Q rest (a.put o.dst undef) w') :
    wpList P ops Q (o :: rest) a w := by
  obtain ⟨D, ho, hD⟩ := hown
  refine wpList_mapUpdate_in w hg m x v t hop k e (int_keyed hk) ht slE b n D hm ho hn (.int .i64 s) val (.int .i64 s) hx hv (keyOf_int_mk hk hs) d [] hd fun w' h1 h2 => hK w' ⟨_, h1, hD.put ho.isMap hd⟩ h2.grown ?_
  obtain ⟨es, clock, es', clock', hb, rfl⟩ := h2
  simp [ChangeMaps.setBlock]
/-- 'delete(m, k)'. -/
theorem wpList_delete_mp (hg : o.guard = none) (m x : Operand) (t k : TypeId) (hop : o.op = Op.call { callee := Callee.builtin Builtin.delete, args := #[m, x], argTypes := #[t, k] })
    (e : TypeId) (hk : P.underlying k = some (.int .i64)) (ht : P.underlying t = some (.map k e)) (b n : Nat) (M : Int → Option Value) (hm : a.eval m = .map (some b)) (hown : MpG P k w b n M) (s : Int) (hx : a.eval x = .int .i64 s) (hs : (Lit.int .i64 s).wf = true)
    (hK : ∀ w', MpG P k w' b n (updM M s none) → w.grownBy w' (some b) → w'.heap.size = w.heap.size → wpList P ops Q rest (a.put o.dst (.tuple #[])) w') :
    wpList P ops Q (o :: rest) a w := by
  obtain ⟨D, ho, hD⟩ := hown
  refine wpList_delete_own w hg m x t k hop e (int_keyed hk) ht slE b n D hm ho (.int .i64 s) (.int .i64 s) hx (keyOf_int_mk hk hs) fun w' h1 h2 => hK w' ⟨_, h1, hD.del⟩ h2.grown ?_
  obtain ⟨es, clock, es', clock', hb, rfl⟩ := h2
  simp [ChangeMaps.setBlock]
/-- 'range m'. -/
theorem wpList_range_mp (hg : o.guard = none) (m : Operand) (t : TypeId) (hop : o.op = Op.range t m) (k e : TypeId) (hk : P.underlying k = some (.int .i64)) (ht : P.underlying t = some (.map k e)) (b n : Nat) (M : Int → Option Value)
    (hm : a.eval m = .map (some b)) (hown : MpG P k w b n M)
    (hK : ∀ w' cnt, RgG P k w' b w.heap.size n M (fun s => (M s).isSome) cnt → cnt ≤ n → w.grownBy w' none → w'.heap.size = w.heap.size + 1 → wpList P ops Q rest (a.put o.dst (.pointer (some ⟨w.heap.size, 0, none⟩))) w') :
    wpList P ops Q (o :: rest) a w := by
  obtain ⟨D, ho, hD⟩ := hown
  exact wpList_range_own w hg m t hop k e (int_keyed hk) ht slE b n D hm ho fun w' h1 h2 h3 => hK w' _ ⟨_, _, h1, hD, fun s => (hD.1 s).symm, fun s h => h⟩ ho.size_le h2 h3
/-- The range's step. -/
theorem wpList_next_mp (hg : o.guard = none) (it : Operand) (hop : o.op = Op.next it false) (k : TypeId) (hk : P.underlying k = some (.int .i64)) (b r n : Nat) (M : Int → Option Value) (left : Int → Bool) (cnt : Nat)
    (hit : a.eval it = .pointer (some ⟨r, 0, none⟩)) (h : RgG P k w b r n M left cnt)
    (hDone : cnt = 0 → (∀ s, left s = false) → wpList P ops Q rest (a.put o.dst (.tuple #[.bool false])) w)
    (hMore : ∀ (s : Int) (va : Option Addr) (vn vc : Nat) (w' : World) (cnt' : Nat), (Lit.int .i64 s).wf = true → left s = true → M s = some (.slice va vn vc) → RgG P k w' b r n M (fun z => left z && z != s) cnt' → cnt' < cnt →
      w.grownBy w' (some r) → w'.heap.size = w.heap.size → (Instr.entry (.pointer (some ⟨r, 0, none⟩))).run P w' = .ok (.tuple #[.int .i64 s, .slice va vn vc]) w' → wpList P ops Q rest (a.put o.dst (.tuple #[.bool true, .int .i64 s, .slice va vn vc])) w') :
    wpList P ops Q (o :: rest) a w := by
  obtain ⟨D, lf, hr, hD, hl, hM⟩ := h
  refine wpList_next_ranges w hg it hop k (int_keyed hk) slE (Value.int .i64) (fun x : Option Addr × Nat × Nat => Value.slice x.1 x.2.1 x.2.2) (fun key kl hkey => by obtain ⟨x, rfl, _⟩ := Maps.keyOf_int_inv hk hkey; exact ⟨x, rfl⟩)
    (fun v y hv => slE_shape hv) b r n D lf cnt hit hr (fun h0 hl0 => hDone h0 fun s => (hl s).trans (hl0 _)) ?_
  rintro s ⟨va, vn, vc⟩ kl y w' cnt' hkey hlk hv hat hrg hlt hgr hsz hen
  obtain ⟨s', es, rfl, hws⟩ := Maps.keyOf_int_inv hk hkey
  cases es
  have hls : left s = true := (hl s).trans hlk
  obtain ⟨u, hu⟩ := Option.isSome_iff_exists.1 (hM s hls)
  obtain ⟨d, hd, hatd⟩ := hD.2 s u hu
  have e : Value.slice va vn vc = u := slE_inj hv hd (by rw [← hat .nil, hatd])
  refine hMore s va vn vc w' cnt' hws hls (by rw [hu, ← e]) ⟨D, _, hrg, hD, fun z => ?_, fun z hz => hM z (by simp at hz; exact hz.1)⟩ hlt hgr hsz hen
  show (left z && z != s) = _
  rw [hl z]
  congr 1
  by_cases ez : z = s
  · subst ez
    simp [Lit.sameKey]
  · rw [Maps.sameKey_ne (fun e' => ez (by cases e'; rfl))]
    simp [ez]
end
end Go.Proofs.Ytdhchfmefdlloaa
