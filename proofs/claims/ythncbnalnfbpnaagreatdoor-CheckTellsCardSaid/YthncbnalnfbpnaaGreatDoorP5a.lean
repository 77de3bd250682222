/- What is proved here: plain facts on images that are not too heavy, and a law of append at own rows of ints. Conditions: those each theorem states. -/
import Derived.Test.YthncbnalnfbpnaaGreatDoorP2
import Derived.Test.YthncbnalnfbpnaaGreatDoorIt
namespace Go.Proofs.YthncbnalnfbpnaaGreatDoor
open Go.ChangeShapes Go.WideShapes Go.RowKit

theorem rise_len : ∀ {l : List Int} {A room : Int}, riseE A room l = true → A < room → A + (l.length : Int) < room
  | [], A, room, _, h => by simpa using h
  | p :: l, A, room, h, _ => by
    simp only [riseE, Bool.and_eq_true, decide_eq_true_eq] at h
    have := rise_len h.2.2 h.2.1
    rw [List.length_cons]
    omega
theorem bulkT_cons (t : TkP) (l : List TkP) : bulkT (t :: l) = (min (t.bl.length : Int) 100 + min (t.ou.length : Int) 100 + min (t.co.length : Int) 10000 / 20) + bulkT l := rfl
theorem bulkT_pos : ∀ l : List TkP, 0 ≤ bulkT l
  | [] => by unfold bulkT; simp
  | t :: l => by rw [bulkT_cons]; have := bulkT_pos l; omega
theorem bulkB_pos : ∀ l : List (List Int), 0 ≤ bulkB l
  | [] => by unfold bulkB; simp
  | t :: l => by
    have e : bulkB (t :: l) = min (t.length : Int) 100 + bulkB l := rfl
    rw [e]; have := bulkB_pos l; omega
theorem outs_bulk : ∀ {l : List TkP} {k : Nat}, (∀ t ∈ l.take k, t.ou.length ≤ 100) → ((outsT (l.take k)).length : Int) ≤ bulkT l
  | [], k, _ => by rw [List.take_nil]; unfold outsT bulkT; simp
  | t :: l, 0, _ => by rw [List.take_zero]; exact bulkT_pos _
  | t :: l, k + 1, h => by
    have e : outsT ((t :: l).take (k + 1)) = t.ou ++ outsT (l.take k) := rfl
    rw [e, List.length_append, bulkT_cons]
    have h1 := h t (by rw [List.take_succ_cons]; exact List.mem_cons_self ..)
    have := outs_bulk (l := l) (k := k) (fun u hu => h u (by rw [List.take_succ_cons]; exact List.mem_cons_of_mem _ hu))
    omega
theorem light_few {m : ImP} (hl : lightE m ≠ 0) : m.safe.length ≤ 80 ∧ m.blocks.length ≤ 80 ∧ m.tasks.length ≤ 80 ∧ bulkT m.tasks ≤ 200 := by
  unfold lightE at hl
  by_cases h1 : 80 < lightN m
  · rw [if_pos h1] at hl; exact absurd rfl hl
  · rw [if_neg h1] at hl
    by_cases h2 : 200 < lightN m + bulkB m.blocks + bulkT m.tasks
    · rw [if_pos h2] at hl; exact absurd rfl hl
    · have := bulkB_pos m.blocks
      unfold lightN at h1 h2
      omega
theorem light_outs {m : ImP} (hl : lightE m ≠ 0) {k : Nat} (h : ∀ t ∈ m.tasks.take k, riseE (-1) m.safe.length t.ou = true) : (outsT (m.tasks.take k)).length ≤ 200 := by
  obtain ⟨h1, h2, h3, h4⟩ := light_few hl
  have := outs_bulk (l := m.tasks) (k := k) (fun t ht => by have := rise_len (h t ht) (by omega); omega)
  omega
theorem apE_iff : ∀ {l seen : List Int}, apE seen l = true ↔ (∀ x ∈ l, x ∉ seen) ∧ l.Nodup
  | [], seen => by simp [apE]
  | p :: l, seen => by
    rw [apE_cons, Bool.and_eq_true, apE_iff, List.nodup_cons]
    simp only [Bool.not_eq_true', List.contains_eq_mem, decide_eq_false_iff_not, List.mem_cons, not_or, forall_eq_or_imp]
    constructor
    · rintro ⟨h1, h2, h3⟩
      exact ⟨⟨h1, fun x hx => (h2 x hx).2⟩, fun hp => (h2 p hp).1 rfl, h3⟩
    · rintro ⟨⟨h1, h2⟩, h3, h4⟩
      exact ⟨h1, fun x hx => ⟨fun e => h3 (e ▸ hx), h2 x hx⟩, h4⟩
theorem ap_not {l : List Int} {i k : Nat} {x : Int} (h1 : l[i]? = some x) (h2 : l[k]? = some x) (h : k < i) : apE [] l = false := by
  cases e : apE [] l
  · rfl
  · obtain ⟨a1, b1⟩ := List.getElem?_eq_some_iff.1 h1
    obtain ⟨a2, b2⟩ := List.getElem?_eq_some_iff.1 h2
    have := List.pairwise_iff_getElem.1 (apE_iff.1 e).2 k i a2 a1 h
    exact absurd (b2.trans b1.symm) this
theorem ap_all {l : List Int} (h : ∀ i, i < l.length → ∀ k, k < i → l[i]? ≠ l[k]?) : apE [] l = true := by
  refine apE_iff.2 ⟨fun x _ => by simp, List.pairwise_iff_getElem.2 fun k i hk hi hki e => h i hi k hki ?_⟩
  rw [List.getElem?_eq_getElem hi, List.getElem?_eq_getElem hk, e]
theorem run_append_none0 {P : Program} (w : World) (t ty e : TypeId) (i : TypeInfo) (ht : P.underlying t = some (.slice e)) (hi : P.info? e = some i) (c : Nat) :
    (Builtin.append_ #[t, t] ty #[.slice none 0 0, .slice none 0 c]).run P w = .ok (.slice none 0 0) w := by
  simp [Builtin.append_, run_underlying ht, sizeOf, typeInfo, hi, Builtin.lenOf, run_firstCells_none]
/-- A row of ints, or none, is appended to an own one, or to none. -/
theorem wpList_append_rowv {P : Program} (w : World) {ops : Array Oper} {rest : List Oper} {o : Oper} {a : Act} {Q : Exit → Act → World → Prop} (hw : Region.wanted o (yielded ops a.tmps) = true) (s x : Operand) (t : TypeId)
    (ho : o.op = .call { callee := .builtin .append, args := #[s, x], argTypes := #[t, t] })
    (base : Nat) (i : TypeInfo) (ht : P.underlying t = some (.slice 3)) (hi : P.info? 3 = some i) (hz : i.zero = some (.int .i64 0)) (hsize : i.size = 1) (hby : i.bytes = 8)
    (v : Value) (n : Nat) (xs : List Value) (hs : a.eval s = v) (hown : w.ownsRow base 3 1 v n xs)
    (xa : Option Addr) (m c : Nat) (l : List Int) (hx : a.eval x = .slice xa m c) (hr : Row w xa m l)
    (h63 : n + m ≤ 1000) (hbase : base ≤ w.heap.size)
    (h : ∀ v' w', w'.ownsRow base 3 1 v' (n + m) (xs ++ l.map (Value.int .i64)) → w.grownBy w' v.ownBlock → wpList P ops Q rest (a.put o.dst v') w') : wpList P ops Q (o :: rest) a w := by
  unfold wpList
  rw [if_pos hw]
  cases xa with
  | none =>
    have hm : m = 0 := by
      rcases Nat.eq_zero_or_pos m with h | h
      · exact h
      · obtain ⟨_, _, e, _⟩ := hr.2 h; cases e
    subst hm
    have hl : l = [] := List.eq_nil_of_length_eq_zero hr.1.symm
    subst hl
    rcases hown.2 with ⟨e, _⟩ | ⟨g', cap', cur, e, _, _, h4, _⟩
    · subst e
      refine Or.inl (Lib.wp_append_run_sl w s x t ho _ _ hs hx (run_append_none0 w t o.type 3 i ht hi c) ?_)
      exact h _ w (by simpa using hown) ⟨rfl, rfl, rfl, Nat.le_refl _, fun _ _ _ => rfl⟩
    · subst e
      refine Or.inl (Lib.wp_append_run_sl w s x t ho _ _ hs hx (run_append_none w t o.type 3 i ht hi g' n cap' c h4) ?_)
      exact h _ w (by simpa using hown) ⟨rfl, rfl, rfl, Nat.le_refl _, fun _ _ _ => rfl⟩
  | some ad =>
    refine Or.inl (wp_append_own w s x t ho base 3 i (.int .i64 0) 1 8 ht hi hz hsize hby rfl (by decide) _ n xs hs hown ad m c (l.map (Value.int .i64)) hx (by rw [List.length_map, hr.1]; omega) (hr.cells rfl) ?_ (by unfold maxLen; omega) (by omega) hbase ?_)
    · intro u hu
      obtain ⟨y, _, rfl⟩ := List.mem_map.1 hu
      rfl
    · intro v' w' h1 h2 h3
      exact h v' w' h1 h2
end Go.Proofs.YthncbnalnfbpnaaGreatDoor
