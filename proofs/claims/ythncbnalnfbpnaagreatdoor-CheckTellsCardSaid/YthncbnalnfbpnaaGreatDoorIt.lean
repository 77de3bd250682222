/- What is proved here: rows of tasks that a call owns; appends of rows that came in to own rows. Conditions: those each theorem states. -/
import Derived.Test.YthncbnalnfbpnaaGreatDoorHj
import Derived.Test.YthncbnalnfbpnaaGreatDoorGi
import Derived.Test.YthncbnalnfbpnaaGreatDoorHr
import Derived.Deep.AppendLies
import Derived.Deep.DeepAppendWide
namespace Go.Proofs.YthncbnalnfbpnaaGreatDoor
open Go.ChangeShapes Go.WideShapes Go.RowKit

/-- Tasks' cells, one behind the other. -/
def tkC (V : List TaV) : List Value := V.flatMap TaV.cells
theorem tkC_snoc (V : List TaV) (t : TaV) : tkC (V ++ [t]) = tkC V ++ t.cells := by simp [tkC]
theorem tkC_len (V : List TaV) : (tkC V).length = V.length * 7 := by
  induction V with
  | nil => rfl
  | cons x l ih => simp only [tkC, List.flatMap_cons, List.length_append, List.length_cons, TaV.cells, List.length_nil] at ih ⊢; omega
theorem tkC_at (V : List TaV) (i j : Nat) (t : TaV) (h : V[i]? = some t) (hj : j < 7) : (tkC V)[i * 7 + j]? = t.cells[j]? := by
  induction V generalizing i with
  | nil => simp at h
  | cons x l ih =>
    have e : tkC (x :: l) = x.cells ++ tkC l := rfl
    rw [e]
    rcases i with _ | i
    · simp at h
      subst h
      rw [List.getElem?_append_left (by show 0 * 7 + j < 7; omega)]
      rw [show 0 * 7 + j = j by omega]
    · rw [List.getElem?_append_right (by show 7 ≤ (i + 1) * 7 + j; omega)]
      rw [show (i + 1) * 7 + j - x.cells.length = i * 7 + j by show (i + 1) * 7 + j - 7 = _; omega]
      exact ih i (by simpa using h)
theorem tkC_one (V : List TaV) : ∀ u ∈ tkC V, u.oneCell' = true := by
  intro u hu
  unfold tkC at hu
  rw [List.mem_flatMap] at hu
  obtain ⟨t, _, hi⟩ := hu
  simp [TaV.cells, Sl.v] at hi
  rcases hi with rfl | rfl | rfl | rfl | rfl | rfl | rfl <;> rfl
/-- Which tasks cells tell of. -/
def TksIs (w : World) (V : List TaV) (L : List TkP) : Prop := V.length = L.length ∧ ∀ (i : Nat) (t : TaV), V[i]? = some t → ∃ T, L[i]? = some T ∧ t.Is w T
theorem TksIs.below {w w' : World} {V : List TaV} {L : List TkP} (h : TksIs w V L) (hb : Below w.heap.size w w') : TksIs w' V L :=
  ⟨h.1, fun i t ht => by obtain ⟨T, h1, h2⟩ := h.2 i t ht; exact ⟨T, h1, h2.below hb⟩⟩
theorem RowT.raw {w : World} {a : Option Addr} {n : Nat} {L : List TkP} (h : RowT w a n L) : ∃ V : List TaV, TksIs w V L ∧
    ∀ (i : Nat) (t : TaV), V[i]? = some t → ∃ b off, a = some ⟨b, off, none⟩ ∧ b < w.heap.size ∧ ∀ j v, t.cells[j]? = some v → w.cell? ⟨b, off + i * 7 + j, none⟩ = some v := by
  obtain ⟨hl, h2⟩ := h
  by_cases h0 : 0 < n
  · obtain ⟨b, off, e, hlt, hc⟩ := h2 h0
    have many : ∀ k, k ≤ n → ∃ V : List TaV, V.length = k ∧ ∀ (i : Nat) (t : TaV), V[i]? = some t → ∃ T, L[i]? = some T ∧ t.Is w T ∧ ∀ j v, t.cells[j]? = some v → w.cell? ⟨b, off + i * 7 + j, none⟩ = some v := by
      intro k
      induction k with
      | zero => exact fun _ => ⟨[], rfl, fun i t h => by simp at h⟩
      | succ k ih =>
        intro hk
        obtain ⟨V, hV, hV2⟩ := ih (by omega)
        obtain ⟨t, T, h1, h2, h3⟩ := hc k (by omega)
        refine ⟨V ++ [t], by simp [hV], fun i t' ht' => ?_⟩
        by_cases hi : i < V.length
        · rw [List.getElem?_append_left hi] at ht'
          exact hV2 i t' ht'
        · rw [List.getElem?_append_right (by omega)] at ht'
          have hi2 : i - V.length = 0 := by
            have := (List.getElem?_eq_some_iff.1 ht').1
            simp at this; omega
          rw [hi2] at ht'
          simp at ht'
          subst ht'
          obtain rfl : i = k := by omega
          exact ⟨T, h1, h2, h3⟩
    obtain ⟨V, hV, hV2⟩ := many n (Nat.le_refl _)
    exact ⟨V, ⟨by omega, fun i t ht => by obtain ⟨T, k1, k2, _⟩ := hV2 i t ht; exact ⟨T, k1, k2⟩⟩, fun i t ht => by obtain ⟨T, _, _, k3⟩ := hV2 i t ht; exact ⟨b, off, e, hlt, k3⟩⟩
  · obtain rfl : L = [] := List.eq_nil_of_length_eq_zero (by omega)
    exact ⟨[], ⟨rfl, fun i t h => by simp at h⟩, fun i t h => by simp at h⟩
theorem RowT.own {w : World} {base e : Nat} {v : Value} {m : Nat} {V : List TaV} {L : List TkP} (h : w.ownsRow base e 7 v m (tkC V)) (hi : TksIs w V L) :
    ∃ a c, v = .slice a m c ∧ m = L.length ∧ RowT w a m L ∧ ∀ p, a = some p → base ≤ p.block ∧ p.block < w.heap.size := by
  have hl := h.1
  rw [tkC_len] at hl
  have hm : m = L.length := by have := hi.1; omega
  rcases h.2 with ⟨h1, h2⟩ | ⟨g, cap, cur, h1, h2, h3, h4⟩
  · subst h2
    exact ⟨none, 0, h1, hm, ⟨hm, fun h => absurd h (by omega)⟩, fun p hp => by cases hp⟩
  · subst h1
    have hlt := h.lt g rfl
    refine ⟨_, cap, rfl, hm, ⟨hm, fun _ => ⟨g, 0, rfl, hlt.2, fun i hi2 => ?_⟩⟩, fun p hp => by cases hp; exact hlt⟩
    have hiv : i < V.length := by have := hi.1; omega
    obtain ⟨T, k1, k2⟩ := hi.2 i V[i] (List.getElem?_eq_getElem hiv)
    refine ⟨V[i], T, k1, k2, fun j u hj => ?_⟩
    have hj7 : j < 7 := (List.getElem?_eq_some_iff.1 hj).1
    have := tkC_at V i j _ (List.getElem?_eq_getElem hiv) hj7
    rw [show 0 + i * 7 + j = i * 7 + j by omega, h.cellAt (i * 7 + j) (by omega), this]
    exact hj
theorem tkC_get (V : List TaV) (i j : Nat) (hi : i < V.length) (hj : j < 7) : (tkC V)[i * 7 + j]? = V[i].cells[j]? := tkC_at V i j _ (List.getElem?_eq_getElem hi) hj
theorem tkC_set (V : List TaV) (i j : Nat) (t' : TaV) (u : Value) (hi : i < V.length) (hj : j < 7) (h : t'.cells = V[i].cells.set j u) : (tkC V).set (i * 7 + j) u = tkC (V.set i t') := by
  refine List.ext_getElem? fun p => ?_
  have hl : (tkC (V.set i t')).length = (tkC V).length := by rw [tkC_len, tkC_len, List.length_set]
  rcases Nat.lt_or_ge p (tkC V).length with hp | hp
  · rw [tkC_len] at hp
    obtain ⟨a, b, ha, hb, rfl⟩ : ∃ a b, a < V.length ∧ b < 7 ∧ p = a * 7 + b := ⟨p / 7, p % 7, by omega, by omega, by omega⟩
    rw [List.getElem?_set, tkC_get (V.set i t') a b (by rw [List.length_set]; exact ha) hb, tkC_get V a b ha hb]
    by_cases e : i = a
    · subst e
      have e2 : (V.set i t')[i]'(by rw [List.length_set]; exact ha) = t' := by simp
      rw [e2, h, List.getElem?_set]
      by_cases e3 : j = b
      · subst e3
        rw [if_pos rfl, if_pos rfl, if_pos (by rw [tkC_len]; omega), if_pos (by show j < 7; exact hj)]
      · rw [if_neg (by omega), if_neg e3]
    · have e2 : (V.set i t')[a]'(by rw [List.length_set]; exact ha) = V[a] := by simp [e]
      rw [e2, if_neg (by omega)]
  · rw [List.getElem?_eq_none (by rw [List.length_set]; exact hp), List.getElem?_eq_none (by rw [hl]; exact hp)]
/-- A row, or none, is appended to an own one. -/
theorem wpList_append_gen {P : Program} (w : World) {ops : Array Oper} {rest : List Oper} {o : Oper} {a : Act} {Q : Exit → Act → World → Prop} (hw : Region.wanted o (yielded ops a.tmps) = true) (s x : Operand) (t : TypeId)
    (ho : o.op = .call { callee := .builtin .append, args := #[s, x], argTypes := #[t, t] })
    (base : Nat) (e : TypeId) (i : TypeInfo) (z : Value) (size bytes : Nat) (ht : P.underlying t = some (.slice e)) (hi : P.info? e = some i) (hz : i.zero = some z) (hsize : i.size = size) (hby : i.bytes = bytes) (hzs : z.cells.size = size) (hsz : 0 < size) (hb2 : bytes ≤ 200)
    (g n cap : Nat) (xs : List Value) (hs : a.eval s = .slice (some ⟨g, 0, none⟩) n cap) (hown : w.ownsRow base e size (.slice (some ⟨g, 0, none⟩) n cap) n xs)
    (xa : Option Addr) (m c : Nat) (ys : List Value) (hx : a.eval x = .slice xa m c) (hl : ys.length = m * size) (hc : ∀ ad, xa = some ad → ∀ j u, ys[j]? = some u → w.cell? (ad.add j) = some u) (hn : xa = none → m = 0) (h1 : ∀ u ∈ ys, u.oneCell' = true)
    (h63 : n + m ≤ 1000) (hbase : base ≤ w.heap.size)
    (h : ∀ g' cap' w', w'.ownsRow base e size (.slice (some ⟨g', 0, none⟩) (n + m) cap') (n + m) (xs ++ ys) → w.grownBy w' (some g) → wpList P ops Q rest (a.put o.dst (.slice (some ⟨g', 0, none⟩) (n + m) cap')) w') : wpList P ops Q (o :: rest) a w := by
  unfold wpList
  rw [if_pos hw]
  cases xa with
  | none =>
    have hm := hn rfl
    subst hm
    have hl2 : ys = [] := List.eq_nil_of_length_eq_zero (by rw [hl]; omega)
    subst hl2
    have hnc : n ≤ cap := by
      rcases hown.2 with ⟨e, _⟩ | ⟨g', cap', cur, e, _, _, h4, _⟩
      · cases e
      · cases e; exact h4
    refine Or.inl (Lib.wp_append_run_sl w s x t ho _ _ hs hx (run_append_none w t o.type e i ht hi g n cap c hnc) ?_)
    exact h g cap w (by simpa using hown) ⟨rfl, rfl, rfl, Nat.le_refl _, fun _ _ _ => rfl⟩
  | some ad =>
    have hbig : ((n + m) + (n + m) / 4 + 192) * bytes ≤ 281474976710656 := by
      have : ((n + m) + (n + m) / 4 + 192) * bytes ≤ 1500 * 200 := Nat.mul_le_mul (by omega) hb2
      omega
    refine Or.inl (wp_append_own_wide w s x t ho base e i z size bytes ht hi hz hsize hby hzs hsz _ n xs hs hown ad m c ys hx hl (hc ad rfl) h1 (by unfold maxLen; omega) hbig hbase ?_)
    intro v' w' k1 k2 k3
    rcases k1.2 with ⟨e1, e0⟩ | ⟨g', cap', cur, e1, _⟩
    · have := k3.1 e1
      cases this.1
    · subst e1
      exact h g' cap' w' k1 k2
theorem itk_info : (Tryz.prog.info? 52).map (fun i => (i.zero, i.size, i.bytes)) = some (some (.agg #[.int .i64 0, .int .i64 0, .int .i64 0, .int .i64 0, .slice none 0 0, .slice none 0 0, .slice none 0 0]), 7, 104) := by kernel_rfl
end Go.Proofs.YthncbnalnfbpnaaGreatDoor
