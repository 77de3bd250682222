/- What is proved here: plain facts on sums and responses of greater numbers, of fewer rows, of more slots; rows whose cells are changed one by one. Conditions: those each theorem states. -/
import Derived.Test.YtiibbeigkopkeaaW4
import Derived.Deep.DeepAppendWide
namespace Go.Proofs.Ytiibbeigkopkeaa
open Go.ChangeShapes Go.WideShapes Go.RowKit

theorem next_grows {L : List RtR} {k : Nat} {x : RtR} {u v a e b f : Int} (hg : rgR L = true) (hk : L[k]? = some x) (huv : u ≤ v) (h1 : nxR L k u = (a, e)) (h2 : nxR L k v = (b, f)) :
    (e = 0 ∧ f = 0 ∧ a ≤ b) ∨ (e = 0 ∧ f ≠ 0) ∨ (e = 4 ∧ f ≠ 0) ∨ (e ≠ 0 ∧ e ≠ 4) := by
  have hgr := nxO_grows (r := x) (o := oth L x.P k) (rgR_mem hg (List.mem_of_getElem? hk)) (fun y hy => rgR_mem hg (oth_mem hy).1)
  cases hu : rtI u
  · rw [nxR_bad (by rw [hu]; simp)] at h1; cases h1
    exact Or.inr (Or.inr (Or.inr ⟨by decide, by decide⟩))
  · have hu0 := (rtI_iff.1 hu).1
    rw [nxR_at hg hk hu] at h1
    have hf : f = 0 → ∃ y, nxO x (oth L x.P k) v = some y ∧ b = y := by
      intro h0
      cases hv : rtI v
      · rw [nxR_bad (by rw [hv]; simp)] at h2
        cases h2; exact absurd h0 (by decide)
      · rw [nxR_at hg hk hv] at h2
        cases hz : nxO x (oth L x.P k) v with
        | none => rw [hz] at h2; cases h2; exact absurd h0 (by decide)
        | some y => rw [hz] at h2; cases h2; exact ⟨_, rfl, rfl⟩
    cases hz : nxO x (oth L x.P k) u with
    | none =>
      rw [hz] at h1; cases h1
      refine Or.inr (Or.inr (Or.inl ⟨rfl, fun h0 => ?_⟩))
      obtain ⟨y, hy, _⟩ := hf h0
      obtain ⟨z, h3, _⟩ := hgr.mono u v hu0 huv y hy
      rw [hz] at h3; cases h3
    | some m =>
      rw [hz] at h1; cases h1
      by_cases h0 : f = 0
      · obtain ⟨y, hy, rfl⟩ := hf h0
        obtain ⟨z, h3, h4⟩ := hgr.mono u v hu0 huv _ hy
        rw [hz] at h3; cases h3
        exact Or.inl ⟨rfl, h0, h4⟩
      · exact Or.inr (Or.inl ⟨rfl, h0⟩)
theorem rgR_take {L : List RtR} (hg : rgR L = true) (m : Nat) : rgR (L.take m) = true := by
  have h8 : L.length ≤ 8 := by unfold rgR at hg; simp only [Bool.and_eq_true, decide_eq_true_eq] at hg; exact hg.2
  unfold rgR
  simp only [Bool.and_eq_true, List.all_eq_true, decide_eq_true_eq]
  exact ⟨fun y hy => rgR_mem hg (List.mem_of_mem_take hy), by rw [List.length_take]; omega⟩
theorem resp_fewer {L : List RtR} {k m : Nat} {x : RtR} {v : Int} (hg : rgR L = true) (hk : L[k]? = some x) (hm : k < m) (h : rspR L k = (v, 0)) : ∃ u, rspR (L.take m) k = (u, 0) ∧ u ≤ v := by
  have hk2 : (L.take m)[k]? = some x := by rw [List.getElem?_take, if_pos hm]; exact hk
  have hx := rgR_mem hg (List.mem_of_getElem? hk)
  have ho : ∀ y ∈ oth L x.P k, okR y = true := fun y hy => rgR_mem hg (oth_mem hy).1
  have hs := oth_fewer L x.P k m
  rw [rspR_at hg hk] at h
  rw [rspR_at (rgR_take hg m) hk2]
  exact rsp_le (by decide) (nxO_grows hx (fun y hy => ho y (hs.subset hy))) (nxO_grows hx ho) (nxO_fewer hs ho) (Int.le_refl _) h
theorem upR_P (r : RtR) : (upR r).P = r.P := by unfold upR; split <;> rfl
theorem rgR_up {L : List RtR} (hg : rgR L = true) : rgR (L.map upR) = true := by
  have h8 : L.length ≤ 8 := by unfold rgR at hg; simp only [Bool.and_eq_true, decide_eq_true_eq] at hg; exact hg.2
  unfold rgR
  simp only [Bool.and_eq_true, List.all_eq_true, decide_eq_true_eq]
  refine ⟨fun y hy => ?_, by rw [List.length_map]; exact h8⟩
  obtain ⟨z, hz, rfl⟩ := List.mem_map.1 hy
  exact (upR_ok (rgR_mem hg hz)).1
theorem resp_more {L : List RtR} {k : Nat} {x : RtR} {v : Int} (hg : rgR L = true) (hk : L[k]? = some x) (h : rspR (L.map upR) k = (v, 0)) : ∃ u, rspR L k = (u, 0) ∧ u < v := by
  have hk2 : (L.map upR)[k]? = some (upR x) := by rw [List.getElem?_map, hk]; rfl
  have hx := rgR_mem hg (List.mem_of_getElem? hk)
  have ho : ∀ y ∈ oth L x.P k, okR y = true := fun y hy => rgR_mem hg (oth_mem hy).1
  obtain ⟨_, e1, e2, e3, e4, e5, _⟩ := upR_ok hx
  rw [rspR_at (rgR_up hg) hk2, e1, e4, e5, oth_map upR_P] at h
  rw [rspR_at hg hk]
  exact rsp_up hx ho (by decide) h
theorem RowS.take {w : World} {a : Option Addr} {n : Nat} {L : List RtR} (h : RowS w a n L) (m : Nat) (hm : m ≤ n) : RowS w a m (L.take m) := by
  refine ⟨by rw [List.length_take, ← h.1]; omega, fun h0 => ?_⟩
  obtain ⟨b, off, e, hlt, hc⟩ := h.2 (by omega)
  refine ⟨b, off, e, hlt, fun i hi => ?_⟩
  obtain ⟨r, hr, hcs⟩ := hc i (by omega)
  exact ⟨r, by rw [List.getElem?_take, if_pos hi]; exact hr, hcs⟩
/-- The cell of a row's slots is changed. -/
theorem rsC_set {r r' : RtR} (j : Nat) (v : Value) (hr : (rtC r).set j v = rtC r') (hj : j < 6) : ∀ (V : List RtR) (i : Nat), V[i]? = some r → (rsC V).set (i * 6 + j) v = rsC (V.set i r')
  | [], i, h => by simp at h
  | x :: l, 0, h => by
    simp at h
    subst h
    show (rtC x ++ rsC l).set (0 * 6 + j) v = rtC r' ++ rsC l
    rw [List.set_append, if_pos (by show 0 * 6 + j < 6; omega), show 0 * 6 + j = j by omega, hr]
  | x :: l, i + 1, h => by
    have h' : l[i]? = some r := by simpa using h
    show (rtC x ++ rsC l).set ((i + 1) * 6 + j) v = rtC x ++ rsC (l.set i r')
    rw [List.set_append, if_neg (by show ¬ (i + 1) * 6 + j < 6; omega), show (i + 1) * 6 + j - (rtC x).length = i * 6 + j by show (i + 1) * 6 + j - 6 = _; omega, rsC_set j v hr hj l i h']
/-- The first rows have one slot more each. -/
def upTo (L : List RtR) (k : Nat) : List RtR := (L.take k).map upR ++ L.drop k
theorem upTo_zero (L : List RtR) : upTo L 0 = L := rfl
theorem upTo_all (L : List RtR) : upTo L L.length = L.map upR := by unfold upTo; rw [List.take_length, List.drop_length, List.append_nil]
theorem upTo_len (L : List RtR) (k : Nat) : (upTo L k).length = L.length := by
  unfold upTo; rw [List.length_append, List.length_map, ← List.length_append, List.take_append_drop]
theorem upTo_at {L : List RtR} {k : Nat} {x : RtR} (h : L[k]? = some x) : (upTo L k)[k]? = some x := by
  have hk : k < L.length := (List.getElem?_eq_some_iff.1 h).1
  unfold upTo
  rw [List.getElem?_append_right (by rw [List.length_map, List.length_take]; omega), List.getElem?_drop, List.length_map, List.length_take, show k + (k - min k L.length) = k by omega]
  exact h
theorem upTo_succ {L : List RtR} {k : Nat} {x : RtR} (h : L[k]? = some x) : upTo L (k + 1) = (upTo L k).set k (upR x) := by
  have hk : k < L.length := (List.getElem?_eq_some_iff.1 h).1
  unfold upTo
  rw [take_cat h, List.map_append, List.set_append, if_neg (by rw [List.length_map, List.length_take]; omega), List.length_map, List.length_take, show k - min k L.length = 0 by omega, take_cons_drop h, List.append_assoc]
  rfl
theorem set_self {α : Type} {l : List α} {k : Nat} {x : α} (h : l[k]? = some x) : l.set k x = l := by
  obtain ⟨hk, e⟩ := List.getElem?_eq_some_iff.1 h
  apply List.ext_getElem?
  intro j
  rw [List.getElem?_set]
  by_cases c : k = j
  · subst c; rw [if_pos rfl, if_pos hk, h]
  · rw [if_neg c]
/-- A row, or none, is appended to an own one. -/
theorem wpList_append_gen {P : Program} (w : World) {ops : Array Oper} {rest : List Oper} {o : Oper} {a : Act} {Q : Exit → Act → World → Prop} (hw : Region.wanted o (yielded ops a.tmps) = true) (s x : Operand) (t : TypeId)
    (ho : o.op = .call { callee := .builtin .append, args := #[s, x], argTypes := #[t, t] })
    (base : Nat) (e : TypeId) (i : TypeInfo) (z : Value) (size bytes : Nat) (ht : P.underlying t = some (.slice e)) (hi : P.info? e = some i) (hz : i.zero = some z) (hsize : i.size = size) (hby : i.bytes = bytes) (hzs : z.cells.size = size) (hsz : 0 < size) (hb2 : bytes ≤ 200)
    (g n cap : Nat) (xs : List Value) (hs : a.eval s = .slice (some ⟨g, 0, none⟩) n cap) (hown : w.ownsRow base e size (.slice (some ⟨g, 0, none⟩) n cap) n xs)
    (xa : Option Addr) (m c : Nat) (ys : List Value) (hx : a.eval x = .slice xa m c) (hl : ys.length = m * size) (hc : ∀ ad, xa = some ad → ∀ j u, ys[j]? = some u → w.cell? (ad.add j) = some u) (hn : xa = none → m = 0) (h1 : ∀ u ∈ ys, u.oneCell' = true)
    (h63 : n + m ≤ 1000) (hbase : base ≤ w.heap.size)
    (h : ∀ g' cap' w', w'.ownsRow base e size (.slice (some ⟨g', 0, none⟩) (n + m) cap') (n + m) (xs ++ ys) → w.grownBy w' (some g) → wpList P ops Q rest (a.put o.dst (.slice (some ⟨g', 0, none⟩) (n + m) cap')) w') : wpList P ops Q (o :: rest) a w := by
  unfold wpList
  rw [if_pos hw]
  cases xa with
  | none =>
    have hm := hn rfl
    subst hm
    have hl2 : ys = [] := List.eq_nil_of_length_eq_zero (by rw [hl]; omega)
    subst hl2
    have hnc : n ≤ cap := by
      rcases hown.2 with ⟨e, _⟩ | ⟨g', cap', cur, e, _, _, h4, _⟩
      · cases e
      · cases e; exact h4
    refine Or.inl (Lib.wp_append_run_sl w s x t ho _ _ hs hx (run_append_none w t o.type e i ht hi g n cap c hnc) ?_)
    exact h g cap w (by simpa using hown) ⟨rfl, rfl, rfl, Nat.le_refl _, fun _ _ _ => rfl⟩
  | some ad =>
    have hbig : ((n + m) + (n + m) / 4 + 192) * bytes ≤ 281474976710656 := by
      have : ((n + m) + (n + m) / 4 + 192) * bytes ≤ 1500 * 200 := Nat.mul_le_mul (by omega) hb2
      omega
    refine Or.inl (wp_append_own_wide w s x t ho base e i z size bytes ht hi hz hsize hby hzs hsz _ n xs hs hown ad m c ys hx hl (hc ad rfl) h1 (by unfold maxLen; omega) hbig hbase ?_)
    intro v' w' k1 k2 k3
    rcases k1.2 with ⟨e1, e0⟩ | ⟨g', cap', cur, e1, _⟩
    · have := k3.1 e1
      cases this.1
    · subst e1
      exact h g' cap' w' k1 k2
/-- A row is appended to an empty one that is new. -/
theorem wpList_append_new {P : Program} (w W : World) (hB : Below w.heap.size w W) {ops : Array Oper} {rest : List Oper} {o : Oper} {a : Act} {Q : Exit → Act → World → Prop} (hw : Region.wanted o (yielded ops a.tmps) = true) (s x : Operand) (t : TypeId)
    (ho : o.op = .call { callee := .builtin .append, args := #[s, x], argTypes := #[t, t] })
    (e : TypeId) (i : TypeInfo) (z : Value) (size bytes : Nat) (ht : P.underlying t = some (.slice e)) (hi : P.info? e = some i) (hz : i.zero = some z) (hsize : i.size = size) (hby : i.bytes = bytes) (hzs : z.cells.size = size) (hsz : 0 < size) (hb2 : bytes ≤ 200)
    (hs : a.eval s = .slice (some ⟨W.heap.size, 0, none⟩) 0 0)
    (ad : Addr) (m c : Nat) (ys : List Value) (hx : a.eval x = .slice (some ad) m c) (hl : ys.length = m * size) (hc : ∀ j u, ys[j]? = some u → W.cell? (ad.add j) = some u) (h1 : ∀ u ∈ ys, u.oneCell' = true)
    (h63 : m ≤ 1000)
    (h : ∀ g' cap' w', w'.ownsRow w.heap.size e size (.slice (some ⟨g', 0, none⟩) m cap') m ys → Below w.heap.size w w' → wpList P ops Q rest (a.put o.dst (.slice (some ⟨g', 0, none⟩) m cap')) w') : wpList P ops Q (o :: rest) a (W.alloc (.cells #[] e)) := by
  have own0 := World.ownsRow_lit (base := w.heap.size) (e := e) (size := size) W #[] 0 hB.size (by unfold maxLen; omega) (by simp)
  refine wpList_append_gen _ hw s x t ho w.heap.size e i z size bytes ht hi hz hsize hby hzs hsz hb2 W.heap.size 0 0 [] hs own0 (some ad) m c ys hx hl (fun ad' e' j u hj => by cases e'; exact keep_cell (below_alloc _ _) (hc j u hj)) (fun e => by cases e) h1 (by omega) (by have := hB.size; simp; omega) ?_
  intro g' cap' w' k1 k2
  rw [Nat.zero_add] at k1 ⊢
  exact h g' cap' w' k1 ((hB.alloc hB.size _).grown k2 (by have := hB.size; simp; omega) (fun g hg => by cases hg; exact hB.size))
theorem RowS.cells {w : World} {b off n : Nat} {L : List RtR} (h : RowS w (some ⟨b, off, none⟩) n L) : ∀ j u, (rsC L)[j]? = some u → w.cell? ((⟨b, off, none⟩ : Addr).add j) = some u := by
  intro j u hj
  rcases h.raw with h0 | ⟨b', off', e, _, hc⟩
  · have : L = [] := List.eq_nil_of_length_eq_zero (by rw [← h.1]; exact h0)
    subst this
    simp [rsC] at hj
  · cases e
    rw [add_plain']
    exact hc j u hj
theorem RowS.clen {w : World} {a : Option Addr} {n : Nat} {L : List RtR} (h : RowS w a n L) : (rsC L).length = n * 6 := by rw [rsC_len, h.1]
end Go.Proofs.Ytiibbeigkopkeaa
