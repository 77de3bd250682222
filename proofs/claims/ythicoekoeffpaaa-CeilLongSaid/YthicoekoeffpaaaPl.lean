/- What is proved here: rows of uses that a call owns; the contract of the laws' Plain. Conditions: the row is not too long. -/
import Derived.Test.YthicoekoeffpaaaR3
import Derived.Test.YthicoekoeffpaaaKn
import Derived.Test.YthicoekoeffpaaaRc
import Derived.Lib.SlFresh
namespace Go.Proofs.Ythicoekoeffpaaa
open Go.ChangeShapes Go.WideShapes Go.RowKit

/-- Uses' cells, one behind the other. -/
def usC (V : List UsV) : List Value := V.flatMap UsV.cells
theorem usC_snoc (V : List UsV) (t : UsV) : usC (V ++ [t]) = usC V ++ t.cells := by simp [usC]
theorem usC_len (V : List UsV) : (usC V).length = V.length * 3 := by
  induction V with
  | nil => rfl
  | cons x l ih => simp only [usC, List.flatMap_cons, List.length_append, List.length_cons, UsV.cells, List.length_nil] at ih ⊢; omega
theorem usC_at (V : List UsV) (i j : Nat) (t : UsV) (h : V[i]? = some t) (hj : j < 3) : (usC V)[i * 3 + j]? = t.cells[j]? := by
  induction V generalizing i with
  | nil => simp at h
  | cons x l ih =>
    have e : usC (x :: l) = x.cells ++ usC l := rfl
    rw [e]
    rcases i with _ | i
    · simp at h
      subst h
      rw [List.getElem?_append_left (by show 0 * 3 + j < 3; omega)]
      rw [show 0 * 3 + j = j by omega]
    · rw [List.getElem?_append_right (by show 3 ≤ (i + 1) * 3 + j; omega)]
      rw [show (i + 1) * 3 + j - x.cells.length = i * 3 + j by show (i + 1) * 3 + j - 3 = _; omega]
      exact ih i (by simpa using h)
theorem usV_one (t : UsV) : ∀ u ∈ t.cells, u.oneCell' = true := by
  intro u hu
  simp [UsV.cells, Sl.v] at hu
  rcases hu with rfl | rfl | rfl <;> rfl
/-- Which uses cells tell of. -/
def UssIs (w : World) (V : List UsV) (L : List UsP) : Prop := V.length = L.length ∧ ∀ (i : Nat) (t : UsV), V[i]? = some t → ∃ u, L[i]? = some u ∧ t.Is w u
theorem UssIs.below {w w' : World} {V : List UsV} {L : List UsP} (h : UssIs w V L) (hb : Below w.heap.size w w') : UssIs w' V L :=
  ⟨h.1, fun i t ht => by obtain ⟨u, h1, h2⟩ := h.2 i t ht; exact ⟨u, h1, h2.below hb⟩⟩
theorem UssIs.nil (w : World) : UssIs w [] [] := ⟨rfl, fun i t h => by simp at h⟩
theorem UssIs.snoc {w : World} {V : List UsV} {L : List UsP} {t : UsV} {u : UsP} (h : UssIs w V L) (ht : t.Is w u) : UssIs w (V ++ [t]) (L ++ [u]) := by
  refine ⟨by rw [List.length_append, List.length_append, h.1]; rfl, fun i t' hi => ?_⟩
  by_cases hlt : i < V.length
  · rw [List.getElem?_append_left hlt] at hi
    obtain ⟨u', k1, k2⟩ := h.2 i t' hi
    exact ⟨u', by rw [List.getElem?_append_left (by rw [← h.1]; exact hlt)]; exact k1, k2⟩
  · rw [List.getElem?_append_right (by omega)] at hi
    have hi2 : i - V.length = 0 := by
      have := (List.getElem?_eq_some_iff.1 hi).1
      simp at this; omega
    rw [hi2] at hi
    simp at hi
    subst hi
    exact ⟨u, by rw [List.getElem?_append_right (by rw [← h.1]; omega), ← h.1, hi2]; rfl, ht⟩
theorem RowU.own {w : World} {base e : Nat} {v : Value} {m : Nat} {V : List UsV} {L : List UsP} (h : w.ownsRow base e 3 v m (usC V)) (hi : UssIs w V L) :
    ∃ a c, v = .slice a m c ∧ m = L.length ∧ RowU w a m L := by
  have hl := h.1
  rw [usC_len] at hl
  have hm : m = L.length := by have := hi.1; omega
  rcases h.2 with ⟨h1, h2⟩ | ⟨g, cap, cur, h1, h2, h3, h4⟩
  · subst h2
    exact ⟨none, 0, h1, hm, ⟨hm, fun h => absurd h (by omega)⟩⟩
  · subst h1
    have hlt := h.lt g rfl
    refine ⟨_, cap, rfl, hm, ⟨hm, fun _ => ⟨g, 0, rfl, hlt.2, fun i hi2 => ?_⟩⟩⟩
    have hiv : i < V.length := by have := hi.1; omega
    obtain ⟨u, k1, k2⟩ := hi.2 i V[i] (List.getElem?_eq_getElem hiv)
    refine ⟨V[i], u, k1, k2, fun j x hj => ?_⟩
    have hj3 : j < 3 := (List.getElem?_eq_some_iff.1 hj).1
    have := usC_at V i j _ (List.getElem?_eq_getElem hiv) hj3
    rw [show 0 + i * 3 + j = i * 3 + j by omega, h.cellAt (i * 3 + j) (by omega), this]
    exact hj
theorem rus_info : (Try.prog.info? 46).map (fun i => (i.zero, i.size, i.bytes)) = some (some (.agg #[.int .i64 0, .slice none 0 0, .slice none 0 0]), 3, 56) := by kernel_rfl
theorem us_info : (Try.prog.info? 37).map (fun i => (i.zero, i.size, i.bytes)) = some (some (.agg #[.int .i64 0, .slice none 0 0, .slice none 0 0]), 3, 56) := by kernel_rfl
theorem add_plain' (b off j : Nat) : (⟨b, off, none⟩ : Addr).add j = ⟨b, off + j, none⟩ := by
  unfold Addr.add
  split
  · simp
  · rfl
set_option maxHeartbeats 2000000 in
set_option maxRecDepth 100000 in
theorem plain_any (a : Option Addr) (n c : Nat) (L : List UsP) (w : World) (hr : RowU w a n L) (hn : n ≤ 20) :
    Calls Try.prog 14 #[.slice a n c] w fun e w' => ∃ a' c', e = .returned (.slice a' n c') ∧ RowU w' a' n L ∧ Below w.heap.size w w' := by
  have HL := Lib.hid hr.1
  obtain ⟨i0, hi0, hz0, hz1, hz2⟩ := info_parts rus_info
  have hm : n ≤ 9223372036854775807 := by omega
  go_enter Try.func14, Try.ntmps14
  go_wp2
  go_loopw [3, 4] (fun s i wr => ∃ (k : Nat) (v : Value) (VV : List UsV), k ≤ n ∧ s = v ∧ i = .int .i64 k ∧ Hid (UssIs w VV (L.take k)) ∧ wr.ownsRow w.heap.size 46 3 v k (usC VV) ∧ Below w.heap.size w wr) (fun _ i _ => n - (intOf i).toNat)
  case atStart => exact ⟨0, _, [], by omega, rfl, rfl, UssIs.nil w, World.ownsRow_nil _ _ _ _, Below.refl _ _⟩
  case round =>
    obtain ⟨k, v0, VV, hk, hs0, rfl, HV, hown, hbl⟩ := hrel
    have hs0 := hs0.symm
    subst hs0
    by_cases hlt : k < n
    · obtain ⟨b1, o1, u, xa, xn, xc, la, ln, lc, rfl, hB1, hx, hX, hE, h0, h1, h2⟩ := hr.item (Below.refl _ _) hlt
      have HV2 : Hid (UssIs w (VV ++ [⟨u.pr, ⟨xa, xn, xc⟩, ⟨la, ln, lc⟩⟩]) (L.take (k + 1))) := by
        show UssIs _ _ _
        rw [take_cat hx]
        exact HV.out.snoc ⟨rfl, hX, hE⟩
      have H0 := Lib.hid h0
      have H1 := Lib.hid h1
      have H2 := Lib.hid h2
      have HOW := Lib.hid hown
      have HB := Lib.hid hbl
      have i1 : (0 : Int) ≤ (k : Int) := by omega
      have i2 : (k : Int) < (n : Int) := by omega
      clear hx hX hE h0 h1 h2 hown hbl
      go_wp2_with fail
      refine region_chain 31 19 3 (fun t => ([17, 18, 19] : List Nat).getD t 0) (fun i => ([11, 12, 13, 14, 15, 16, 17, 18, 19, 20, 21, 22, 23, 24, 25, 26, 27, 28, 29, 3] : List Nat).getD i 0) (fun i => ([[], [], [], [1, 2], [3], [4], [], [], [6, 7], [8], [9], [], [], [11, 12], [13], [14], [5, 10, 15], [16], [0, 17], [18]] : List (List Nat)).getD i []) (fun i v => ([(fun v : Value => v = v0), (fun v : Value => v = .slice (some ⟨b1, o1, none⟩) n c), (fun v : Value => v = .int .i64 (k : Int)), (fun v : Value => v = .pointer (some ⟨b1, o1 + k * 3, none⟩)), (fun v : Value => v = .pointer (some ⟨b1, o1 + k * 3, none⟩)), (fun v : Value => v = .int .i64 u.pr), (fun v : Value => v = .slice (some ⟨b1, o1, none⟩) n c), (fun v : Value => v = .int .i64 (k : Int)), (fun v : Value => v = .pointer (some ⟨b1, o1 + k * 3, none⟩)), (fun v : Value => v = .pointer (some ⟨b1, o1 + k * 3 + 1, none⟩)), (fun v : Value => v = .slice xa xn xc), (fun v : Value => v = .slice (some ⟨b1, o1, none⟩) n c), (fun v : Value => v = .int .i64 (k : Int)), (fun v : Value => v = .pointer (some ⟨b1, o1 + k * 3, none⟩)), (fun v : Value => v = .pointer (some ⟨b1, o1 + k * 3 + 2, none⟩)), (fun v : Value => v = .slice la ln lc), (fun v : Value => v = .agg #[.int .i64 u.pr, .slice xa xn xc, .slice la ln lc]), (fun _ : Value => True), (fun _ : Value => True), (fun _ : Value => True)] : List (Value → Prop)).getD i (fun _ => True) v) (fun t v V => ([(fun _ V => Below w.heap.size w V ∧ V.ownsRow w.heap.size 46 3 v0 k (usC VV)), (fun v V => Below w.heap.size w V ∧ V.ownsRow w.heap.size 46 3 v0 k (usC VV) ∧ ∃ g, v = .slice (some ⟨g, 0, none⟩) 1 1 ∧ ∀ j x, ([.int .i64 u.pr, .slice xa xn xc, .slice la ln lc] : List Value)[j]? = some x → V.cell? ⟨g, j, none⟩ = some x), (fun v V => Below w.heap.size w V ∧ V.ownsRow w.heap.size 46 3 v (k + 1) (usC (VV ++ [⟨u.pr, ⟨xa, xn, xc⟩, ⟨la, ln, lc⟩⟩]))), (fun v V => Below w.heap.size w V ∧ V.ownsRow w.heap.size 46 3 v (k + 1) (usC (VV ++ [⟨u.pr, ⟨xa, xn, xc⟩, ⟨la, ln, lc⟩⟩])))] : List (Value → World → Prop)).getD t (fun _ _ => False) v V) (by kernel_rfl) rfl (fun i j hi hj => (by decide : ∀ i, i ≤ 19 → ∀ j, j ≤ 19 → (fun i => ([11, 12, 13, 14, 15, 16, 17, 18, 19, 20, 21, 22, 23, 24, 25, 26, 27, 28, 29, 3] : List Nat).getD i 0) i = (fun i => ([11, 12, 13, 14, 15, 16, 17, 18, 19, 20, 21, 22, 23, 24, 25, 26, 27, 28, 29, 3] : List Nat).getD i 0) j → i = j) i hi j hj) rfl (by decide) rfl (fun s t hs ht => (by decide : ∀ s, s < 3 → ∀ t, t < 3 → (fun t => ([17, 18, 19] : List Nat).getD t 0) s = (fun t => ([17, 18, 19] : List Nat).getD t 0) t → s = t) s hs t ht) (by decide) (fun t ht => (by decide : ∀ t, t < 2 → (fun t => ([17, 18, 19] : List Nat).getD t 0) t ∈ (fun i => ([[], [], [], [1, 2], [3], [4], [], [], [6, 7], [8], [9], [], [], [11, 12], [13], [14], [5, 10, 15], [16], [0, 17], [18]] : List (List Nat)).getD i []) ((fun t => ([17, 18, 19] : List Nat).getD t 0) (t + 1))) t (by omega)) ?_ ?_ ?_ ?_ ⟨HB.out.trans ⟨rfl, rfl, rfl, Nat.le_refl _, fun _ _ => rfl⟩, own_keep HOW.out ⟨rfl, rfl, rfl, Nat.le_refl _, fun _ _ => rfl⟩⟩ ?_
      · intro i o ho
        match i, ho with
        | 0, ho => obtain rfl := Option.some.inj ho; exact ⟨Or.inl ⟨rfl, by decide⟩, rfl, by decide, by decide⟩
        | 1, ho => obtain rfl := Option.some.inj ho; exact ⟨Or.inl ⟨rfl, by decide⟩, rfl, by decide, by decide⟩
        | 2, ho => obtain rfl := Option.some.inj ho; exact ⟨Or.inl ⟨rfl, by decide⟩, rfl, by decide, by decide⟩
        | 3, ho => obtain rfl := Option.some.inj ho; exact ⟨Or.inl ⟨rfl, by decide⟩, rfl, by decide, by decide⟩
        | 4, ho => obtain rfl := Option.some.inj ho; exact ⟨Or.inl ⟨rfl, by decide⟩, rfl, by decide, by decide⟩
        | 5, ho => obtain rfl := Option.some.inj ho; exact ⟨Or.inl ⟨rfl, by decide⟩, rfl, by decide, by decide⟩
        | 6, ho => obtain rfl := Option.some.inj ho; exact ⟨Or.inl ⟨rfl, by decide⟩, rfl, by decide, by decide⟩
        | 7, ho => obtain rfl := Option.some.inj ho; exact ⟨Or.inl ⟨rfl, by decide⟩, rfl, by decide, by decide⟩
        | 8, ho => obtain rfl := Option.some.inj ho; exact ⟨Or.inl ⟨rfl, by decide⟩, rfl, by decide, by decide⟩
        | 9, ho => obtain rfl := Option.some.inj ho; exact ⟨Or.inl ⟨rfl, by decide⟩, rfl, by decide, by decide⟩
        | 10, ho => obtain rfl := Option.some.inj ho; exact ⟨Or.inl ⟨rfl, by decide⟩, rfl, by decide, by decide⟩
        | 11, ho => obtain rfl := Option.some.inj ho; exact ⟨Or.inl ⟨rfl, by decide⟩, rfl, by decide, by decide⟩
        | 12, ho => obtain rfl := Option.some.inj ho; exact ⟨Or.inl ⟨rfl, by decide⟩, rfl, by decide, by decide⟩
        | 13, ho => obtain rfl := Option.some.inj ho; exact ⟨Or.inl ⟨rfl, by decide⟩, rfl, by decide, by decide⟩
        | 14, ho => obtain rfl := Option.some.inj ho; exact ⟨Or.inl ⟨rfl, by decide⟩, rfl, by decide, by decide⟩
        | 15, ho => obtain rfl := Option.some.inj ho; exact ⟨Or.inl ⟨rfl, by decide⟩, rfl, by decide, by decide⟩
        | 16, ho => obtain rfl := Option.some.inj ho; exact ⟨Or.inl ⟨rfl, by decide⟩, rfl, by decide, by decide⟩
        | 17, ho => obtain rfl := Option.some.inj ho; exact ⟨Or.inl ⟨rfl, by decide⟩, rfl, by decide, by decide⟩
        | 18, ho => obtain rfl := Option.some.inj ho; exact ⟨Or.inl ⟨rfl, by decide⟩, rfl, by decide, by decide⟩
        | 19, ho => obtain rfl := Option.some.inj ho; exact ⟨Or.inl ⟨rfl, by decide⟩, rfl, by decide, by decide⟩
        | k + 20, ho => simp at ho
      · intro i hi
        match i, hi with
        | 0, _ => exact ⟨18, by decide, by decide, by decide⟩
        | 1, _ => exact ⟨3, by decide, by decide, by decide⟩
        | 2, _ => exact ⟨3, by decide, by decide, by decide⟩
        | 3, _ => exact ⟨4, by decide, by decide, by decide⟩
        | 4, _ => exact ⟨5, by decide, by decide, by decide⟩
        | 5, _ => exact ⟨16, by decide, by decide, by decide⟩
        | 6, _ => exact ⟨8, by decide, by decide, by decide⟩
        | 7, _ => exact ⟨8, by decide, by decide, by decide⟩
        | 8, _ => exact ⟨9, by decide, by decide, by decide⟩
        | 9, _ => exact ⟨10, by decide, by decide, by decide⟩
        | 10, _ => exact ⟨16, by decide, by decide, by decide⟩
        | 11, _ => exact ⟨13, by decide, by decide, by decide⟩
        | 12, _ => exact ⟨13, by decide, by decide, by decide⟩
        | 13, _ => exact ⟨14, by decide, by decide, by decide⟩
        | 14, _ => exact ⟨15, by decide, by decide, by decide⟩
        | 15, _ => exact ⟨16, by decide, by decide, by decide⟩
        | 16, _ => exact ⟨17, by decide, by decide, by decide⟩
        | 17, _ => exact ⟨18, by decide, by decide, by decide⟩
        | 18, _ => exact ⟨19, by decide, by decide, by decide⟩
        | k + 19, hi => omega
      · intro i o hi hq ho a' V j v hj hSV hoth hd
        have hC : (fun V : World => Below w.heap.size w V) V := by
          match j, hj, hSV with
          | 0, _, h => exact h.1
          | 1, _, h => exact h.1
          | 2, _, h => exact h.1
          | k + 3, hj, _ => omega
        clear hSV hj
        have o0 : a'.eval (.tmp 0) = .slice (some ⟨b1, o1, none⟩) n c := hoth 0 (by decide)
        have o3 : a'.eval (.tmp 3) = v0 := hoth 3 (by decide)
        have o4 : a'.eval (.tmp 4) = .int .i64 (k : Int) := hoth 4 (by decide)
        clear hoth
        obtain ⟨ρ, hρ⟩ : ∃ ρ, ρ = a'.eval := ⟨_, rfl⟩
        have hc : ∀ v, ρ (.const v) = v := fun v => by rw [hρ]; rfl
        simp only [← hρ] at hd ⊢
        rw [← hρ] at o0
        rw [← hρ] at o3
        rw [← hρ] at o4
        clear hρ
        match i, hi, hq, ho with
        | 0, _, _, ho =>
          obtain rfl := Option.some.inj ho
          clear hd hq
          exact ⟨v0, by simp only [execOp]; go_simp, rfl⟩
        | 1, _, _, ho =>
          obtain rfl := Option.some.inj ho
          clear hd hq
          exact ⟨.slice (some ⟨b1, o1, none⟩) n c, by simp only [execOp]; go_simp, rfl⟩
        | 2, _, _, ho =>
          obtain rfl := Option.some.inj ho
          clear hd hq
          exact ⟨.int .i64 (k : Int), by simp only [execOp]; go_simp, rfl⟩
        | 3, _, _, ho =>
          obtain rfl := Option.some.inj ho
          have e1 : ρ (.tmp 12) = .slice (some ⟨b1, o1, none⟩) n c := hd 1 (by decide) (by decide)
          have e2 : ρ (.tmp 13) = .int .i64 (k : Int) := hd 2 (by decide) (by decide)
          clear hd hq
          exact ⟨.pointer (some ⟨b1, o1 + k * 3, none⟩), by simp only [execOp]; go_simp, rfl⟩
        | 4, _, _, ho =>
          obtain rfl := Option.some.inj ho
          have e3 : ρ (.tmp 14) = .pointer (some ⟨b1, o1 + k * 3, none⟩) := hd 3 (by decide) (by decide)
          clear hd hq
          exact ⟨.pointer (some ⟨b1, o1 + k * 3, none⟩), by simp only [execOp]; go_simp, rfl⟩
        | 5, _, _, ho =>
          obtain rfl := Option.some.inj ho
          have e4 : ρ (.tmp 15) = .pointer (some ⟨b1, o1 + k * 3, none⟩) := hd 4 (by decide) (by decide)
          clear hd hq
          have c0 := keep_cell hC H0.out
          exact ⟨.int .i64 u.pr, by simp only [execOp]; go_simp, rfl⟩
        | 6, _, _, ho =>
          obtain rfl := Option.some.inj ho
          clear hd hq
          exact ⟨.slice (some ⟨b1, o1, none⟩) n c, by simp only [execOp]; go_simp, rfl⟩
        | 7, _, _, ho =>
          obtain rfl := Option.some.inj ho
          clear hd hq
          exact ⟨.int .i64 (k : Int), by simp only [execOp]; go_simp, rfl⟩
        | 8, _, _, ho =>
          obtain rfl := Option.some.inj ho
          have e6 : ρ (.tmp 17) = .slice (some ⟨b1, o1, none⟩) n c := hd 6 (by decide) (by decide)
          have e7 : ρ (.tmp 18) = .int .i64 (k : Int) := hd 7 (by decide) (by decide)
          clear hd hq
          exact ⟨.pointer (some ⟨b1, o1 + k * 3, none⟩), by simp only [execOp]; go_simp, rfl⟩
        | 9, _, _, ho =>
          obtain rfl := Option.some.inj ho
          have e8 : ρ (.tmp 19) = .pointer (some ⟨b1, o1 + k * 3, none⟩) := hd 8 (by decide) (by decide)
          clear hd hq
          exact ⟨.pointer (some ⟨b1, o1 + k * 3 + 1, none⟩), by simp only [execOp]; go_simp, rfl⟩
        | 10, _, _, ho =>
          obtain rfl := Option.some.inj ho
          have e9 : ρ (.tmp 20) = .pointer (some ⟨b1, o1 + k * 3 + 1, none⟩) := hd 9 (by decide) (by decide)
          clear hd hq
          have c1 := keep_cell hC H1.out
          exact ⟨.slice xa xn xc, by simp only [execOp]; go_simp, rfl⟩
        | 11, _, _, ho =>
          obtain rfl := Option.some.inj ho
          clear hd hq
          exact ⟨.slice (some ⟨b1, o1, none⟩) n c, by simp only [execOp]; go_simp, rfl⟩
        | 12, _, _, ho =>
          obtain rfl := Option.some.inj ho
          clear hd hq
          exact ⟨.int .i64 (k : Int), by simp only [execOp]; go_simp, rfl⟩
        | 13, _, _, ho =>
          obtain rfl := Option.some.inj ho
          have e11 : ρ (.tmp 22) = .slice (some ⟨b1, o1, none⟩) n c := hd 11 (by decide) (by decide)
          have e12 : ρ (.tmp 23) = .int .i64 (k : Int) := hd 12 (by decide) (by decide)
          clear hd hq
          exact ⟨.pointer (some ⟨b1, o1 + k * 3, none⟩), by simp only [execOp]; go_simp, rfl⟩
        | 14, _, _, ho =>
          obtain rfl := Option.some.inj ho
          have e13 : ρ (.tmp 24) = .pointer (some ⟨b1, o1 + k * 3, none⟩) := hd 13 (by decide) (by decide)
          clear hd hq
          exact ⟨.pointer (some ⟨b1, o1 + k * 3 + 2, none⟩), by simp only [execOp]; go_simp, rfl⟩
        | 15, _, _, ho =>
          obtain rfl := Option.some.inj ho
          have e14 : ρ (.tmp 25) = .pointer (some ⟨b1, o1 + k * 3 + 2, none⟩) := hd 14 (by decide) (by decide)
          clear hd hq
          have c2 := keep_cell hC H2.out
          exact ⟨.slice la ln lc, by simp only [execOp]; go_simp, rfl⟩
        | 16, _, _, ho =>
          obtain rfl := Option.some.inj ho
          have e5 : ρ (.tmp 16) = .int .i64 u.pr := hd 5 (by decide) (by decide)
          have e10 : ρ (.tmp 21) = .slice xa xn xc := hd 10 (by decide) (by decide)
          have e15 : ρ (.tmp 26) = .slice la ln lc := hd 15 (by decide) (by decide)
          clear hd hq
          exact ⟨.agg #[.int .i64 u.pr, .slice xa xn xc, .slice la ln lc], by simp only [execOp]; go_simp, rfl⟩
        | 17, _, hq, _ => exact absurd rfl (hq 0 (by decide))
        | 18, _, hq, _ => exact absurd rfl (hq 1 (by decide))
        | 19, _, hq, _ => exact absurd rfl (hq 2 (by decide))
        | k + 20, hi, _, _ => exact absurd hi (by omega)
      · intro t o ht ho a' V v hSV hv hoth hd K hK
        have o0 : a'.eval (.tmp 0) = .slice (some ⟨b1, o1, none⟩) n c := hoth 0 (by decide)
        have o3 : a'.eval (.tmp 3) = v0 := hoth 3 (by decide)
        have o4 : a'.eval (.tmp 4) = .int .i64 (k : Int) := hoth 4 (by decide)
        clear hoth
        match t, ht, ho, hSV, hv, hd, hK with
        | 0, _, ho, hSV, hv, hd, hK =>
          obtain rfl := Option.some.inj ho
          have hSV : (fun _ V => Below w.heap.size w V ∧ V.ownsRow w.heap.size 46 3 v0 k (usC VV) : Value → World → Prop) v V := hSV
          have hK : ∀ v' W', (fun v V => Below w.heap.size w V ∧ V.ownsRow w.heap.size 46 3 v0 k (usC VV) ∧ ∃ g, v = .slice (some ⟨g, 0, none⟩) 1 1 ∧ ∀ j x, ([.int .i64 u.pr, .slice xa xn xc, .slice la ln lc] : List Value)[j]? = some x → V.cell? ⟨g, j, none⟩ = some x : Value → World → Prop) v' W' → K (a'.put (some 28) v') W' := hK
          have e16 : a'.eval (.tmp 27) = .agg #[.int .i64 u.pr, .slice xa xn xc, .slice la ln lc] := hd 16 (by decide) (by decide)
          clear hd
          obtain ⟨ρ, hρ⟩ : ∃ ρ, ρ = a'.eval := ⟨_, rfl⟩
          have r16 : ρ (.tmp 27) = .agg #[.int .i64 u.pr, .slice xa xn xc, .slice la ln lc] := by rw [hρ]; exact e16
          have q0 : ρ (.tmp 0) = .slice (some ⟨b1, o1, none⟩) n c := by rw [hρ]; exact o0
          have q3 : ρ (.tmp 3) = v0 := by rw [hρ]; exact o3
          have q4 : ρ (.tmp 4) = .int .i64 (k : Int) := by rw [hρ]; exact o4
          refine wp_value (v := .slice (some ⟨V.heap.size, 0, none⟩) 1 1) (w' := V.alloc (.cells #[.int .i64 u.pr, .slice xa xn xc, .slice la ln lc] 46)) (by rw [← hρ]; clear hρ; simp only [execOp]; go_simp) (hK _ _ ⟨hSV.1.alloc hSV.1.size _, hSV.2.alloc _, V.heap.size, rfl, cells_new V _ _⟩)
        | 1, _, ho, hSV, hv, hd, hK =>
          obtain rfl := Option.some.inj ho
          have hSV : (fun v V => Below w.heap.size w V ∧ V.ownsRow w.heap.size 46 3 v0 k (usC VV) ∧ ∃ g, v = .slice (some ⟨g, 0, none⟩) 1 1 ∧ ∀ j x, ([.int .i64 u.pr, .slice xa xn xc, .slice la ln lc] : List Value)[j]? = some x → V.cell? ⟨g, j, none⟩ = some x : Value → World → Prop) v V := hSV
          have hK : ∀ v' W', (fun v V => Below w.heap.size w V ∧ V.ownsRow w.heap.size 46 3 v (k + 1) (usC (VV ++ [⟨u.pr, ⟨xa, xn, xc⟩, ⟨la, ln, lc⟩⟩])) : Value → World → Prop) v' W' → K (a'.put (some 29) v') W' := hK
          have e0 : a'.eval (.tmp 11) = v0 := hd 0 (by decide) (by decide)
          have hv : v = a'.eval (.tmp 28) := hv (by decide)
          clear hd
          obtain ⟨ρ, hρ⟩ : ∃ ρ, ρ = a'.eval := ⟨_, rfl⟩
          have r0 : ρ (.tmp 11) = v0 := by rw [hρ]; exact e0
          have q0 : ρ (.tmp 0) = .slice (some ⟨b1, o1, none⟩) n c := by rw [hρ]; exact o0
          have q3 : ρ (.tmp 3) = v0 := by rw [hρ]; exact o3
          have q4 : ρ (.tmp 4) = .int .i64 (k : Int) := by rw [hρ]; exact o4
          obtain ⟨hb, ho, g, hg, hcs⟩ := hSV
          rw [hg] at hv
          exact wp_append_own V (.tmp 11) (.tmp 28) 27 rfl w.heap.size 46 i0 (.agg #[.int .i64 0, .slice none 0 0, .slice none 0 0]) 3 56 Try.underlying27 hi0 hz0 hz1 hz2 rfl (by decide) v0 k (usC VV) e0 ho ⟨g, 0, none⟩ 1 1 [.int .i64 u.pr, .slice xa xn xc, .slice la ln lc] hv.symm rfl (fun j x hj => by rw [add_plain', Nat.zero_add]; exact hcs j x hj) (usV_one ⟨u.pr, ⟨xa, xn, xc⟩, ⟨la, ln, lc⟩⟩) (by unfold maxLen; omega) (by omega) hb.size (fun v' W' h1 h2 _ => hK v' W' ⟨hb.grown h2 hb.size (fun g hg => (ho.lt g hg).1), by rw [usC_snoc]; exact h1⟩)
        | 2, _, ho, hSV, hv, hd, hK =>
          obtain rfl := Option.some.inj ho
          have hSV : (fun v V => Below w.heap.size w V ∧ V.ownsRow w.heap.size 46 3 v (k + 1) (usC (VV ++ [⟨u.pr, ⟨xa, xn, xc⟩, ⟨la, ln, lc⟩⟩])) : Value → World → Prop) v V := hSV
          have hK : ∀ v' W', (fun v V => Below w.heap.size w V ∧ V.ownsRow w.heap.size 46 3 v (k + 1) (usC (VV ++ [⟨u.pr, ⟨xa, xn, xc⟩, ⟨la, ln, lc⟩⟩])) : Value → World → Prop) v' W' → K (a'.put (some 3) v') W' := hK
          have hv : v = a'.eval (.tmp 29) := hv (by decide)
          clear hd
          obtain ⟨ρ, hρ⟩ : ∃ ρ, ρ = a'.eval := ⟨_, rfl⟩
          have q0 : ρ (.tmp 0) = .slice (some ⟨b1, o1, none⟩) n c := by rw [hρ]; exact o0
          have q3 : ρ (.tmp 3) = v0 := by rw [hρ]; exact o3
          have q4 : ρ (.tmp 4) = .int .i64 (k : Int) := by rw [hρ]; exact o4
          exact wp_value (v := v) (w' := V) (by simp only [execOp]; rw [hv]; rfl) (hK _ _ hSV)
        | k + 3, ht, _, _, _, _, _ => exact absurd ht (by omega)
      · intro a' V hsz hdef hoth hS
        have hS : (fun v V => Below w.heap.size w V ∧ V.ownsRow w.heap.size 46 3 v (k + 1) (usC (VV ++ [⟨u.pr, ⟨xa, xn, xc⟩, ⟨la, ln, lc⟩⟩])) : Value → World → Prop) (a'.eval (.tmp 3)) V := hS
        have hcov : ∀ i, i ≤ 19 → 11 ≤ (fun i => ([11, 12, 13, 14, 15, 16, 17, 18, 19, 20, 21, 22, 23, 24, 25, 26, 27, 28, 29, 3] : List Nat).getD i 0) i ∧ (fun i => ([11, 12, 13, 14, 15, 16, 17, 18, 19, 20, 21, 22, 23, 24, 25, 26, 27, 28, 29, 3] : List Nat).getD i 0) i < 30 ∨ (fun i => ([11, 12, 13, 14, 15, 16, 17, 18, 19, 20, 21, 22, 23, 24, 25, 26, 27, 28, 29, 3] : List Nat).getD i 0) i = 3 := by decide
        obtain ⟨v9, hv9⟩ : ∃ v, a'.eval (.tmp 3) = v := ⟨_, rfl⟩
        rw [hv9] at hS
        obtain ⟨us, hu1, rfl⟩ := act_mix1 11 19 3 v9 rfl hsz hdef (by simp) (by simp) hv9 (by decide) (fun k hkd hk => by
          by_cases hkT : k = 31
          · subst hkT; unfold Act.eval; simp [hsz]
          · exact hoth k (fun i hi => by have := hcov i hi; dsimp only at this ⊢; omega))
        match us, hu1 with
        | [u11, u12, u13, u14, u15, u16, u17, u18, u19, u20, u21, u22, u23, u24, u25, u26, u27, u28, u29], _ =>
          have HS := Lib.hid hS
          clear hS hv9
          go_wp2
          go_roundw
          case rel => exact ⟨k + 1, v9, _, by omega, rfl, by go_num, HV2, HS.out.2, HS.out.1⟩
          case measure => simp [intOf]; omega
    · obtain rfl : n = k := by omega
      have hV := HV.out
      rw [List.take_of_length_le (by rw [HL.out]; exact Nat.le_refl _)] at hV
      obtain ⟨a5, c5, rfl, hm5, hR⟩ := RowU.own hown (hV.below hbl)
      have HRW := Lib.hid hR
      clear hown hR hV HV
      go_wp2
      go_ret
      first | exact ⟨_, _, rfl, HRW.out, hbl⟩ | exact ⟨_, ⟨_, rfl⟩, HRW.out, hbl⟩
end Go.Proofs.Ythicoekoeffpaaa
