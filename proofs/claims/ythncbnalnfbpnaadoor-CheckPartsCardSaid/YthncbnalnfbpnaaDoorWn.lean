/- What is proved here: how a copy of an image lies beside own rows of numbers and of rows while these are laid. Conditions: those each theorem states. -/
import Derived.Test.YthncbnalnfbpnaaDoorWe
namespace Go.Proofs.YthncbnalnfbpnaaDoor
open Go.ChangeShapes Go.WideShapes Go.RowKit

/-- A copy of an image, cell by cell. -/
structure Blk (W0 W : World) (B : Nat) (l : List Value) : Prop where
  row : W.rowIs B 26 7 (fun j => l.getD j undef)
  bel : Below W0.heap.size W0 W
  lb : W0.heap.size ≤ B
  len : l.length = 7
section
variable {W0 W : World} {B : Nat} {l : List Value}
theorem Blk.at_ (h : Blk W0 W B l) : ∀ j v, l[j]? = some v → W.cell? ⟨B, j, none⟩ = some v :=
  cells_of_row h.row l h.len (fun _ _ => rfl)
theorem Blk.set (h : Blk W0 W B l) (j : Nat) (u : Value) : Blk W0 (W.setCell ⟨B, j, none⟩ u) B (l.set j u) :=
  ⟨(h.row.set j u).congr (fun i hi => by
    show (if i = j then u else l.getD i undef) = (l.set j u).getD i undef
    rw [List.getD_eq_getElem?_getD, List.getD_eq_getElem?_getD, List.getElem?_set]
    by_cases e : i = j
    · subst e
      rw [if_pos rfl, if_pos rfl, if_pos (by rw [h.len]; exact hi)]; rfl
    · rw [if_neg e, if_neg (fun q => e q.symm)]), h.bel.setCell (p := ⟨B, j, none⟩) h.lb u, h.lb, by rw [List.length_set]; exact h.len⟩
theorem Blk.alloc (h : Blk W0 W B l) (o : Obj) : Blk W0 (W.alloc o) B l := ⟨h.row.alloc o, h.bel.alloc h.bel.size o, h.lb, h.len⟩
theorem Blk.below {W' : World} (h : Blk W0 W B l) (hb : Below W.heap.size W W') : Blk W0 W' B l :=
  ⟨h.row.of_block (hb.block _ h.row.lt), keep_below h.bel hb, h.lb, h.len⟩
theorem Blk.grown {W' : World} {g : Nat} (h : Blk W0 W B l) (hg : W.grownBy W' (some g)) (hne : B ≠ g) (hlg : W0.heap.size ≤ g) : Blk W0 W' B l :=
  ⟨h.row.of_block (grown_other hg h.row.lt hne), h.bel.grown hg h.bel.size (fun q hq => by cases hq; exact hlg), h.lb, h.len⟩
end
/-- An own row of ints beside a block. -/
structure OwI (W : World) (B base g n cap : Nat) (l : List Int) : Prop where
  own : W.ownsRow base 3 1 (.slice (some ⟨g, 0, none⟩) n cap) n (l.map (Value.int .i64))
  lt : B < base
section
variable {W W' : World} {B base g n cap : Nat} {l : List Int}
theorem OwI.ge (h : OwI W B base g n cap l) : base ≤ g := (h.own.lt g rfl).1
theorem OwI.setB (h : OwI W B base g n cap l) (j : Nat) (u : Value) : OwI (W.setCell ⟨B, j, none⟩ u) B base g n cap l :=
  ⟨ownsRow_setCell_other h.own (a := ⟨B, j, none⟩) (by show some g ≠ some B; intro e; have h1 := h.ge; have h2 := h.lt; have := Option.some.inj e; omega) u, h.lt⟩
theorem OwI.alloc (h : OwI W B base g n cap l) (o : Obj) : OwI (W.alloc o) B base g n cap l := ⟨h.own.alloc o, h.lt⟩
theorem OwI.grown {q : Nat} (h : OwI W B base g n cap l) (hg : W.grownBy W' (some q)) (hne : g ≠ q) : OwI W' B base g n cap l :=
  ⟨h.own.kept hg (Or.inr (fun e => hne (Option.some.inj e))), h.lt⟩
theorem OwI.row (h : OwI W B base g n cap l) : Row W (some ⟨g, 0, none⟩) n l := by
  obtain ⟨a, m, c, hv, hr⟩ := Row.own h.own
  cases hv
  exact hr
end
/-- The slices of a row of rows. -/
theorem RowR.raw {w : World} {a : Option Addr} {n : Nat} {L : List (List Int)} (h : RowR w a n L) : ∃ S : List Sl, S.length = n ∧ (a = none → n = 0) ∧ (∀ i s, S[i]? = some s → SlI w s (L.getD i [])) ∧
    ∀ W, Below w.heap.size w W → ∀ ad, a = some ad → ∀ j u, (S.map Sl.v)[j]? = some u → W.cell? (ad.add j) = some u := by
  obtain ⟨hl, h2⟩ := h
  by_cases h0 : 0 < n
  · obtain ⟨b, off, e, hlt, hc⟩ := h2 h0
    have many : ∀ k, k ≤ n → ∃ S : List Sl, S.length = k ∧ ∀ i s, S[i]? = some s → w.cell? ⟨b, off + i, none⟩ = some s.v ∧ SlI w s (L.getD i []) := by
      intro k
      induction k with
      | zero => exact fun _ => ⟨[], rfl, fun i s h => by simp at h⟩
      | succ k ih =>
        intro hk
        obtain ⟨S, hS, hS2⟩ := ih (by omega)
        obtain ⟨s, h1, h3⟩ := hc k (by omega)
        refine ⟨S ++ [s], by simp [hS], fun i t ht => ?_⟩
        by_cases hi : i < S.length
        · rw [List.getElem?_append_left hi] at ht
          exact hS2 i t ht
        · rw [List.getElem?_append_right (by omega)] at ht
          have hi2 : i - S.length = 0 := by
            have := (List.getElem?_eq_some_iff.1 ht).1
            simp at this; omega
          rw [hi2] at ht
          simp at ht
          subst ht
          obtain rfl : i = k := by omega
          exact ⟨h1, h3⟩
    obtain ⟨S, hS, hS2⟩ := many n (Nat.le_refl _)
    refine ⟨S, hS, fun e2 => (by rw [e] at e2; cases e2), fun i s hs => (hS2 i s hs).2, fun W hb ad ha j u hj => ?_⟩
    rw [ha, Option.some.injEq] at e
    subst e
    rw [List.getElem?_map] at hj
    obtain ⟨s, hs, rfl⟩ := Option.map_eq_some_iff.1 hj
    rw [add_plain']
    exact keep_cell hb (hS2 j s hs).1
  · obtain rfl : n = 0 := by omega
    exact ⟨[], rfl, fun _ => rfl, fun i s h => by simp at h, fun W hb ad ha j u hj => by simp at hj⟩
/-- An own row of rows beside a block. -/
structure OwR (W : World) (B base g n cap : Nat) (S : List Sl) (L : List (List Int)) : Prop where
  own : W.ownsRow base 22 1 (.slice (some ⟨g, 0, none⟩) n cap) n (S.map Sl.v)
  lt : B < base
  len : S.length = L.length
  each : ∀ i s, S[i]? = some s → SlI W s (L.getD i [])
theorem OwR.rows {W : World} {B base g n cap : Nat} {S : List Sl} {L : List (List Int)} (h : OwR W B base g n cap S L) : RowR W (some ⟨g, 0, none⟩) n L := by
  have hn : n = S.length := by have := h.own.1; rw [List.length_map] at this; omega
  refine ⟨by rw [hn, h.len], fun h0 => ⟨g, 0, rfl, (h.own.lt g rfl).2, fun i hi => ?_⟩⟩
  have hi2 : i < S.length := by omega
  refine ⟨S[i], ?_, h.each i _ (List.getElem?_eq_getElem hi2)⟩
  rw [Nat.zero_add, h.own.cellAt i (by omega), List.getElem?_map, List.getElem?_eq_getElem hi2]; rfl
theorem sls_one (S : List Sl) : ∀ u ∈ S.map Sl.v, u.oneCell' = true := by
  intro u hu
  obtain ⟨s, _, rfl⟩ := List.mem_map.1 hu
  rfl
theorem ints_one (l : List Int) : ∀ u ∈ l.map (Value.int .i64), u.oneCell' = true := by
  intro u hu
  obtain ⟨s, _, rfl⟩ := List.mem_map.1 hu
  rfl
theorem iint_info : (Tryd.prog.info? 3).map (fun i => (i.zero, i.size, i.bytes)) = some (some (.int .i64 0), 1, 8) := by kernel_rfl
theorem irow_info : (Tryd.prog.info? 22).map (fun i => (i.zero, i.size, i.bytes)) = some (some (.slice none 0 0), 1, 24) := by kernel_rfl
theorem row_app {w : World} {a : Option Addr} {n : Nat} {l : List Int} (h : Row w a n l) : (l.map (Value.int .i64)).length = n * 1 ∧ (a = none → n = 0) ∧
    ∀ W, Below w.heap.size w W → ∀ ad, a = some ad → ∀ j u, (l.map (Value.int .i64))[j]? = some u → W.cell? (ad.add j) = some u := by
  refine ⟨by rw [List.length_map, h.1]; omega, fun e => ?_, fun W hb ad ha => (h.below hb).cells ha⟩
  rcases Nat.eq_zero_or_pos n with h0 | h0
  · exact h0
  · obtain ⟨_, _, e2, _⟩ := h.2 h0; rw [e] at e2; cases e2
theorem copy_blk {W0 w2 : World} (hb : Below W0.heap.size W0 w2) (cs : Array Value) (h7 : cs.size = 7) : Blk W0 (w2.alloc (.cells cs 26)) w2.heap.size cs.toList := by
  have h1 := World.rowIs_alloc w2 cs 26 (fun j => cs.toList.getD j undef) (fun j hj => by simp [hj])
  rw [h7] at h1
  exact ⟨h1, hb.alloc hb.size _, hb.size, by simpa using h7⟩
/-- A row that stands in a block which is let alone. -/
theorem Row.setOther {w : World} {a : Option Addr} {n : Nat} {l : List Int} {g i : Nat} (u : Value) (h : Row w a n l) (hf : ∀ p, a = some p → p.block ≠ g) : Row (w.setCell ⟨g, i, none⟩ u) a n l := by
  refine ⟨h.1, fun hn => ?_⟩
  obtain ⟨b, off, e, hlt, hc⟩ := h.2 hn
  have hb : (w.setCell ⟨g, i, none⟩ u).heap[b]? = w.heap[b]? := Go.Deep.blk_setCell_other _ _ _ _ (hf _ e)
  exact ⟨b, off, e, by simpa [World.setCell] using hlt, fun j hj => (World.cell?_of_block hb).trans (hc j hj)⟩
theorem Row.grown {w w' : World} {a : Option Addr} {n : Nat} {l : List Int} {g : Nat} (h : Row w a n l) (hg : w.grownBy w' (some g)) (hf : ∀ p, a = some p → p.block ≠ g) : Row w' a n l := by
  refine ⟨h.1, fun hn => ?_⟩
  obtain ⟨b, off, e, hlt, hc⟩ := h.2 hn
  have hb : w'.heap[b]? = w.heap[b]? := grown_other hg hlt (hf _ e)
  exact ⟨b, off, e, Nat.lt_of_lt_of_le hlt hg.size, fun j hj => (World.cell?_of_block hb).trans (hc j hj)⟩
section
variable {W0 W w' : World} {B base g g' n cap : Nat} {l : List Value}
theorem app_ints {xs : List Int} (K : Blk W0 W B l) (h1 : B < base) (h2 : W0.heap.size ≤ base) (hown : w'.ownsRow base 3 1 (.slice (some ⟨g', 0, none⟩) (0 + n) cap) (0 + n) ([] ++ xs.map (Value.int .i64))) (hgr : W.grownBy w' (some base)) :
    Blk W0 w' B l ∧ OwI w' B base g' n cap xs := by
  rw [Nat.zero_add, List.nil_append] at hown
  exact ⟨K.grown hgr (by omega) h2, hown, h1⟩
theorem app_ints2 {xs : List Int} {v : Int} (K : Blk W0 W B l) (hown : w'.ownsRow base 3 1 (.slice (some ⟨g', 0, none⟩) (n + 1) cap) (n + 1) (xs.map (Value.int .i64) ++ [.int .i64 v])) (hgr : W.grownBy w' (some g)) (h1 : B ≠ g) (h2 : W0.heap.size ≤ g) (h3 : B < base) :
    Blk W0 w' B l ∧ OwI w' B base g' (n + 1) cap (xs ++ [v]) :=
  ⟨K.grown hgr h1 h2, by rw [List.map_append]; exact hown, h3⟩
theorem app_rows {bS gS nS capS : Nat} {lS : List Int} {ys : List Value} (K : Blk W0 W B l) (O : OwI W B bS gS nS capS lS) (h1 : B < base) (h2 : gS < base) (h3 : W0.heap.size ≤ base)
    (hown : w'.ownsRow base 22 1 (.slice (some ⟨g', 0, none⟩) (0 + n) cap) (0 + n) ([] ++ ys)) (hgr : W.grownBy w' (some base)) :
    Blk W0 w' B l ∧ OwI w' B bS gS nS capS lS ∧ w'.ownsRow base 22 1 (.slice (some ⟨g', 0, none⟩) n cap) n ys ∧ base ≤ g' := by
  rw [Nat.zero_add, List.nil_append] at hown
  exact ⟨K.grown hgr (by omega) h3, O.grown hgr (by omega), hown, (hown.lt g' rfl).1⟩
theorem app_rows2 {bS gS nS capS a : Nat} {lS : List Int} {ys : List Value} {v : Int} (K : Blk W0 W B l) (O : OwI W B bS gS nS capS lS) (R : Row W (some ⟨a, 0, none⟩) 1 [v])
    (hown : w'.ownsRow base 22 1 (.slice (some ⟨g', 0, none⟩) n cap) n ys) (hgr : W.grownBy w' (some g)) (h1 : B ≠ g) (h2 : gS ≠ g) (h3 : W0.heap.size ≤ g) (h4 : a ≠ g) (h5 : B < base) :
    Blk W0 w' B l ∧ OwI w' B bS gS nS capS lS ∧ w'.ownsRow base 22 1 (.slice (some ⟨g', 0, none⟩) n cap) n ys ∧ Row w' (some ⟨a, 0, none⟩) 1 [v] ∧ B < g' :=
  ⟨K.grown hgr h1 h3, O.grown hgr h2, hown, R.grown hgr (fun p hp => by cases hp; exact h4), by have := (hown.lt g' rfl).1; omega⟩
end
theorem one_lit (W : World) (v : Int) : ∀ ad, some (⟨W.heap.size, 0, none⟩ : Addr) = some ad → ∀ j u, ([.int .i64 v] : List Value)[j]? = some u → (W.alloc (.cells #[.int .i64 v] 3)).cell? (ad.add j) = some u := by
  intro ad ha j u hj
  cases ha
  rw [add_plain', Nat.zero_add]
  exact cells_new W #[.int .i64 v] 3 j u hj
theorem two_rows (W : World) (v : Int) : (∀ ad, some (⟨W.heap.size + 1, 0, none⟩ : Addr) = some ad → ∀ j u, ([.slice (some ⟨W.heap.size, 0, none⟩) 1 1] : List Value)[j]? = some u → ((W.alloc (.cells #[.int .i64 v] 3)).alloc (.cells #[.slice (some ⟨W.heap.size, 0, none⟩) 1 1] 22)).cell? (ad.add j) = some u) ∧
    Row ((W.alloc (.cells #[.int .i64 v] 3)).alloc (.cells #[.slice (some ⟨W.heap.size, 0, none⟩) 1 1] 22)) (some ⟨W.heap.size, 0, none⟩) 1 [v] := by
  constructor
  · intro ad ha j u hj
    cases ha
    have hs : (W.alloc (.cells #[.int .i64 v] 3)).heap.size = W.heap.size + 1 := Array.size_push _
    have := cells_new (W.alloc (.cells #[.int .i64 v] 3)) #[.slice (some ⟨W.heap.size, 0, none⟩) 1 1] 22 j u hj
    rw [hs] at this
    rw [add_plain', Nat.zero_add]
    exact this
  · exact (lit_ints W #[.int .i64 v] [v] 1 rfl rfl (by simp)).below (below_alloc _ _)
theorem rows_same {W : World} {base g n cap : Nat} {S : List Sl} {L : List (List Int)} (R : W.ownsRow base 22 1 (.slice (some ⟨g, 0, none⟩) n cap) n (S.map Sl.v)) (h1 : S.length = n) (h2 : n = L.length) (h3 : ∀ i s, S[i]? = some s → SlI W s (L.getD i [])) : RowR W (some ⟨g, 0, none⟩) n L := by
  refine ⟨h2, fun h0 => ⟨g, 0, rfl, (R.lt g rfl).2, fun i hi => ?_⟩⟩
  have hi2 : i < S.length := by omega
  refine ⟨S[i], ?_, h3 i _ (List.getElem?_eq_getElem hi2)⟩
  rw [Nat.zero_add, R.cellAt i (by omega), List.getElem?_map, List.getElem?_eq_getElem hi2]; rfl
theorem rows_more {W : World} {base g n cap : Nat} {S : List Sl} {s' : Sl} {L : List (List Int)} {l' : List Int} (R : W.ownsRow base 22 1 (.slice (some ⟨g, 0, none⟩) (n + 1) cap) (n + 1) (S.map Sl.v ++ [s'.v])) (h1 : S.length = n) (h2 : n = L.length) (h3 : ∀ i s, S[i]? = some s → SlI W s (L.getD i [])) (h4 : SlI W s' l') :
    RowR W (some ⟨g, 0, none⟩) (n + 1) (L ++ [l']) := by
  have R2 : W.ownsRow base 22 1 (.slice (some ⟨g, 0, none⟩) (n + 1) cap) (n + 1) ((S ++ [s']).map Sl.v) := by rw [List.map_append]; exact R
  refine rows_same R2 (by simp [h1]) (by simp [h2]) (fun i s hs => ?_)
  by_cases hi : i < S.length
  · rw [List.getElem?_append_left hi] at hs
    rw [List.getD_eq_getElem?_getD, List.getElem?_append_left (by omega), ← List.getD_eq_getElem?_getD]
    exact h3 i s hs
  · rw [List.getElem?_append_right (by omega)] at hs
    have h0 : i - S.length = 0 := by
      have := (List.getElem?_eq_some_iff.1 hs).1
      simp at this; omega
    rw [h0] at hs
    simp at hs
    subst hs
    rw [List.getD_eq_getElem?_getD, List.getElem?_append_right (by omega), show i - L.length = 0 by omega]
    exact h4
theorem blocks_more {L : List (List Int)} {v : Int} (h : blocksE L = true) (h8 : L.length < 8) : blocksE (L ++ [[v]]) = true := by
  unfold blocksE at h ⊢
  simp only [Bool.and_eq_true, decide_eq_true_eq] at h ⊢
  refine ⟨by simp; omega, ?_⟩
  rw [List.all_append, h.2]; rfl
end Go.Proofs.YthncbnalnfbpnaaDoor
