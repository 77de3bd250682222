/- What is proved here: the walk of the law CheckEmpty. Condition: the table of names holds what its initialiser lays ('Nms'). -/
import Derived.Test.YthncbnalnfbpnaaDoorCg
import Derived.Test.YthncbnalnfbpnaaDoorIt
namespace Go.Proofs.YthncbnalnfbpnaaDoor
open Go.ChangeShapes Go.WideShapes Go.RowKit

/-- A row of tasks, of which one was changed. -/
theorem empty_is {W : World} {x : ImV} {m : ImP} {V : List TaV} {k g cap base : Nat} {s : Sl} (h : x.Is W m) (hV : TksIs W V m.tasks) (hk : k < V.length) (hs : SlC W s [(25, 0, 0)])
    (hown : W.ownsRow base 36 7 (.slice (some ⟨g, 0, none⟩) V.length cap) V.length (((tkC V).set (k * 7 + 6) s.v).set (k * 7 + 4) (.slice none 0 0))) (hn : m.tasks.length ≤ 100) :
    ImV.Is W { x with tasks := ⟨some ⟨g, 0, none⟩, V.length, cap⟩ } { m with tasks := m.tasks.set k (endT (m.tasks.getD k tk0)) } := by
  obtain ⟨h1, h2, h3, h4, h5, h6, -⟩ := h
  refine ⟨h1, h2, h3, h4, h5, h6, ?_, by show V.length ≤ _; have := hV.1; omega⟩
  have e1 : (tkC V).set (k * 7 + 6) s.v = tkC (V.set k { V[k] with co := s }) := tkC_set V k 6 _ _ hk (by omega) rfl
  have hk2 : k < (V.set k { V[k] with co := s }).length := by rw [List.length_set]; exact hk
  have e2 : (tkC (V.set k { V[k] with co := s })).set (k * 7 + 4) (.slice none 0 0) = tkC ((V.set k { V[k] with co := s }).set k { V[k] with co := s, bl := ⟨none, 0, 0⟩ }) :=
    tkC_set _ k 4 _ _ hk2 (by omega) (by simp [TaV.cells, Sl.v])
  rw [e1, e2, List.set_set] at hown
  obtain ⟨a, c, hv, hm, hr, _⟩ := RowT.own (L := m.tasks.set k (endT (m.tasks.getD k tk0))) hown ⟨by rw [List.length_set, List.length_set]; exact hV.1, fun i t ht => by
    rw [List.getElem?_set] at ht
    by_cases e : k = i
    · subst e
      rw [if_pos rfl, if_pos hk] at ht
      cases ht
      obtain ⟨T, hT, ht2⟩ := hV.2 k V[k] (List.getElem?_eq_getElem hk)
      refine ⟨endT T, by rw [List.getElem?_set, if_pos rfl, if_pos (by rw [← hV.1]; exact hk), List.getD_eq_getElem?_getD, hT]; rfl, ?_⟩
      obtain ⟨g1, g2, g3, g4, g5, g6, g7⟩ := ht2
      exact ⟨g1, g2, g3, g4, ⟨Row.nil _ _, by dsimp only; omega⟩, g6, hs⟩
    · rw [if_neg e] at ht
      obtain ⟨T, hT, ht2⟩ := hV.2 i t ht
      exact ⟨T, by rw [List.getElem?_set, if_neg e]; exact hT, ht2⟩⟩
  cases hv
  exact hr
theorem raw_cells {w : World} {a : Option Addr} {n : Nat} {L : List TkP} (hr : RowT w a n L) : ∃ V : List TaV, TksIs w V L ∧ V.length = n ∧ (a = none → n = 0) ∧
    ∀ W, Below w.heap.size w W → ∀ ad, a = some ad → ∀ j u, (tkC V)[j]? = some u → W.cell? (ad.add j) = some u := by
  obtain ⟨V, hV, hc⟩ := hr.raw
  have hl : V.length = n := by rw [hV.1, hr.1]
  refine ⟨V, hV, hl, fun e => ?_, fun W hb ad ha j u hj => ?_⟩
  · rcases Nat.eq_zero_or_pos n with h | h
    · exact h
    · obtain ⟨_, _, e2, _⟩ := hr.2 h; rw [e] at e2; cases e2
  · have hjl : j < V.length * 7 := by rw [← tkC_len]; exact (List.getElem?_eq_some_iff.1 hj).1
    obtain ⟨i, r, hi, h7, rfl⟩ : ∃ i r, i < V.length ∧ r < 7 ∧ j = i * 7 + r := ⟨j / 7, j % 7, by omega, by omega, by omega⟩
    obtain ⟨b, off, e, hlt, hcc⟩ := hc i V[i] (List.getElem?_eq_getElem hi)
    rw [ha, Option.some.injEq] at e
    subst e
    rw [tkC_get V i r hi h7] at hj
    rw [add_plain', ← Nat.add_assoc]
    exact keep_cell hb (hcc r u hj)
/-- A copy of an image beside a row of tasks. -/
structure MidT (W0 W : World) (B g base n cap : Nat) (f : Nat → Value) (xs : List Value) : Prop where
  row : W.rowIs B 26 7 f
  own : W.ownsRow base 36 7 (.slice (some ⟨g, 0, none⟩) n cap) n xs
  bel : Below W0.heap.size W0 W
  ne : B ≠ g
  lb : W0.heap.size ≤ B
  lg : W0.heap.size ≤ g
section
variable {W0 W : World} {B g base n cap : Nat} {f : Nat → Value} {xs : List Value}
theorem MidT.setB (h : MidT W0 W B g base n cap f xs) (j : Nat) (u : Value) : MidT W0 (W.setCell ⟨B, j, none⟩ u) B g base n cap (fun i => if i = j then u else f i) xs :=
  ⟨h.row.set j u, ownsRow_setCell_other h.own (a := ⟨B, j, none⟩) (by show some g ≠ some B; intro e; exact h.ne (Option.some.inj e).symm) u, h.bel.setCell (p := ⟨B, j, none⟩) h.lb u, h.ne, h.lb, h.lg⟩
theorem MidT.setG (h : MidT W0 W B g base n cap f xs) (j : Nat) (u : Value) : MidT W0 (W.setCell ⟨g, j, none⟩ u) B g base n cap f (xs.set j u) :=
  ⟨h.row.setOther h.ne u, (h.own.stored j u).1, h.bel.setCell (p := ⟨g, j, none⟩) h.lg u, h.ne, h.lb, h.lg⟩
theorem MidT.alloc (h : MidT W0 W B g base n cap f xs) (o : Obj) : MidT W0 (W.alloc o) B g base n cap f xs :=
  ⟨h.row.alloc o, h.own.alloc o, h.bel.alloc h.bel.size o, h.ne, h.lb, h.lg⟩
end
theorem RowI.setOther {w : World} {a : Option Addr} {n : Nat} {l : List (Int × Int × Int)} {g i : Nat} (u : Value) (h : RowI w a n l) (hf : ∀ p, a = some p → p.block ≠ g) : RowI (w.setCell ⟨g, i, none⟩ u) a n l := by
  refine ⟨h.1, fun hn => ?_⟩
  obtain ⟨b, off, e, hlt, hc⟩ := h.2 hn
  have hb : (w.setCell ⟨g, i, none⟩ u).heap[b]? = w.heap[b]? := Go.Deep.blk_setCell_other _ _ _ _ (hf _ e)
  exact ⟨b, off, e, by simpa [World.setCell] using hlt, fun j hj => ⟨(World.cell?_of_block hb).trans (hc j hj).1, (World.cell?_of_block hb).trans (hc j hj).2.1, (World.cell?_of_block hb).trans (hc j hj).2.2⟩⟩
theorem cells_of_row {W : World} {B : Nat} {t : TypeId} {f : Nat → Value} (h : W.rowIs B t 7 f) (l : List Value) (hl : l.length = 7) (hf : ∀ j, j < 7 → f j = l.getD j undef) : ∀ j v, l[j]? = some v → W.cell? ⟨B, j, none⟩ = some v := by
  intro j v hj
  have hj7 : j < 7 := by rw [← hl]; exact (List.getElem?_eq_some_iff.1 hj).1
  rw [h.cell hj7, hf j hj7, List.getD_eq_getElem?_getD, hj]; rfl
theorem getD_seven (a b c d e f g : Value) (j : Nat) (u : Value) : (if j = 6 then u else (#[a, b, c, d, e, f, g] : Array Value).getD j undef) = ([a, b, c, d, e, f, u] : List Value).getD j undef ∨ 7 ≤ j := by
  rcases (show j = 0 ∨ j = 1 ∨ j = 2 ∨ j = 3 ∨ j = 4 ∨ j = 5 ∨ j = 6 ∨ 7 ≤ j by omega) with rfl | rfl | rfl | rfl | rfl | rfl | rfl | h
  · exact Or.inl rfl
  · exact Or.inl rfl
  · exact Or.inl rfl
  · exact Or.inl rfl
  · exact Or.inl rfl
  · exact Or.inl rfl
  · exact Or.inl rfl
  · exact Or.inr h
/-- A copy of an image, and an empty row behind it. -/
theorem copy_row (w w2 : World) (hb : Below w.heap.size w w2) (cs : Array Value) (t e : TypeId) (size : Nat) (h7 : cs.size = 7) :
    ((w2.alloc (.cells cs t)).alloc (.cells #[] e)).rowIs w2.heap.size t 7 (fun j => cs.getD j undef) ∧
    ((w2.alloc (.cells cs t)).alloc (.cells #[] e)).ownsRow (w2.heap.size + 1) e size (.slice (some ⟨w2.heap.size + 1, 0, none⟩) 0 0) 0 [] ∧
    Below w.heap.size w ((w2.alloc (.cells cs t)).alloc (.cells #[] e)) ∧ ((w2.alloc (.cells cs t)).alloc (.cells #[] e)).heap.size = w2.heap.size + 1 + 1 := by
  have hs : (w2.alloc (.cells cs t)).heap.size = w2.heap.size + 1 := by simp
  have h1 := World.rowIs_alloc w2 cs t (fun j => cs.getD j undef) (fun j hj => by simp [hj])
  rw [h7] at h1
  have h2 := World.ownsRow_lit (base := w2.heap.size + 1) (e := e) (size := size) (w2.alloc (.cells cs t)) #[] 0 (by rw [hs]; exact Nat.le_refl _) (by unfold maxLen; omega) (by simp)
  rw [hs] at h2
  exact ⟨h1.alloc _, h2, keep_below hb (keep_below (below_alloc _ _) (below_alloc _ _)), by simp⟩
theorem grown_other {w w' : World} {g B : Nat} (h : w.grownBy w' (some g)) (hB : B < w.heap.size) (hne : B ≠ g) : w'.heap[B]? = w.heap[B]? := h.block B hB (fun e => hne (Option.some.inj e))
theorem mid_of {W0 w2 W w5 : World} {g cap n : Nat} {f : Nat → Value} {xs : List Value} (h1 : W.rowIs w2.heap.size 26 7 f) (h2 : Below W0.heap.size W0 W) (h3 : W.heap.size = w2.heap.size + 1 + 1) (h4 : W0.heap.size ≤ w2.heap.size)
    (hown : w5.ownsRow (w2.heap.size + 1) 36 7 (.slice (some ⟨g, 0, none⟩) (0 + n) cap) (0 + n) ([] ++ xs)) (hgr : W.grownBy w5 (some (w2.heap.size + 1))) : MidT W0 w5 w2.heap.size g (w2.heap.size + 1) n cap f xs := by
  rw [Nat.zero_add, List.nil_append] at hown
  have hgl := hown.lt g rfl
  exact ⟨h1.of_block (grown_other hgr (by omega) (by omega)), hown, h2.grown hgr (by omega) (fun q hq => by cases hq; omega), by omega, h4, by omega⟩
set_option maxHeartbeats 1000000 in
set_option maxRecDepth 100000 in
theorem empty_walk (x : ImV) (m : ImP) (i : Int) (w : World) (h : x.Is w m) (hN : Nms w) :
    Calls Tryd.prog 7 #[x.v, .int .i64 i] w fun e w' => e = .returned (.bool true) ∧ Below w.heap.size w w' := by
  have KN := Lib.hid (fun W (hb : Below w.heap.size w W) => known_any W (hN.below hb))
  obtain ⟨lg, hlg⟩ : ∃ lg, lightE m = lg := ⟨_, rfl⟩
  have LG := Lib.hid (fun W (hb : Below w.heap.size w W) => light_any x m W (h.below hb) lg hlg)
  obtain ⟨zr, hzr⟩ : ∃ zr, imE m = zr := ⟨_, rfl⟩
  have RG := Lib.hid (fun W (hb : Below w.heap.size w W) => imRight_any x m W (h.below hb) (hN.below hb) zr hzr)
  have hlen : x.tasks.n = m.tasks.length := h.2.2.2.2.2.2.1.1
  have hmx : x.tasks.n ≤ 140737488355328 := h.2.2.2.2.2.2.2
  have HI := Lib.hid h
  have HN := Lib.hid (fun W (hb : Below w.heap.size w W) => hN.below hb)
  clear hlg h hN
  obtain ⟨sw, la, cm, inp, ⟨sa, sn, sc⟩, ⟨ba, bn, bc⟩, ⟨ta, tn, tc⟩⟩ := x
  simp only [ImV.v, Sl.v] at LG RG hlen hmx ⊢
  have HLN := Lib.hid hlen
  clear hlen
  have C0 := Lib.hid (cells_new w #[.int .i64 sw, .int .i64 la, .int .i64 cm, .int .i64 inp, .slice sa sn sc, .slice ba bn bc, .slice ta tn tc] 26)
  have B0 := Lib.hid (below_alloc w (.cells #[.int .i64 sw, .int .i64 la, .int .i64 cm, .int .i64 inp, .slice sa sn sc, .slice ba bn bc, .slice ta tn tc] 26))
  by_cases z : lg = 0
  · have e1 : (lg == 0) = true := by simpa using z
    clear z RG HI HN hzr
    go_enter Tryd.func7, Tryd.ntmps7
    go_wp2_with (first
      | (go_at_call 8; refine (LG.out _ B0.out).mono ?_; rintro e w1 ⟨rfl, hb1⟩; have b1 := keep_below B0.out hb1)
      | (go_at_call 10; refine (KN.out _ b1).mono ?_; rintro e w2 ⟨rfl, hb2⟩))
    go_ret
    exact ⟨rfl, keep_below b1 hb2⟩
  have e1 : (lg == 0) = false := by simpa using z
  clear z
  cases zr
  · clear HI HN hzr
    go_enter Tryd.func7, Tryd.ntmps7
    go_wp2_with (first
      | (go_at_call 8; refine (LG.out _ B0.out).mono ?_; rintro e w1 ⟨rfl, hb1⟩; have b1 := keep_below B0.out hb1; have c0 := keep_cell hb1 (C0.out 0 _ rfl); have c1 := keep_cell hb1 (C0.out 1 _ rfl); have c2 := keep_cell hb1 (C0.out 2 _ rfl); have c3 := keep_cell hb1 (C0.out 3 _ rfl); have c4 := keep_cell hb1 (C0.out 4 _ rfl); have c5 := keep_cell hb1 (C0.out 5 _ rfl); have c6 := keep_cell hb1 (C0.out 6 _ rfl))
      | (go_at_call 9; refine (RG.out _ b1).mono ?_; rintro e w2 ⟨rfl, hb2'⟩; have b2 := keep_below b1 hb2')
      | (go_at_call 10; refine (KN.out _ b2).mono ?_; rintro e w3 ⟨rfl, hb3⟩))
    go_ret
    exact ⟨rfl, keep_below b2 hb3⟩
  by_cases hi0 : i < 0
  · have e2 : decide (i < 0) = true := decide_eq_true hi0
    clear HI HN hzr hi0
    go_enter Tryd.func7, Tryd.ntmps7
    go_wp2_with (first
      | (go_at_call 8; refine (LG.out _ B0.out).mono ?_; rintro e w1 ⟨rfl, hb1⟩; have b1 := keep_below B0.out hb1; have c0 := keep_cell hb1 (C0.out 0 _ rfl); have c1 := keep_cell hb1 (C0.out 1 _ rfl); have c2 := keep_cell hb1 (C0.out 2 _ rfl); have c3 := keep_cell hb1 (C0.out 3 _ rfl); have c4 := keep_cell hb1 (C0.out 4 _ rfl); have c5 := keep_cell hb1 (C0.out 5 _ rfl); have c6 := keep_cell hb1 (C0.out 6 _ rfl))
      | (go_at_call 9; refine (RG.out _ b1).mono ?_; rintro e w2 ⟨rfl, hb2'⟩; have b2 := keep_below b1 hb2')
      | (go_at_call 10; refine (KN.out _ b2).mono ?_; rintro e w3 ⟨rfl, hb3⟩))
    go_ret
    exact ⟨rfl, keep_below b2 hb3⟩
  have e2 : decide (i < 0) = false := decide_eq_false hi0
  by_cases hin : (tn : Int) ≤ i
  · have e3 : decide ((tn : Int) ≤ i) = true := decide_eq_true hin
    clear HI HN hzr hi0 hin
    go_enter Tryd.func7, Tryd.ntmps7
    go_wp2_with (first
      | (go_at_call 8; refine (LG.out _ B0.out).mono ?_; rintro e w1 ⟨rfl, hb1⟩; have b1 := keep_below B0.out hb1; have c0 := keep_cell hb1 (C0.out 0 _ rfl); have c1 := keep_cell hb1 (C0.out 1 _ rfl); have c2 := keep_cell hb1 (C0.out 2 _ rfl); have c3 := keep_cell hb1 (C0.out 3 _ rfl); have c4 := keep_cell hb1 (C0.out 4 _ rfl); have c5 := keep_cell hb1 (C0.out 5 _ rfl); have c6 := keep_cell hb1 (C0.out 6 _ rfl))
      | (go_at_call 9; refine (RG.out _ b1).mono ?_; rintro e w2 ⟨rfl, hb2'⟩; have b2 := keep_below b1 hb2'; have hb2 := keep_below hb1 hb2'; have d0 := keep_cell hb2 (C0.out 0 _ rfl); have d1 := keep_cell hb2 (C0.out 1 _ rfl); have d2 := keep_cell hb2 (C0.out 2 _ rfl); have d3 := keep_cell hb2 (C0.out 3 _ rfl); have d4 := keep_cell hb2 (C0.out 4 _ rfl); have d5 := keep_cell hb2 (C0.out 5 _ rfl); have d6 := keep_cell hb2 (C0.out 6 _ rfl))
      | (go_at_call 10; refine (KN.out _ b2).mono ?_; rintro e w3 ⟨rfl, hb3⟩))
    go_ret
    exact ⟨rfl, keep_below b2 hb3⟩
  have e3 : decide ((tn : Int) ≤ i) = false := decide_eq_false hin
  obtain ⟨k, rfl⟩ : ∃ k : Nat, i = (k : Int) := ⟨i.toNat, by omega⟩
  obtain ⟨n1, n2, n3, -⟩ := numE_parts (imE_parts hzr).1
  obtain ⟨q1, q2, q3, -, -, -, ⟨hrow, -⟩⟩ := HI.out
  simp only at q1 q2 q3 hrow
  rw [← q1] at n1
  rw [← q2] at n2
  rw [← q3] at n3
  have hlen := HLN.out
  have ht8 : tn ≤ 8 := by rw [hlen]; exact (tasksE_parts (imE_parts hzr).2.2.2).2.1
  obtain ⟨V, hV, hVl, hV0, hVc⟩ := raw_cells hrow
  obtain ⟨b, off, ha, -⟩ := hrow.2 (by omega)
  subst ha
  obtain ⟨it, it0, it1, it2, it3⟩ := parts_info itk_info
  obtain ⟨y1, y2, y3⟩ := end_task hzr (k := k) (by omega)
  obtain ⟨nn, hnn⟩ : ∃ nn, nn = 1 + 2 * sw + la + cm := ⟨_, rfl⟩
  replace y2 := y2.trans (show 1 + 2 * m.sw + m.la + m.cm = nn by rw [hnn, q1, q2, q3])
  have HVl : Hid ((tkC V).length = tn * 7) := by show _ = _; rw [tkC_len, hVl]
  have HVc := Lib.hid hVc
  have HV := Lib.hid hV
  have HVn := Lib.hid hVl
  have s1 : IntKind.i64.wrap (2 * sw) = 2 * sw := IntWalk.i64_in _ (by omega)
  have s2 : IntKind.i64.wrap (1 + 2 * sw) = 1 + 2 * sw := IntWalk.i64_in _ (by omega)
  have s3 : IntKind.i64.wrap (1 + 2 * sw + la) = 1 + 2 * sw + la := IntWalk.i64_in _ (by omega)
  have s4 : IntKind.i64.wrap (1 + 2 * sw + la + cm) = 1 + 2 * sw + la + cm := IntWalk.i64_in _ (by omega)
  have s5 : (nn == 1 + 2 * sw + la + cm) = true := by rw [hnn]; simp
  have i1 : (0 : Int) ≤ (k : Int) := by omega
  have i2 : (k : Int) < (tn : Int) := by omega
  have e4 : decide (tn ≤ k) = false := decide_eq_false (by omega)
  have hkV : k < V.length := by omega
  have HKV := Lib.hid hkV
  have HS : Hid (∀ (W : World) (g cap base : Nat) (s : Sl), Below w.heap.size w W → SlC W s [(25, 0, 0)] → W.ownsRow base 36 7 (.slice (some ⟨g, 0, none⟩) tn cap) tn (((tkC V).set (k * 7 + 6) s.v).set (k * 7 + 4) (.slice none 0 0)) → ImV.Is W ⟨sw, la, cm, inp, ⟨sa, sn, sc⟩, ⟨ba, bn, bc⟩, ⟨some ⟨g, 0, none⟩, tn, cap⟩⟩ { m with tasks := m.tasks.set k (endT (m.tasks.getD k tk0)) }) := by
    intro W g cap base s hb hs hown
    rw [← hVl] at hown ⊢
    exact empty_is (HI.out.below hb) (hV.below hb) hkV hs hown (by omega)
  have Y1 := Lib.hid y1
  have Y2 := Lib.hid y2
  have Y3 := Lib.hid y3
  clear y1 y2 y3 hnn hV hVl hV0 hVc hkV hrow n1 n2 n3 q1 q2 q3 hlen hi0 hin HI hzr
  go_enter Tryd.func7, Tryd.ntmps7
  go_upto_region 5 with (first
    | (go_at_call 8; refine (LG.out _ B0.out).mono ?_; rintro e w1 ⟨rfl, hb1⟩; have b1 := keep_below B0.out hb1; have c0 := keep_cell hb1 (C0.out 0 _ rfl); have c1 := keep_cell hb1 (C0.out 1 _ rfl); have c2 := keep_cell hb1 (C0.out 2 _ rfl); have c3 := keep_cell hb1 (C0.out 3 _ rfl); have c4 := keep_cell hb1 (C0.out 4 _ rfl); have c5 := keep_cell hb1 (C0.out 5 _ rfl); have c6 := keep_cell hb1 (C0.out 6 _ rfl))
    | (go_at_call 9; refine (RG.out _ b1).mono ?_; rintro e w2 ⟨rfl, hb2'⟩; have b2 := keep_below b1 hb2'; have hb2 := keep_below hb1 hb2'; have d0 := keep_cell hb2 (C0.out 0 _ rfl); have d1 := keep_cell hb2 (C0.out 1 _ rfl); have d2 := keep_cell hb2 (C0.out 2 _ rfl); have d3 := keep_cell hb2 (C0.out 3 _ rfl); have d4 := keep_cell hb2 (C0.out 4 _ rfl); have d5 := keep_cell hb2 (C0.out 5 _ rfl); have d6 := keep_cell hb2 (C0.out 6 _ rfl); have CR := Lib.hid (copy_row (w.alloc (.cells #[.int .i64 sw, .int .i64 la, .int .i64 cm, .int .i64 inp, .slice sa sn sc, .slice ba bn bc, .slice (some ⟨b, off, none⟩) tn tc] 26)) w2 hb2 #[.int .i64 sw, .int .i64 la, .int .i64 cm, .int .i64 inp, .slice sa sn sc, .slice ba bn bc, .slice (some ⟨b, off, none⟩) tn tc] 26 36 7 rfl); have p6 := keep_cell (keep_below (below_alloc w2 (.cells #[.int .i64 sw, .int .i64 la, .int .i64 cm, .int .i64 inp, .slice sa sn sc, .slice ba bn bc, .slice (some ⟨b, off, none⟩) tn tc] 26)) (below_alloc _ (.cells #[] 36))) d6)
    | (refine wpList_append_gen _ (by rfl) (.tmp 31) (.tmp 33) 24 rfl (w2.heap.size + 1) 36 it (.agg #[.int .i64 0, .int .i64 0, .int .i64 0, .int .i64 0, .slice none 0 0, .slice none 0 0, .slice none 0 0]) 7 104 Tryd.underlying24 it0 it1 it2 it3 rfl (by omega) (by omega) (w2.heap.size + 1) 0 0 [] (by simp [Act.eval]) CR.out.2.1 (some ⟨b, off, none⟩) tn tc (tkC V) (by simp [Act.eval]) HVl.out (HVc.out _ (keep_below B0.out CR.out.2.2.1)) (fun e => by cases e) (tkC_one V) (by omega) (by rw [CR.out.2.2.2]; omega) ?_; rintro g cap' w5 hown0 hgr; have MM := Lib.hid (mid_of CR.out.1 CR.out.2.2.1 CR.out.2.2.2 hb2.size hown0 hgr); clear hown0 hgr; have o6 : w5.cell? ⟨w2.heap.size, 6, none⟩ = some (.slice (some ⟨b, off, none⟩) tn tc) := MM.out.row.cell (i := 6) (by omega); have z6 := MM.out.row.frozen 6))
  have hs5 : (w5.setCell ⟨w2.heap.size, 6, none⟩ (.slice (some ⟨g, 0, none⟩) tn cap')).heap.size = w5.heap.size := by simp [World.setCell]
  have M6 := MM.out.setB 6 (.slice (some ⟨g, 0, none⟩) tn cap')
  have g2 := MM.out.own.lt g rfl
  clear o6 z6 c0 c1 c2 c3 c4 c5 c6 d0 d1 d2 d3 d4 d5 d6 p6
  generalize w5.setCell ⟨w2.heap.size, 6, none⟩ (.slice (some ⟨g, 0, none⟩) tn cap') = W6 at M6 hs5 ⊢
  have r0 : W6.cell? ⟨w2.heap.size, 6, none⟩ = some (.slice (some ⟨g, 0, none⟩) tn cap') := M6.row.cell (i := 6) (by omega)
  have hkv := HKV.out
  have hvn := HVn.out
  obtain ⟨v6, r6⟩ : ∃ u, W6.cell? ⟨g, k * 7 + 6, none⟩ = some u := ⟨_, (M6.own.cellAt (k * 7 + 6) (by omega)).trans (tkC_get V k 6 hkv (by omega))⟩
  have z7 := M6.own.frozenAt (k * 7 + 6)
  have hgl : g < W6.heap.size := by rw [hs5]; exact g2.2
  have MM6 := Lib.hid M6
  clear M6 hkv hvn MM hs5 g2
  go_upto_region 6 with (fail)
  have M7 := (MM6.out.setG (k * 7 + 6) (.slice (some ⟨W6.heap.size, 0, none⟩) 1 1)).alloc (.cells #[.int .i64 25, .int .i64 0, .int .i64 0] 47)
  have K7 := lit_row (W6.setCell ⟨g, k * 7 + 6, none⟩ (.slice (some ⟨W6.heap.size, 0, none⟩) 1 1)) #[.int .i64 25, .int .i64 0, .int .i64 0] [(25, 0, 0)] 1 rfl rfl (by decide)
  rw [show (W6.setCell ⟨g, k * 7 + 6, none⟩ (.slice (some ⟨W6.heap.size, 0, none⟩) 1 1)).heap.size = W6.heap.size by simp [World.setCell]] at K7
  obtain ⟨cb, hcb⟩ : ∃ cb, cb = W6.heap.size := ⟨_, rfl⟩
  rw [← hcb] at M7 K7 hgl ⊢
  clear r0 r6 z7 MM6 hcb
  generalize (W6.setCell ⟨g, k * 7 + 6, none⟩ (.slice (some ⟨cb, 0, none⟩) 1 1)).alloc (.cells #[.int .i64 25, .int .i64 0, .int .i64 0] 47) = W7 at M7 K7 ⊢
  have r0 : W7.cell? ⟨w2.heap.size, 6, none⟩ = some (.slice (some ⟨g, 0, none⟩) tn cap') := M7.row.cell (i := 6) (by omega)
  have hkv := HKV.out
  have hvn := HVn.out
  obtain ⟨v4, r4⟩ : ∃ u, W7.cell? ⟨g, k * 7 + 4, none⟩ = some u := ⟨_, (M7.own.cellAt (k * 7 + 4) (by omega)).trans ((List.getElem?_set_ne (by omega)).trans (tkC_get V k 4 hkv (by omega)))⟩
  have z8 := M7.own.frozenAt (k * 7 + 4)
  have MM7 := Lib.hid M7
  have KK7 := Lib.hid K7
  clear M7 K7 hkv hvn
  go_upto_region 7 with (fail)
  have M8 := MM7.out.setG (k * 7 + 4) (.slice none 0 0)
  have K8 := RowI.setOther (g := g) (i := k * 7 + 4) (.slice none 0 0) KK7.out (fun p hp => by cases hp; show cb ≠ g; omega)
  clear r0 r4 z8 MM7 KK7
  generalize W7.setCell ⟨g, k * 7 + 4, none⟩ (.slice none 0 0) = W8 at M8 K8 ⊢
  have XC := cells_of_row M8.row [.int .i64 sw, .int .i64 la, .int .i64 cm, .int .i64 inp, .slice sa sn sc, .slice ba bn bc, .slice (some ⟨g, 0, none⟩) tn cap'] rfl (fun j hj => (getD_seven _ _ _ _ _ _ _ j _).resolve_right (by omega))
  have x0 := XC 0 _ rfl
  have x1 := XC 1 _ rfl
  have x2 := XC 2 _ rfl
  have x3 := XC 3 _ rfl
  have x4 := XC 4 _ rfl
  have x5 := XC 5 _ rfl
  have x6 := XC 6 _ rfl
  have bb8 := keep_below B0.out M8.bel
  have IS := Lib.hid (HS.out W8 g cap' (w2.heap.size + 1) ⟨some ⟨cb, 0, none⟩, 1, 1⟩ bb8 ⟨K8, by dsimp only; omega⟩ M8.own)
  have BE := Lib.hid M8.bel
  clear XC M8 K8
  go_wp2_with (first
    | (go_at_call 15; have zz := mk6; clear zz; refine (locked_any ⟨sw, la, cm, inp, ⟨sa, sn, sc⟩, ⟨ba, bn, bc⟩, ⟨some ⟨g, 0, none⟩, tn, cap'⟩⟩ { m with tasks := m.tasks.set k (endT (m.tasks.getD k tk0)) } (k : Int) _ (IS.out.below hb6) (HN.out _ b6) 0 [] Y1.out Y3.out).mono ?_; rintro e w7 ⟨a7, n7, cp7, rfl, r7, hb7, -⟩; have hn7 : n7 = 0 := r7.1; subst hn7; clear r7; have b7 := keep_below b6 hb7; have hbo := keep_below (keep_below BE.out hb6) hb7; have v0 := keep_cell hbo (C0.out 0 _ rfl); have v1 := keep_cell hbo (C0.out 1 _ rfl); have v2 := keep_cell hbo (C0.out 2 _ rfl); have v3 := keep_cell hbo (C0.out 3 _ rfl); have v4 := keep_cell hbo (C0.out 4 _ rfl); have v5 := keep_cell hbo (C0.out 5 _ rfl); have v6 := keep_cell hbo (C0.out 6 _ rfl))
    | (go_at_call 16; refine (slots_any ⟨sw, la, cm, inp, ⟨sa, sn, sc⟩, ⟨ba, bn, bc⟩, ⟨some ⟨g, 0, none⟩, tn, cap'⟩⟩ { m with tasks := m.tasks.set k (endT (m.tasks.getD k tk0)) } (k : Int) _ IS.out (HN.out _ bb8) nn 0 Y1.out Y2.out).mono ?_; rintro e w6 ⟨rfl, hb6⟩; have b6 := keep_below bb8 hb6; have mk6 := True.intro; have y0 := keep_cell hb6 x0; have y1 := keep_cell hb6 x1; have y2 := keep_cell hb6 x2; have y3 := keep_cell hb6 x3; have y4 := keep_cell hb6 x4; have y5 := keep_cell hb6 x5; have y6 := keep_cell hb6 x6)
    | (go_at_call 10; refine (KN.out _ b7).mono ?_; rintro e w8 ⟨rfl, hb8⟩))
  go_ret
  exact ⟨rfl, keep_below b7 hb8⟩
end Go.Proofs.YthncbnalnfbpnaaDoor
