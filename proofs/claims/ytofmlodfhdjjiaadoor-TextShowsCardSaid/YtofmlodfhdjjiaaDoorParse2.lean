/- What is proved here: the contract of text.Parse. Conditions: the listed variables hold what their initialisers lay ('Env'); the text has at most a million bytes. -/
import Derived.Test.YtofmlodfhdjjiaaDoorParse
namespace Go.Proofs.YtofmlodfhdjjiaaDoor
open Go.ChangeShapes Go.WideShapes Go.RowKit Go.Shelf
attribute [local go_sem] Oper.semAt_some

theorem keeps_below {B : Nat} {W W' : World} (hb : Below W.heap.size W W') : KeepsFrom B W W' := (KeepsOthers.of_grownBy (grown_of hb) (fun j o e => by cases e)).from B
theorem boxed_below {W W' : World} {B : Nat} {t : TypeId} {v : Value} (h : Boxed W B t v) (hb : Below W.heap.size W W') : Boxed W' B t v := (hb.block B h.lt).trans h

theorem keeps_two {B : Nat} (W : World) (p q : Addr) (u v : Value) : KeepsFrom B W ((W.setCell p u).setCell q v) := ((KeepsOthers.setCell W p u).trans (KeepsOthers.setCell _ q v)).from B
theorem two_set {W : World} {B : Nat} {u0 v0 : Value} (h2 : Boxed W B 22 u0) (h3 : Boxed W (B + 1) 29 v0) (u v : Value) :
    Boxed ((W.setCell ⟨B, 0, none⟩ u).setCell ⟨B + 1, 0, none⟩ v) B 22 u ∧ Boxed ((W.setCell ⟨B, 0, none⟩ u).setCell ⟨B + 1, 0, none⟩ v) (B + 1) 29 v :=
  ⟨(h2.set u).kept (grownBy_setCell' _ _ _) (by simp), (h3.kept (grownBy_setCell' W B u) (by simp)).set v⟩
theorem leave_ok {W w : World} {u0 v0 : Value} {E : Int} {q : List Ln} (h2 : Boxed W w.heap.size 22 u0) (h3 : Boxed W (w.heap.size + 1) 29 v0) (hB : Below w.heap.size w W) (hq : prL q = ([], E)) (hE : E ≠ 0) :
    ((Boxed ((W.setCell ⟨w.heap.size, 0, none⟩ (.slice none 0 0)).setCell ⟨w.heap.size + 1, 0, none⟩ (.int .i64 E)) w.heap.size 22 (.slice none 0 0) ∧
      Boxed ((W.setCell ⟨w.heap.size, 0, none⟩ (.slice none 0 0)).setCell ⟨w.heap.size + 1, 0, none⟩ (.int .i64 E)) (w.heap.size + 1) 29 (.int .i64 (prL q).2)) ∧ (Code.ret = Code.ret ∧ (prL q).2 ≠ 0)) ∧
    Below w.heap.size w ((W.setCell ⟨w.heap.size, 0, none⟩ (.slice none 0 0)).setCell ⟨w.heap.size + 1, 0, none⟩ (.int .i64 E)) := by
  rw [hq]
  exact ⟨⟨two_set h2 h3 _ _, rfl, hE⟩, (hB.setCell (p := ⟨w.heap.size, 0, none⟩) (Nat.le_refl _) _).setCell (p := ⟨w.heap.size + 1, 0, none⟩) (Nat.le_succ _) _⟩

set_option maxRecDepth 100000 in
set_option maxHeartbeats 4000000 in
theorem parse_in (s : ByteArray) (hs : s.size ≤ 1000000) (w : World) (hE : Env w) :
    CallsIn Fence.wide 3 Tryd.prog 15 #[.string s] w (GotR (parse s.data.toList) w) := by
  obtain ⟨i0, hi, hz0, hz1, hz2⟩ := info_parts ins_info
  obtain ⟨xs, hxs⟩ := lns_sub (l := s.data.toList) (by simpa using hs)
  have HP : Hid (parse s.data.toList = prL xs) := by show _ = _; unfold parse prL; rw [hxs]
  have HE := Lib.hid hE
  refine callsIn_of_wp_marks Tryd.func15 rfl trivial ?_ rfl
  simp only [Tryd.ntmps15, List.size_toArray, List.length_cons, List.length_nil, Nat.reduceAdd, Nat.reduceSub, Array.replicate_succ, Array.replicate_zero, List.push_toArray, List.append_toArray, List.nil_append, List.cons_append]
  gi_wp2_with fail
  refine ⟨trivial, (lines_in _ _ _).mono ?_⟩
  rintro e w' ⟨rfl, rfl⟩
  gi_wp2
  have b2 := Boxed.new w 22 (.slice none 0 0)
  have b3 := Boxed.new (w.alloc (.cells #[.slice none 0 0] 22)) 29 (.int .i64 0)
  have b4 := Boxed.new ((w.alloc (.cells #[.slice none 0 0] 22)).alloc (.cells #[.int .i64 0] 29)) 22 (.slice none 0 0)
  have b5 := Boxed.new (((w.alloc (.cells #[.slice none 0 0] 22)).alloc (.cells #[.int .i64 0] 29)).alloc (.cells #[.slice none 0 0] 22)) 9 (.string s)
  have hB0 : Below w.heap.size w ((((w.alloc (.cells #[.slice none 0 0] 22)).alloc (.cells #[.int .i64 0] 29)).alloc (.cells #[.slice none 0 0] 22)).alloc (.cells #[.string s] 9)) :=
    ((((Below.refl _ w).alloc (Nat.le_refl _) _).alloc (by simp) _).alloc (by simp; omega) _).alloc (by simp; omega) _
  replace b2 := ((b2.alloc (.cells #[.int .i64 0] 29)).alloc (.cells #[.slice none 0 0] 22)).alloc (.cells #[.string s] 9)
  replace b3 := (b3.alloc (.cells #[.slice none 0 0] 22)).alloc (.cells #[.string s] 9)
  replace b4 := b4.alloc (.cells #[.string s] 9)
  have hsz : ((((w.alloc (.cells #[.slice none 0 0] 22)).alloc (.cells #[.int .i64 0] 29)).alloc (.cells #[.slice none 0 0] 22)).alloc (.cells #[.string s] 9)).heap.size = w.heap.size + 1 + 1 + 1 + 1 := by simp
  simp only [World.size_alloc] at b3 b4 b5
  generalize ((((w.alloc (.cells #[.slice none 0 0] 22)).alloc (.cells #[.int .i64 0] 29)).alloc (.cells #[.slice none 0 0] 22)).alloc (.cells #[.string s] 9)) = W0 at b2 b3 b4 b5 hB0 hsz ⊢
  refine wpIn_rangeFunc_ownG rfl (by decide) (gf := 43) (lb := #[.pointer (some ⟨w.heap.size + 1 + 1 + 1, 0, none⟩)]) rfl trivial (enters_of Tryd.func43 (by kernel_rfl) rfl)
    (lines_stops 2 (by decide) (w.heap.size + 1 + 1 + 1) w.heap.size s hs xs hxs W0 (by omega) b5.cell) belowK_t (belowK_b (by omega)) (Below.refl _ _) (fun _ => rfl)
    (fun pre W => ((((∃ v, Boxed W (w.heap.size + 1 + 1) 22 v ∧ W.ownsRow w.heap.size 24 3 v (prL pre).1.length (cellsI (prL pre).1) ∧ True) ∧ Boxed W w.heap.size 22 (.slice none 0 0)) ∧ Boxed W (w.heap.size + 1) 29 (.int .i64 0)) ∧ (prL pre).2 = 0) ∧ Below w.heap.size w W)
    (fun c pre W => (((Boxed W w.heap.size 22 (.slice none 0 0)) ∧ Boxed W (w.heap.size + 1) 29 (.int .i64 (prL pre).2)) ∧ (c = .ret ∧ (prL pre).2 ≠ 0)) ∧ Below w.heap.size w W)
    ?hI ?hIx ?h0
    (fun x => { tmps := #[.string s, undef, .pointer (some ⟨w.heap.size, 0, none⟩), .pointer (some ⟨w.heap.size + 1, 0, none⟩), .pointer (some ⟨w.heap.size + 1 + 1, 0, none⟩), .string (bs x.1.1), .bool x.1.2, undef, undef, .string s, .func (.func 43) #[] #[.pointer (some ⟨w.heap.size + 1 + 1 + 1, 0, none⟩)], .string (bs x.1.1), .bool x.1.2, undef, undef, undef, undef, undef, undef, undef, undef, undef, undef, undef, undef, undef, undef, undef, undef, undef, undef, undef, undef], defers := [] }) ?assign ?body ?done ?stop
  case hI =>
    exact OwnFrom.and (OwnFrom.and (OwnFrom.and (OwnFrom.and (Own.from (holdsRow_own w.heap.size (w.heap.size + 1 + 1) 22 24 3 (fun pre => (prL pre).1.length) (fun pre => cellsI (prL pre).1) (fun _ _ => True)) _) (Own.from (boxed_own _ _ _) _)) (Own.from (boxed_own _ _ _) _)) (ownFrom_pure _ _)) (ownFrom_below (Nat.le_refl _) (by omega))
  case hIx =>
    intro c
    exact OwnFrom.and (OwnFrom.and (OwnFrom.and (Own.from (boxed_own _ _ _) _) (Own.from (boxed_own _ _ _) _)) (ownFrom_pure _ _)) (ownFrom_below (Nat.le_refl _) (by omega))
  case h0 =>
    exact ⟨⟨⟨⟨⟨_, b4, World.ownsRow_nil _ _ _ _, trivial⟩, b2⟩, b3⟩, rfl⟩, hB0⟩
  case assign =>
    intro l x W K hK
    simp only [encL]
    gi_wp2
    exact hK
  case body =>
    rintro l pre x W ⟨⟨⟨⟨⟨v, hv, hrow, _⟩, hr2⟩, hr3⟩, hp0⟩, hB⟩ hlt
    obtain ⟨L, hL⟩ : ∃ L, prL pre = (L, 0) := ⟨(prL pre).1, by rw [← hp0]⟩
    rw [hL] at hrow
    simp only at hrow
    have hlen : L.length ≤ 200 := (pr_len _ _ _ hL (by simp)).2
    have HS := Lib.hid (prL_snoc x hL)
    obtain ⟨⟨y, ended⟩, hy⟩ := x
    simp only at HS hy
    obtain ⟨A, n, c, rfl, rfl, hRow⟩ := own_form hrow
    have hc4 := hv.cell
    have hc2 := hr2.cell
    have hc3 := hr3.cell
    have hf2 := hr2.frozen
    have hf3 := hr3.frozen
    have hn1 : ¬ w.heap.size = w.heap.size + 1 := by omega
    have hn2 : ¬ w.heap.size + 1 = w.heap.size := by omega
    clear hRow hL hxs hlt
    by_cases h200 : L.length = 200
    · have HQ : Hid (prL (pre ++ [⟨(y, ended), hy⟩]) = ([], 4)) := by
        show _ = _
        rw [HS.out, if_pos h200]
      have e2 : (L.length == 200) = true := by simpa using h200
      have e3 : ((L.length : Int) == 200) = true := by rw [beq_iff_eq]; omega
      clear h200 HS
      gi_wp2
      refine ⟨keeps_two _ _ _ _ _, ?_⟩
      exact leave_ok hr2 hr3 hB HQ.out (by decide)
    · have e2 : (L.length == 200) = false := by rw [beq_eq_false_iff_ne]; omega
      have e3 : ((L.length : Int) == 200) = false := by rw [beq_eq_false_iff_ne]; omega
      cases ended
      · have HQ : Hid (prL (pre ++ [⟨(y, false), hy⟩]) = ([], 3)) := by
          show _ = _
          rw [HS.out, if_neg h200]; simp
        clear h200 HS
        gi_wp2
        refine ⟨keeps_two _ _ _ _ _, ?_⟩
        exact leave_ok hr2 hr3 hB HQ.out (by decide)
      · have cI := instr_any (bs y) (by rw [bs_size]; exact hy) W (HE.out.below hB)
        rw [bs_data] at cI
        obtain ⟨⟨⟨o, a, b⟩, E⟩, hr⟩ : ∃ r, r = ins y := ⟨_, rfl⟩
        rw [← hr] at cI
        have HS2 := HS.out
        simp only [← hr] at HS2
        rw [if_neg h200] at HS2
        have CI := Lib.hid cI
        by_cases hE0 : E = 0
        · subst hE0
          have HQ : Hid (prL (pre ++ [⟨(y, true), hy⟩]) = (L ++ [(o, a, b)], 0)) := by
            show _ = _
            rw [HS2]; simp
          clear HS2 HS cI hr
          gi_wp2_with fail
          refine ⟨trivial, (CallsIn.inRound l (callsIn_wide.2 CI.out)).mono ?_⟩
          rintro e w2 ⟨rfl, hb⟩
          have hk1 : KeepsFrom W0.heap.size W w2 := keeps_below hb
          have hv2 := boxed_below hv hb
          have hr22 := boxed_below hr2 hb
          have hr32 := boxed_below hr3 hb
          have hrow2 := own_below hrow hb
          have hB2 := keep_below hB hb
          have hbW : Below w.heap.size W w2 := hb.mono hB.size
          have hs2 := hB2.size
          have hc42 := hv2.cell
          have hf42 := hv2.frozen
          have hlt4 := hv2.lt
          clear hv hr2 hr3 hrow hb hc4 hc2 hc3 hf2 hf3 CI
          gi_wp2_with (gi_at_builtin; refine wpListIn_append_own _ rfl _ _ 22 rfl w.heap.size 24 i0 (.agg #[.int .i64 0, .int .i64 0, .int .i64 0]) 3 24 Tryd.underlying22 hi hz0 hz1 hz2 rfl (by decide) _ _ _ rfl ((hrow2.alloc _).alloc _) ⟨w2.heap.size + 1, 0, none⟩ 1 1 [.int .i64 o, .int .i64 a, .int .i64 b] rfl rfl ?c1 ?c2 ?c3 ?c4 ?c5 ?_)
          case c1 =>
            intro j u hj
            match j, hj with
            | 0, hj => simp at hj; subst hj; simp [Addr.add]
            | 1, hj => simp at hj; subst hj; simp [Addr.add]
            | 2, hj => simp at hj; subst hj; simp [Addr.add]
          case c2 => intro u hu; simp at hu; rcases hu with rfl | rfl | rfl <;> rfl
          case c3 => unfold maxLen; omega
          case c4 => omega
          case c5 => simp; omega
          intro v' w3 hown' hgrow _
          obtain ⟨hv1, hv3, hr3', hk2, hb2⟩ := (hv2.alloc (.cells #[.int .i64 o, .int .i64 a, .int .i64 b] 24)).appended (by decide) (hrow2.alloc _) (by simp; omega) (by omega) hown' hgrow
          have q2 := ((hr22.alloc (.cells #[.int .i64 o, .int .i64 a, .int .i64 b] 24)).alloc (.cells #[.int .i64 o, .int .i64 a, .int .i64 b] 24)).kept hgrow (((hr22.alloc (.cells #[.int .i64 o, .int .i64 a, .int .i64 b] 24)).alloc (.cells #[.int .i64 o, .int .i64 a, .int .i64 b] 24)).not_row (by decide) ((hrow2.alloc _).alloc _))
          have q3 := ((hr32.alloc (.cells #[.int .i64 o, .int .i64 a, .int .i64 b] 24)).alloc (.cells #[.int .i64 o, .int .i64 a, .int .i64 b] 24)).kept hgrow (((hr32.alloc (.cells #[.int .i64 o, .int .i64 a, .int .i64 b] 24)).alloc (.cells #[.int .i64 o, .int .i64 a, .int .i64 b] 24)).not_row (by decide) ((hrow2.alloc _).alloc _))
          obtain ⟨g', cap', rfl⟩ := ownsRow_succ hown'
          have hc1 := hv1.cell
          have hf1 := hv1.frozen
          gi_wp2
          have hown3 : (w3.setCell ⟨w.heap.size + 1 + 1, 0, none⟩ (.slice (some ⟨g', 0, none⟩) (L.length + 1) cap')).ownsRow w.heap.size 24 3 (.slice (some ⟨g', 0, none⟩) (L.length + 1) cap') (prL (pre ++ [⟨(y, true), hy⟩])).1.length (cellsI (prL (pre ++ [⟨(y, true), hy⟩])).1) := by
            rw [HQ.out]
            simp only
            rw [cellsI_snoc, List.length_append]; exact hr3'
          have q1 : (prL (pre ++ [⟨(y, true), hy⟩])).2 = 0 := by rw [HQ.out]
          have hbA : Below w.heap.size W (w2.alloc (.cells #[.int .i64 o, .int .i64 a, .int .i64 b] 24)) := hbW.alloc hs2 _
          exact ⟨(hk1.trans ((KeepsOthers.alloc w2 _).from _)).trans (hk2.from _), hbA.trans hb2, ⟨⟨⟨⟨_, hv3, hown3, trivial⟩, q2.kept (grownBy_setCell' _ _ _) (by simp; omega)⟩, q3.kept (grownBy_setCell' _ _ _) (by simp)⟩, q1⟩, (hB2.alloc hs2 _).trans hb2⟩
        · have HQ : Hid (prL (pre ++ [⟨(y, true), hy⟩]) = ([], E)) := by
            show _ = _
            rw [HS2]; simp [hE0]
          have hE1 : (E != 0) = true := by simpa using hE0
          clear HS2 HS cI hr
          gi_wp2_with fail
          refine ⟨trivial, (CallsIn.inRound l (callsIn_wide.2 CI.out)).mono ?_⟩
          rintro e w2 ⟨rfl, hb⟩
          have hk1 : KeepsFrom W0.heap.size W w2 := keeps_below hb
          have hr22 := boxed_below hr2 hb
          have hr32 := boxed_below hr3 hb
          have hB2 := keep_below hB hb
          have hs2 := hB2.size
          have hc22 := hr22.cell
          have hc32 := hr32.cell
          have hf22 := hr22.frozen
          have hf32 := hr32.frozen
          have hlt2 := hr22.lt
          have hlt3 := hr32.lt
          clear hv hr2 hr3 hrow hb hc4 hc2 hc3 hf2 hf3 CI
          gi_wp2
          refine ⟨hk1.trans (((KeepsOthers.setCell _ _ _).trans ((KeepsOthers.setCell _ _ _).trans (KeepsOthers.alloc _ _))).from _), ?_⟩
          have hl := leave_ok hr22 hr32 hB2 HQ.out hE0
          exact ⟨⟨⟨hl.1.1.1.alloc _, hl.1.1.2.alloc _⟩, hl.1.2⟩, hl.2.alloc (by simp; omega) _⟩
  case done =>
    rintro D ys W hD rfl ⟨⟨⟨⟨⟨v, hv, hrow, _⟩, hr2⟩, hr3⟩, hp0⟩, hB⟩ hK
    obtain ⟨L, hL⟩ : ∃ L, prL ys = (L, 0) := ⟨(prL ys).1, by rw [← hp0]⟩
    have HP2 : Hid (parse s.data.toList = (L, 0)) := by show _ = _; rw [HP.out, hL]
    rw [hL] at hrow
    simp only at hrow
    obtain ⟨A, n, c, rfl, rfl, hRow⟩ := own_form hrow
    have hc4 := hv.cell
    have hc2 := hr2.cell
    have hc3 := hr3.cell
    have hf2 := hr2.frozen
    have hf3 := hr3.frozen
    have hn1 : ¬ w.heap.size = w.heap.size + 1 := by omega
    have hn2 : ¬ w.heap.size + 1 = w.heap.size := by omega
    gi_wp2
    obtain ⟨k2, k3⟩ := two_set hr2 hr3 (.slice A L.length c) (.int .i64 0)
    have hK2 : ((W.setCell ⟨w.heap.size, 0, none⟩ (.slice A L.length c)).setCell ⟨w.heap.size + 1, 0, none⟩ (.int .i64 0)).heap[D]? = some (.deferred (some [])) :=
      ((KeepsOthers.setCell _ _ _).trans (KeepsOthers.setCell _ _ _)).same D _ hK rfl
    have hB2 : Below w.heap.size w ((W.setCell ⟨w.heap.size, 0, none⟩ (.slice A L.length c)).setCell ⟨w.heap.size + 1, 0, none⟩ (.int .i64 0)) :=
      (hB.setCell (p := ⟨w.heap.size, 0, none⟩) (Nat.le_refl _) _).setCell (p := ⟨w.heap.size + 1, 0, none⟩) (Nat.le_succ _) _
    have own2 := hrow.kept (grownBy_setCell' W w.heap.size (.slice A L.length c)) (.inr (hr2.not_row (by decide) hrow).symm)
    have own3 := own2.kept (grownBy_setCell' _ (w.heap.size + 1) (.int .i64 0)) (.inr (((hr3.kept (grownBy_setCell' W w.heap.size (.slice A L.length c)) (by simp)).not_row (by decide) own2).symm))
    have own4 := ownsRow_putObj own3 (.deferred none) hK2 rfl
    generalize ((W.setCell ⟨w.heap.size, 0, none⟩ (.slice A L.length c)).setCell ⟨w.heap.size + 1, 0, none⟩ (.int .i64 0)) = W5 at k2 k3 hK2 hB2 own4 ⊢
    refine ⟨by simp, .inl ⟨_, _, rfl, run_takeDeferred hK2, ?_⟩⟩
    have c2 := cell_kept k2.cell (grownBy_putObj' W5 D (.deferred none)) (fun r e => by cases e; exact ⟨_, hK2, rfl⟩)
    have c3 := cell_kept k3.cell (grownBy_putObj' W5 D (.deferred none)) (fun r e => by cases e; exact ⟨_, hK2, rfl⟩)
    rw [HP2.out]
    obtain ⟨A', n', c', hv', hn', hRow'⟩ := own_form own4
    injection hv' with e1 e2 e3
    subst e1 e2 e3
    exact ⟨.tuple #[.slice A L.length c, .int .i64 0], by simp [results, Tryd.results15, go_sem, c2, c3], A, L.length, c, rfl, hRow', hB2.trans (belowK_b (w := w) (Nat.le_refl _) W5 D _ _ (by omega) hK2 rfl rfl)⟩
  case stop =>
    rintro D c pre W hD hsp ⟨⟨⟨hr2, hr3⟩, rfl, hne⟩, hB⟩ hK
    obtain ⟨rest, hrest⟩ := hsp
    have hpar : prL xs = ([], (prL pre).2) := by
      have h1 : prL xs = prL pre := by
        rw [← hrest]
        unfold prL at hne ⊢
        rw [List.map_append, pr_append, if_neg hne]
      have h2 : (prL pre).1 = [] := pr_err (pre.map Subtype.val) [] _ _ rfl hne
      rw [h1, ← h2]
    rw [HP.out, hpar]
    gi_wp2
    refine ⟨by simp, .inl ⟨_, _, rfl, run_takeDeferred hK, ?_⟩⟩
    have c2 := cell_kept hr2.cell (grownBy_putObj' W D (.deferred none)) (fun r e => by cases e; exact ⟨_, hK, rfl⟩)
    have c3 := cell_kept hr3.cell (grownBy_putObj' W D (.deferred none)) (fun r e => by cases e; exact ⟨_, hK, rfl⟩)
    exact ⟨.tuple #[.slice none 0 0, .int .i64 (prL pre).2], by simp [results, Tryd.results15, go_sem, c2, c3], none, 0, 0, rfl, RowI.nil _ _, hB.trans (belowK_b (w := w) (Nat.le_refl _) W D _ _ (by omega) hK rfl rfl)⟩
theorem parse_any (s : ByteArray) (hs : s.size ≤ 1000000) (w : World) (hE : Env w) : Calls Tryd.prog 15 #[.string s] w (GotR (parse s.data.toList) w) := callsIn_wide.1 (parse_in s hs w hE)
end Go.Proofs.YtofmlodfhdjjiaaDoor
