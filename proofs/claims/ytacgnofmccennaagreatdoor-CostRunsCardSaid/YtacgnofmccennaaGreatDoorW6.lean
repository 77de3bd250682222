/- What is proved here: the walk of the law CostRuns. Condition: the table of names holds what its initialiser lays ('Nms'). -/
import Derived.Test.YtacgnofmccennaaGreatDoorK9
import Derived.Test.YtacgnofmccennaaGreatDoorLp8
import Derived.Test.YtacgnofmccennaaGreatDoorCn
namespace Go.Proofs.YtacgnofmccennaaGreatDoor
open Go.ChangeShapes Go.WideShapes Go.RowKit Go.Maps

/-- What New tells of a row that it does not take. -/
theorem GotM.bad {L : List (Int × Int × Int)} {w : World} {e : Ending} {w' : World} (h : GotM L w e w') (t : ¬ Takes L) :
    e = .returned (.tuple #[.pointer none, .int .i64 (rE L)]) ∧ Below w.heap.size w w' := by
  obtain ⟨hb, h⟩ := h
  rcases h with h | h | h
  · exact ⟨by rw [h.2]; unfold rE; rw [if_neg h.1], hb⟩
  · exact ⟨by rw [h.2.2]; unfold rE; rw [if_pos h.1], hb⟩
  · exact absurd ⟨h.1, h.2.1⟩ t
theorem rE_takes {L : List (Int × Int × Int)} : Takes L ↔ rE L = 0 := ⟨fun t => rE_of t.l t.t, fun h => ⟨(rE_zero h).1, (rE_zero h).2⟩⟩
theorem RowP.chg {F F' : Nat → Prop} {x : Nat} {w w' : World} {a : Option Addr} {n : Nat} {l : List (Int × Int)} (h : RowP w a n l) (g : Chg F F' x w w') (hf : ∀ p, a = some p → ¬ F p.block ∧ p.block ≠ x) : RowP w' a n l := by
  refine ⟨h.1, fun hn => ?_⟩
  obtain ⟨b, off, e, hlt, hc⟩ := h.2 hn
  obtain ⟨h1, h2⟩ := hf _ e
  exact ⟨b, off, e, Nat.lt_of_lt_of_le hlt g.size, fun i hi => ⟨g.cell (hc i hi).1 h1 h2, g.cell (hc i hi).2 h1 h2⟩⟩
theorem RowP.setOther {w : World} {a : Option Addr} {n : Nat} {l : List (Int × Int)} {g i : Nat} (u : Value) (h : RowP w a n l) (hf : ∀ p, a = some p → p.block ≠ g) : RowP (w.setCell ⟨g, i, none⟩ u) a n l := by
  refine ⟨h.1, fun hn => ?_⟩
  obtain ⟨b, off, e, hlt, hc⟩ := h.2 hn
  have h1 := hf _ e
  have hb : (w.setCell ⟨g, i, none⟩ u).heap[b]? = w.heap[b]? := Go.Deep.blk_setCell_other _ _ _ _ h1
  exact ⟨b, off, e, by simpa [World.setCell] using hlt, fun i hi => ⟨(World.cell?_of_block hb).trans (hc i hi).1, (World.cell?_of_block hb).trans (hc i hi).2⟩⟩
theorem getD_set8 {S : List Int} {i j : Nat} {u : Int} (h : S.length = 8) (hj : j < 8) : (S.set i u).getD j 0 = if j = i then u else S.getD j 0 := by
  rw [List.getD_eq_getElem?_getD, List.getElem?_set]
  by_cases e : j = i
  · rw [if_pos e, if_pos e.symm, if_pos (by rw [h]; omega)]; rfl
  · rw [if_neg e, if_neg (fun q => e q.symm), List.getD_eq_getElem?_getD]
/-- The rows beside a machine: the sections, and when blocks were locked. -/
structure Aux (F : Nat → Prop) (mb : Nat) (wr : World) (g : Nat) (a : Option Addr) (n : Nat) (l : List (Int × Int)) (S : List Int) : Prop where
  row : RowP wr a n l
  k : ∀ p, a = some p → Kept F mb wr p.block ∧ p.block ≠ g
  since : wr.rowIs g 3 8 (fun j => .int .i64 (S.getD j 0))
  kg : Kept F mb wr g
  len : S.length = 8
section
variable {F F' : Nat → Prop} {b mb g n : Nat} {wr w' w : World} {a : Option Addr} {l : List (Int × Int)} {S : List Int} {L : List (Int × Int × Int)} {x : V × List Int}
theorem Aux.chg (h : Aux F mb wr g a n l S) (c : Chg F F' mb wr w') : Aux F' mb w' g a n l S :=
  ⟨h.row.chg c (fun p hp => ⟨(h.k p hp).1.nf, (h.k p hp).1.ne⟩), fun p hp => ⟨(h.k p hp).1.chg c, (h.k p hp).2⟩, c.row h.since h.kg.nf h.kg.ne, h.kg.chg c, h.len⟩
theorem Aux.below (h : Aux F mb wr g a n l S) (c : Below wr.heap.size wr w') : Aux F mb w' g a n l S :=
  ⟨h.row.below c, fun p hp => ⟨(h.k p hp).1.below c, (h.k p hp).2⟩, h.since.of_block (c.block _ h.since.lt), h.kg.below c, h.len⟩
theorem Aux.set (h : Aux F mb wr g a n l S) (i : Nat) (u : Int) : Aux F mb (wr.setCell ⟨g, i, none⟩ (.int .i64 u)) g a n l (S.set i u) :=
  ⟨h.row.setOther _ (fun p hp => (h.k p hp).2), fun p hp => ⟨⟨by simpa [World.setCell] using (h.k p hp).1.lt, (h.k p hp).1.nf, (h.k p hp).1.ne⟩, (h.k p hp).2⟩,
    (h.since.set i (.int .i64 u)).congr (fun j hj => by
      rw [getD_set8 h.len hj]
      by_cases e : j = i
      · rw [if_pos e, if_pos e]
      · rw [if_neg e, if_neg e]),
    ⟨by simpa [World.setCell] using h.kg.lt, h.kg.nf, h.kg.ne⟩, by rw [List.length_set]; exact h.len⟩
theorem Run.set (h : Run w wr F b mb L x) (k : Kept F mb wr g) (hg : w.heap.size ≤ g) (i : Nat) (u : Value) : Run w (wr.setCell ⟨g, i, none⟩ u) F b mb L x where
  m := h.m.blocks (by simp [World.setCell]) (fun j hj => Go.Deep.blk_setCell_other _ _ _ _ (by intro e; have e' : j = g := e; exact k.nf (by rw [← e']; exact hj)))
  mem := ⟨h.mem.1, h.mem.2.setOther (fun e => k.ne e.symm) _⟩
  nf := h.nf
  low := h.low
  hmb := h.hmb
  bel := h.bel.setCell (p := ⟨g, i, none⟩) hg _
end

/-- What lies beside the machine as the run begins. -/
theorem aux_begin {w1 w3 w4 w5 : World} {F : Nat → Prop} {b mb n : Nat} {L : List (Int × Int × Int)} {v : V} {a : Option Addr} {l : List (Int × Int)} (hM : Mac w1 F b L v) (s1 : w1.heap.size ≤ w3.heap.size) (s4 : w3.heap.size ≤ w4.heap.size) (r4 : RowP w4 a n l)
    (new4 : ∀ p, a = some p → w3.heap.size ≤ p.block ∧ p.block < w4.heap.size) (g5 : Chg F F b w4 w5) (hmb : mb < w3.heap.size) : Aux F mb (w5.alloc (.cells (madeCells #[.int .i64 0] 8) 3)) w5.heap.size a n l (List.replicate 8 0) := by
  have hs5 := g5.size
  have hF : ∀ k, F k → k < w1.heap.size := hM.lt
  have hb := hF b hM.fb
  have hnF : ∀ p, a = some p → ¬ F p.block := fun p hp h => by have := hF _ h; have := new4 p hp; omega
  refine ⟨(r4.chg g5 (fun p hp => ⟨hnF p hp, by have := new4 p hp; omega⟩)).below (below_alloc _ _), fun p hp => ?_, (World.rowIs_made w5 _ 8 3).congr (fun j _ => ?_), ⟨by simp, fun h => ?_, by omega⟩, rfl⟩
  · obtain ⟨n1, n2⟩ := new4 p hp
    exact ⟨⟨by simp; omega, hnF p hp, by omega⟩, by omega⟩
  · have : (List.replicate 8 (0 : Int)).getD j 0 = 0 := by
      rw [List.getD_eq_getElem?_getD, List.getElem?_replicate]; split <;> rfl
    rw [this]
  · have := hF _ h; omega

attribute [local go_sem ↓] fold23
set_option maxHeartbeats 3000000 in
set_option maxRecDepth 100000 in
theorem runs_walk (a : Option Addr) (n c : Nat) (L : List (Int × Int × Int)) (l1 l2 : List Int) (hmx : n ≤ maxLen) (w : World) (hr : RowI w a n L) (h1 : l1.length = 16) (h2 : l2.length = 64) (hN : Nms w) :
    Calls Tryz.prog 3 #[.slice a n c, .agg (l1.map (Value.int .i64)).toArray, .agg (l2.map (Value.int .i64)).toArray] w fun e w' => e = .returned (.bool true) ∧ Below w.heap.size w w' := by
  have hm63 : n ≤ 9223372036854775807 := hmx
  have KN := Lib.hid (fun W (h : Below w.heap.size w W) => known9_any W (hN.below h))
  have BX := Lib.hid (box_any w l1 l2 h1 h2)
  obtain ⟨LA, hLA⟩ : ∃ LA, LA = l1.map (Value.int .i64) := ⟨_, rfl⟩
  obtain ⟨MA, hMA⟩ : ∃ MA, MA = l2.map (Value.int .i64) := ⟨_, rfl⟩
  rw [← hLA, ← hMA] at BX ⊢
  clear hLA hMA h1 h2
  have B2 := BX.out.bel
  by_cases h200 : 200 < n
  · have e1 : decide ((200 : Int) < (n : Int)) = true := by rw [decide_eq_true_iff]; omega
    clear hr hN BX
    go_enter Tryz.func3, Tryz.ntmps3
    go_wp2_with (go_at_call 4; refine (KN.out _ B2).mono ?_; rintro e w1 ⟨rfl, hb1⟩)
    go_ret
    exact ⟨rfl, keep_below B2 hb1⟩
  · have e1 : decide ((200 : Int) < (n : Int)) = false := by rw [decide_eq_false_iff_not]; omega
    have N1 := Lib.hid (new_any a n c L _ (hr.below B2) (hN.below B2))
    have hq2 := eqlp_nil
    have hq3 := eqlp_nn
    have c6 := fun W (h : Below w.heap.size w W) => worst_any a n c L W (hr.below h) (hN.below h)
    have c7 := fun W (h : Below w.heap.size w W) => best_any a n c L W (hr.below h) (hN.below h)
    have c8 := fun W (h : Below w.heap.size w W) => sections_any a n c L W (hr.below h) (hN.below h)
    obtain ⟨Wi, hWi⟩ : ∃ Wi, Wi = cW true L := ⟨_, rfl⟩
    obtain ⟨Bi, hBi⟩ : ∃ Bi, Bi = cW false L := ⟨_, rfl⟩
    obtain ⟨SA, hSA⟩ : ∃ SA, SA = sA L := ⟨_, rfl⟩
    rw [← hWi] at c6
    rw [← hBi] at c7
    rw [← hSA] at c8
    by_cases T : Takes L
    · have hrE := rE_takes.1 T
      have hM1 : Hid (∀ e w', GotM L ((w.alloc (.cells LA.toArray 23)).alloc (.cells MA.toArray 27)) e w' → ∃ b F, e = .returned (.tuple #[.pointer (some ⟨b, 0, none⟩), .int .i64 0]) ∧ Mac w' F b L fresh ∧ (∀ k, F k → ((w.alloc (.cells LA.toArray 23)).alloc (.cells MA.toArray 27)).heap.size ≤ k) ∧ Below ((w.alloc (.cells LA.toArray 23)).alloc (.cells MA.toArray 27)).heap.size ((w.alloc (.cells LA.toArray 23)).alloc (.cells MA.toArray 27)) w') := fun e w' h => by
        obtain ⟨h0, h⟩ := h
        rcases h with h | h | h
        · exact absurd T.l h.1
        · exact absurd T.t h.2.1
        · obtain ⟨b, F, h1, h2, h3⟩ := h.2.2; exact ⟨b, F, h1, h2, h3, h0⟩
      by_cases hc : cE true L = 0
      · have hc2 := cE_both hc
        rw [hc] at c6 c8
        rw [hc2] at c7
        have hu := (cE_zero hc).2
        have C6 := Lib.hid c6
        have C7 := Lib.hid c7
        have C8 := Lib.hid c8
        have hW : Wi = ((ub true L 0 + 1 : Nat) : Int) := by rw [hWi]; unfold cW; rw [if_pos hc]
        have hB : Bi = ((ub false L 0 + 1 : Nat) : Int) := by rw [hBi]; unfold cW; rw [if_pos hc2]
        clear c6 c7 c8 hWi hBi hrE
        by_cases hbig : 20000 < Wi
        · clear hr hN T h200 hc hc2 hu hW hB hSA
          go_enter Tryz.func3, Tryz.ntmps3
          go_wp2_with (first
            | (go_at_call 4; refine (KN.out _ (keep_below b3 b4)).mono ?_; rintro e w9 ⟨rfl, b9⟩)
            | (go_at_call 8; refine (C8.out _ b3).mono ?_; rintro e w4 ⟨a4, n4, c4, rfl, r4, b4, -⟩)
            | (go_at_call 7; refine (C7.out _ b2').mono ?_; rintro e w3 ⟨rfl, b3'⟩; have b3 := keep_below b2' b3')
            | (go_at_call 6; refine (C6.out _ (keep_below B2 b1)).mono ?_; rintro e w2 ⟨rfl, b2⟩; have b2' := keep_below (keep_below B2 b1) b2)
            | (go_at_call 5; refine N1.out.mono ?_; rintro e w1 hG; obtain ⟨b, F, rfl, hM, hlo, b1⟩ := hM1.out _ _ hG; clear hG))
          go_ret
          exact ⟨rfl, keep_below (keep_below b3 b4) b9⟩
        · obtain ⟨Wn, hWn⟩ : ∃ Wn, Wn = ub true L 0 + 1 := ⟨_, rfl⟩
          obtain ⟨Bn, hBn⟩ : ∃ Bn, Bn = ub false L 0 + 1 := ⟨_, rfl⟩
          rw [← hWn] at hW
          rw [← hBn] at hB
          have HWn := Lib.hid hWn
          have HBn := Lib.hid hBn
          have HWi := Lib.hid hW
          have HBi := Lib.hid hB
          have HW20 : Hid (Wn ≤ 20000) := by show _ ≤ _; omega
          have HT := Lib.hid T
          have HC := Lib.hid hc
          have HSA := Lib.hid hSA
          have HSL : Hid (SA.length ≤ 200) := by
            show _ ≤ _
            have h3 := sec_len L L.length
            rw [hSA, show sA L = sec L L.length by unfold sA; rw [if_pos hc]]
            have := hr.1; omega
          have hw1 : IntKind.i64.wrap (Wi + 1) = Wi + 1 := IntWalk.i64_in _ (by omega)
          have hbig2 : ¬ 20000 < Wi := hbig
          have hW0 : 0 ≤ Wi := by omega
          have LD : Hid (∀ W, Below ((w.alloc (.cells LA.toArray 23)).alloc (.cells MA.toArray 27)).heap.size ((w.alloc (.cells LA.toArray 23)).alloc (.cells MA.toArray 27)) W → (LD23 (.pointer (some ⟨w.heap.size, 0, none⟩))).run Tryz.prog W = .ok (.agg LA.toArray) W) := BX.out.ld
          have hmk : ∀ W : World, (Instr.makeSlice 39 (.int .i64 8) (.int .i64 8)).run Tryz.prog W = .ok (.slice (some ⟨W.heap.size, 0, none⟩) 8 8) (W.alloc (.cells (madeCells #[.int .i64 0] 8) 3)) := fun W => run_make_row' (P := Tryz.prog) 39 3 (.int .i64 0) 8 Tryz.underlying39 int_info rfl .i64 .i64 8 (by decide) (by decide) W
          have STR : Hid (∀ W, Below w.heap.size w W → Calls Tryz.prog 13 #[.slice a n c] W fun e w' => e = .returned (.bool (strt L)) ∧ Below W.heap.size W w') := fun W h => straight_any a n c L W (hr.below h) hm63
          clear hW hB hWn hBn hSA hr hN T h200 hc hc2 hu hbig
          go_enter Tryz.func3, Tryz.ntmps3
          go_wp2_with (first
            | (go_at_call 9; refine (BX.out.st _ F b L fresh hM4 rfl).mono ?_; rintro e w5 ⟨rfl, h5, g5⟩)
            | (go_at_call 8; refine (C8.out _ b3).mono ?_; rintro e w4 ⟨a4, n4, c4, rfl, r4, b4, new4⟩; have hM4 := (hM.below b23).below b4; have b14 := keep_below (keep_below b1 b23) b4; have LD4 := LD.out w4 b14)
            | (go_at_call 7; refine (C7.out _ b2').mono ?_; rintro e w3 ⟨rfl, b3'⟩; have b3 := keep_below b2' b3'; have b23 := keep_below b2 b3')
            | (go_at_call 6; refine (C6.out _ (keep_below B2 b1)).mono ?_; rintro e w2 ⟨rfl, b2⟩; have b2' := keep_below (keep_below B2 b1) b2)
            | (go_at_call 5; refine N1.out.mono ?_; rintro e w1 hG; obtain ⟨b, F, rfl, hM, hlo, b1⟩ := hM1.out _ _ hG; clear hG))
          have hs2 := BX.out.size
          have mem0 := BX.out.mem
          obtain ⟨mb, hmb⟩ : ∃ mb, mb = w.heap.size + 1 := ⟨_, rfl⟩
          rw [← hmb] at mem0 ⊢
          have hsb := b14.size
          have hs3 := b23.size
          have hs1 := b1.size
          have R5 : Run w w5 F b mb L (begun fresh.ret l1, l2) := Run.init B2 (by omega) (by omega) mem0 hlo b14 h5 g5
          have AX := aux_begin (mb := mb) hM hs3 b4.size r4 new4 g5 (by omega)
          have R6 := R5.alloc (.cells (madeCells #[.int .i64 0] 8) 3)
          have hgw : w.heap.size ≤ w5.heap.size := R5.bel.size
          obtain ⟨x0, hx0⟩ : ∃ x0, x0 = (begun fresh.ret l1, l2) := ⟨_, rfl⟩
          have FI : Hid (∀ k, Fine L (it L k x0).1) := fun k => by rw [hx0]; exact Fine.it (x := (begun fresh.ret l1, l2)) (Or.inl (HT.out.begun _ _)) HT.out k
          have WY : Hid (Way L Bn Wn 0 (it L 0 x0).1 (List.replicate 8 0)) := by rw [HBn.out, HWn.out, hx0]; exact Way.begun L _ _
          rw [← hx0] at R6
          have HR6 : Hid (Run w (w5.alloc (.cells (madeCells #[.int .i64 0] 8) 3)) F b mb L (it L 0 x0)) := R6
          have HA6 := Lib.hid AX
          generalize w5.alloc (.cells (madeCells #[.int .i64 0] 8) 3) = W6 at HR6 HA6 ⊢
          obtain ⟨g, hg⟩ : ∃ g, g = w5.heap.size := ⟨_, rfl⟩
          rw [← hg] at HA6 hgw ⊢
          clear hx0 R6 R5 AX mem0 hs2 hmb h5 g5 hg b1 b14 b23 b3 b3' b2 b2' b4 hM hM4 hlo new4 r4 hsb hs3 hs1 LD LD4 BX B2 hq2 hq3 hM1 N1 C6 C7 C8 hmk
          go_loopw [16] (fun i wr => ∃ (k : Nat) (F : Nat → Prop) (S : List Int), i = .int .i64 (k : Int) ∧ Hid (Run w wr F b mb L (it L k x0)) ∧ Hid (Way L Bn Wn k (it L k x0).1 S) ∧ Hid (Aux F mb wr g a4 n4 SA S)) (fun i _ => Wn + 1 - (intOf i).toNat)
          case atStart => exact ⟨0, F, List.replicate 8 0, rfl, HR6, WY, HA6⟩
          case round =>
            clear HR6 WY HA6
            obtain ⟨k, Fo, S, rfl, HR, HY, HA⟩ := hrel
            have Fk := FI.out k
            have hkW : k ≤ Wn := HY.out.le
            have hst := HY.out.st
            obtain ⟨x, hx⟩ : ∃ x, x = it L k x0 := ⟨_, rfl⟩
            have HX1 : Hid (it L (k + 1) x0 = nxt L x) := by show _ = _; rw [hx]; rfl
            rw [← hx] at HR HY Fk hst
            clear hx
            have i1 : (k : Int) < Wi + 1 := by rw [HWi.out]; omega
            have hWn := HW20.out
            have RN : Hid (∀ W F', Mac W F' b L x.1 → Calls Tryz.prog 10 #[.pointer (some ⟨b, 0, none⟩)] W fun e w' => e = .returned (.bool x.1.goes) ∧ W = w') := fun W F' h => running_any W F' b L x.1 h
            by_cases hgo : x.1.goes = true
            · have A : Agr L x.1 := by
                rcases Fk with h | h
                · exact h
                · rw [h.1] at hgo; cases hgo
              rw [hgo] at RN
              have hnx : nxt L x = stp L x.1 x.2 := by unfold nxt; rw [if_pos hgo]
              have STP := HR.out.step Fk HT.out
              rw [told_at hgo, ← HX1.out] at STP
              by_cases h23 : (at_ L x.1.pl).1 = 23
              · have hA := right_lock (HT.out.right A.pl) (Or.inl h23)
                obtain ⟨q, hq⟩ : ∃ q : Nat, (at_ L x.1.pl).2.1 = q := ⟨(at_ L x.1.pl).2.1.toNat, by omega⟩
                have hev : evt (at_ L x.1.pl) = (1, (q : Int)) := by unfold evt; rw [if_pos h23, hq]
                have HY2 : Hid (Way L Bn Wn (k + 1) (it L (k + 1) x0).1 (S.set q ((k + 1 : Nat) : Int))) := by
                  show Way L Bn Wn (k + 1) (it L (k + 1) x0).1 _
                  rw [HX1.out, hnx]
                  have := HY.out.lock A HT.out x.2 hWn h23
                  rw [hq, Int.toNat_natCast] at this; exact this
                obtain ⟨sp, hsp⟩ : ∃ sp : Int, sp = ((k + 1 : Nat) : Int) := ⟨_, rfl⟩
                have HP : Hid ((it L (k + 1) x0).1.stp = sp) := by show _ = _; rw [hsp]; exact HY2.out.st
                rw [← hsp] at HY2
                have ST : Hid (Calls Tryz.prog 11 #[.pointer (some ⟨b, 0, none⟩), .pointer (some ⟨mb, 0, none⟩)] wr fun e w' => e = .returned (.tuple #[.agg #[.int .i64 1, .int .i64 (q : Int)], .int .i64 0]) ∧ ∃ F', Run w w' F' b mb L (it L (k + 1) x0) ∧ Chg Fo F' mb wr w') := by
                  rw [hev] at STP; exact STP
                have d1 : decide ((q : Int) < 0) = false := by rw [decide_eq_false_iff_not]; omega
                have d2 : decide ((7 : Int) < (q : Int)) = false := by rw [decide_eq_false_iff_not]; omega
                have f1 : (0 : Int) ≤ (q : Int) := by omega
                have f2 : (q : Int) < 8 := by omega
                have hq8 : q < 8 := by omega
                clear hsp hev hq hA STP hnx A h23 hgo Fk hst hkW hWn HY
                go_wp2_with (first
                  | (go_at_call 11; refine ST.out.mono ?_; rintro e w6 ⟨rfl, F6, h6, g6⟩)
                  | (go_at_call 10; refine (RN.out _ Fo HR.out.m).mono ?_; rintro e w8 ⟨rfl, rfl⟩))
                obtain ⟨xb, hxb⟩ : ∃ xb, xb = w6.heap.size := ⟨_, rfl⟩
                have AX := (HA.out.chg g6).below (below_alloc w6 (.cells #[.int .i64 1, .int .i64 (q : Int)] 41))
                have R7 := h6.alloc (.cells #[.int .i64 1, .int .i64 (q : Int)] 41)
                have x1 := (Lib.cell_of_heap (new_block w6 (.cells #[.int .i64 1, .int .i64 (q : Int)] 41)) 1).trans (rfl : _ = some (Value.int .i64 (q : Int)))
                have x0c := (Lib.cell_of_heap (new_block w6 (.cells #[.int .i64 1, .int .i64 (q : Int)] 41)) 0).trans (rfl : _ = some (Value.int .i64 1))
                have hgx : w6.heap.size ≠ g := by have := (HA.out.chg g6).since.lt; omega
                generalize w6.alloc (.cells #[.int .i64 1, .int .i64 (q : Int)] 41) = W7 at AX R7 x1 x0c ⊢
                rw [← hxb] at x1 x0c hgx ⊢
                have x2c : (W7.setCell ⟨g, q, none⟩ (.int .i64 sp)).drew.cell? ⟨xb, 0, none⟩ = some (.int .i64 1) := (World.cell?_of_block (Go.Deep.blk_setCell_other _ _ _ _ hgx : (W7.setCell ⟨g, q, none⟩ (.int .i64 sp)).heap[xb]? = W7.heap[xb]?)).trans x0c
                have x3c : (W7.setCell ⟨g, q, none⟩ (.int .i64 sp)).cell? ⟨xb, 0, none⟩ = some (.int .i64 1) := x2c
                have m1 := AX.since.cell hq8
                have m2 := AX.since.frozen q
                have hgl := AX.since.lt
                have SP : Hid (∀ W F', Mac W F' b L (it L (k + 1) x0).1 → Calls Tryz.prog 12 #[.pointer (some ⟨b, 0, none⟩)] W fun e w' => e = .returned (.int .i64 sp) ∧ W = w') := fun W F' h => by
                  have := steps_any W F' b L _ h; rw [HP.out] at this; exact this
                have AX2 := Lib.hid (AX.set q sp)
                have R8 := Lib.hid (R7.set AX.kg hgw q (.int .i64 sp))
                have HM7 := Lib.hid R7.m
                clear AX R7 h6 g6 hxb ST RN d1 d2 HR HA
                obtain ⟨sv, hsv⟩ : ∃ sv, sv = S.getD q 0 := ⟨_, rfl⟩
                rw [← hsv] at m1
                clear hsv
                go_region_with (go_at_call 12; first | refine (SP.out _ _ HM7.out).mono ?_ | refine (SP.out _ _ HM7.out.drew).mono ?_; rintro e w9 ⟨rfl, rfl⟩)
                all_goals
                  go_wp2
                  go_roundw
                  case rel => exact ⟨k + 1, F6, S.set q sp, by go_num, R8.out.drew, HY2, AX2.out.below (Below.refl _ _).drew⟩
                  case measure => have := HWi.out; simp [intOf]; omega
              · by_cases h24 : (at_ L x.1.pl).1 = 24
                · have hA := right_lock (HT.out.right A.pl) (Or.inr (Or.inl h24))
                  obtain ⟨q, hq⟩ : ∃ q : Nat, (at_ L x.1.pl).2.1 = q := ⟨(at_ L x.1.pl).2.1.toNat, by omega⟩
                  have hev : evt (at_ L x.1.pl) = (2, (q : Int)) := by unfold evt; rw [if_neg h23, if_pos h24, hq]
                  have HY2 : Hid (Way L Bn Wn (k + 1) (it L (k + 1) x0).1 S) := by
                    show Way L Bn Wn (k + 1) (it L (k + 1) x0).1 _
                    rw [HX1.out, hnx]
                    exact HY.out.next A HT.out x.2 hWn h23
                  obtain ⟨j0, hj0, hjb, hjl⟩ := HY.out.freed A HT.out hWn h24 HC.out
                  rw [← HSA.out] at hj0 hjb hjl
                  rw [hq, Int.toNat_natCast] at hjl
                  rw [hq] at hjb
                  have hs0 := HY.out.s0 q
                  obtain ⟨sp, hsp⟩ : ∃ sp : Int, sp = ((k + 1 : Nat) : Int) := ⟨_, rfl⟩
                  have HP : Hid ((it L (k + 1) x0).1.stp = sp) := by show _ = _; rw [hsp]; exact HY2.out.st
                  obtain ⟨sv, hsv⟩ : ∃ sv, sv = S.getD q 0 := ⟨_, rfl⟩
                  have HSV := Lib.hid hsv
                  rw [← hsp, ← hsv] at hjl
                  rw [← hsv] at hs0
                  obtain ⟨nn, hnn⟩ : ∃ nn : Int, nn = sp - sv := ⟨_, rfl⟩
                  rw [← hnn] at hjl
                  have hw2 : IntKind.i64.wrap (sp - sv) = nn := by rw [hnn]; exact IntWalk.i64_in _ (by omega)
                  have HJ : Hid (j0 < SA.length ∧ (SA.getD j0 (0, 0)).1 = (q : Int) ∧ nn ≤ (SA.getD j0 (0, 0)).2) := ⟨hj0, hjb, hjl⟩
                  have ST : Hid (Calls Tryz.prog 11 #[.pointer (some ⟨b, 0, none⟩), .pointer (some ⟨mb, 0, none⟩)] wr fun e w' => e = .returned (.tuple #[.agg #[.int .i64 2, .int .i64 (q : Int)], .int .i64 0]) ∧ ∃ F', Run w w' F' b mb L (it L (k + 1) x0) ∧ Chg Fo F' mb wr w') := by
                    rw [hev] at STP; exact STP
                  have d1 : decide ((q : Int) < 0) = false := by rw [decide_eq_false_iff_not]; omega
                  have d2 : decide ((7 : Int) < (q : Int)) = false := by rw [decide_eq_false_iff_not]; omega
                  have f1 : (0 : Int) ≤ (q : Int) := by omega
                  have f2 : (q : Int) < 8 := by omega
                  have hq8 : q < 8 := by omega
                  clear hsp hsv hnn hev hq hA STP hnx A h23 h24 hgo Fk hst hkW hWn HY hj0 hjb hjl hs0
                  go_wp2_with (first
                    | (go_at_call 11; refine ST.out.mono ?_; rintro e w6 ⟨rfl, F6, h6, g6⟩)
                    | (go_at_call 10; refine (RN.out _ Fo HR.out.m).mono ?_; rintro e w8 ⟨rfl, rfl⟩))
                  obtain ⟨xb, hxb⟩ : ∃ xb, xb = w6.heap.size := ⟨_, rfl⟩
                  have AX := (HA.out.chg g6).below (below_alloc w6 (.cells #[.int .i64 2, .int .i64 (q : Int)] 41))
                  have R7 := h6.alloc (.cells #[.int .i64 2, .int .i64 (q : Int)] 41)
                  have x1 := (Lib.cell_of_heap (new_block w6 (.cells #[.int .i64 2, .int .i64 (q : Int)] 41)) 1).trans (rfl : _ = some (Value.int .i64 (q : Int)))
                  generalize w6.alloc (.cells #[.int .i64 2, .int .i64 (q : Int)] 41) = W7 at AX R7 x1 ⊢
                  rw [← hxb] at x1 ⊢
                  have m1 := AX.since.cell hq8
                  rw [← HSV.out] at m1
                  have HD : Hid (∀ m, Calls Tryz.prog 12 #[.pointer (some ⟨b, 0, none⟩)] (W7.drewN m) fun e w' => e = .returned (.int .i64 sp) ∧ w' = W7.drewN m) := fun m => by
                    have := steps_any (W7.drewN m) F6 b L _ (R7.m.below (below_drewN' (Below.refl _ _) m))
                    rw [HP.out] at this
                    exact this.mono (fun e w' h => ⟨h.1, h.2.symm⟩)
                  have HB7 : Hid (∀ m, Below W7.heap.size W7 (W7.drewN m)) := fun m => below_drewN' (Below.refl _ _) m
                  have HAX := Lib.hid AX
                  have HR7 := Lib.hid R7
                  clear AX R7 h6 g6 hxb ST RN d1 d2 HR HA
                  go_quiet (exact Calls.quiet_of_same (HD.out _))
                  clear m1 f1 f2
                  go_wp2
                  have hn4 : n4 = SA.length := HAX.out.row.1
                  have HN4 := Lib.hid hn4
                  have hn4b : n4 ≤ 200 := by rw [hn4]; exact HSL.out
                  clear hn4 HD
                  go_loopw [20, 21] (fun okv kv wq => ∃ (q2 : Nat) (z : Bool), q2 ≤ n4 ∧ kv = .int .i64 (q2 : Int) ∧ okv = .bool z ∧ Hid (z = true ∨ q2 ≤ j0) ∧ Below W7.heap.size W7 wq) (fun _ kv _ => n4 - (intOf kv).toNat)
                  case atStart => exact ⟨0, false, by omega, rfl, rfl, Or.inr (Nat.zero_le _), HB7.out _⟩
                  case round =>
                    obtain ⟨q2, z, hq2, rfl, rfl, HZ, bq⟩ := hrel
                    by_cases hlt : q2 < n4
                    · obtain ⟨b7, o7, p1, p2, rfl, hb7, hx7, y1, y2⟩ := (HAX.out.row.below bq).at_ hlt
                      have x1q := keep_cell bq x1
                      have f3 : (0 : Int) ≤ (q2 : Int) := by omega
                      have f4 : (q2 : Int) < (n4 : Int) := by omega
                      have hg2 : SA.getD q2 (0, 0) = (p1, p2) := by rw [List.getD_eq_getElem?_getD, hx7]; rfl
                      cases z
                      · have hz2 : q2 ≤ j0 := by
                          rcases HZ.out with h | h
                          · cases h
                          · exact h
                        have HJ2 : Hid (q2 = j0 → p1 = (q : Int) ∧ nn ≤ p2) := fun e => by
                          have := HJ.out; rw [← e, hg2] at this; exact this.2
                        by_cases e : p1 = (q : Int)
                        · subst e
                          cases le : decide (nn ≤ p2)
                          · have hz3 : q2 + 1 ≤ j0 := by
                              rcases Nat.lt_or_ge q2 j0 with h | h
                              · exact h
                              · have := (HJ2.out (by omega)).2
                                have := of_decide_eq_false le; omega
                            have HZ3 : Hid (false = true ∨ q2 + 1 ≤ j0) := Or.inr hz3
                            clear hz2 hz3 hg2 hx7
                            go_wp2
                            go_quiet (fail)
                            go_wp2
                            go_roundw
                            case rel => exact ⟨q2 + 1, false, by omega, by go_num, by go_num, HZ3, bq.trans (below_drewN' (Below.refl _ _) _)⟩
                            case measure => simp [intOf]; omega
                          · clear hz2 hg2 hx7
                            go_wp2
                            go_quiet (fail)
                            go_wp2
                            go_roundw
                            case rel => exact ⟨q2 + 1, true, by omega, by go_num, by go_num, Or.inl rfl, bq.trans (below_drewN' (Below.refl _ _) _)⟩
                            case measure => simp [intOf]; omega
                        · have hz3 : q2 + 1 ≤ j0 := by
                            rcases Nat.lt_or_ge q2 j0 with h | h
                            · exact h
                            · exact absurd (HJ2.out (by omega)).1 e
                          have HZ3 : Hid (false = true ∨ q2 + 1 ≤ j0) := Or.inr hz3
                          have e' : (p1 == (q : Int)) = false := by simpa using e
                          clear hz2 hz3 hg2 hx7
                          go_wp2
                          go_quiet (fail)
                          go_wp2
                          go_roundw
                          case rel => exact ⟨q2 + 1, false, by omega, by go_num, by go_num, HZ3, bq.trans (below_drewN' (Below.refl _ _) _)⟩
                          case measure => simp [intOf]; omega
                      · clear hg2 hx7
                        go_wp2
                        go_quiet (fail)
                        go_wp2
                        go_roundw
                        case rel => exact ⟨q2 + 1, true, by omega, by go_num, by go_num, Or.inl rfl, bq.trans (below_drewN' (Below.refl _ _) _)⟩
                        case measure => simp [intOf]; omega
                    · have hz : z = true := by
                        rcases HZ.out with h | h
                        · exact h
                        · have h1 := HJ.out.1
                          have h2 := HN4.out
                          omega
                      subst hz
                      have hbq := Lib.hid bq
                      clear bq
                      go_wp2
                      go_roundw
                      case rel => exact ⟨k + 1, F6, S, by go_num, HR7.out.below hbq.out, HY2, HAX.out.below hbq.out⟩
                      case measure => have := HWi.out; simp [intOf]; omega
                · have HY2 : Hid (Way L Bn Wn (k + 1) (it L (k + 1) x0).1 S) := by
                    show Way L Bn Wn (k + 1) (it L (k + 1) x0).1 _
                    rw [HX1.out, hnx]
                    exact HY.out.next A HT.out x.2 hWn h23
                  obtain ⟨t1, ht1, e1', e2'⟩ : ∃ t1 : Int, evt (at_ L x.1.pl) = (t1, 0) ∧ (t1 == 1) = false ∧ (t1 == 2) = false := by
                    unfold evt
                    rw [if_neg h23, if_neg h24]
                    by_cases h25 : (at_ L x.1.pl).1 = 25
                    · rw [if_pos h25]; exact ⟨3, rfl, rfl, rfl⟩
                    · rw [if_neg h25]; exact ⟨0, rfl, rfl, rfl⟩
                  have ST : Hid (Calls Tryz.prog 11 #[.pointer (some ⟨b, 0, none⟩), .pointer (some ⟨mb, 0, none⟩)] wr fun e w' => e = .returned (.tuple #[.agg #[.int .i64 t1, .int .i64 0], .int .i64 0]) ∧ ∃ F', Run w w' F' b mb L (it L (k + 1) x0) ∧ Chg Fo F' mb wr w') := by
                    rw [ht1] at STP; exact STP
                  clear ht1 STP hnx A h23 h24 hgo Fk hst hkW hWn HY
                  go_wp2_with (first
                    | (go_at_call 11; refine ST.out.mono ?_; rintro e w6 ⟨rfl, F6, h6, g6⟩)
                    | (go_at_call 10; refine (RN.out _ Fo HR.out.m).mono ?_; rintro e w8 ⟨rfl, rfl⟩))
                  go_roundw
                  case rel => exact ⟨k + 1, F6, S, by go_num, h6.alloc _, HY2, (HA.out.chg g6).below (below_alloc _ _)⟩
                  case measure => have := HWi.out; simp [intOf]; omega
            · have hgf : x.1.goes = false := by simpa using hgo
              obtain ⟨hf1, hf2⟩ := HY.out.fin hgf
              rw [hgf] at RN
              have SP : Hid (∀ W F', Mac W F' b L x.1 → Calls Tryz.prog 12 #[.pointer (some ⟨b, 0, none⟩)] W fun e w' => e = .returned (.int .i64 (k : Int)) ∧ W = w') := fun W F' h => by
                have := steps_any W F' b L x.1 h; rw [hst] at this; exact this
              have hB2 := HBi.out
              have hW2 := HWi.out
              have STR2 := STR.out wr HR.out.bel
              have hstr : strt L = true → Bn = Wn := fun h => by
                have := ub_strt h 0
                rw [HBn.out, HWn.out, this]
              obtain ⟨z, hz⟩ : ∃ z, z = strt L := ⟨_, rfl⟩
              rw [← hz] at STR2 hstr
              have HS2 := Lib.hid STR2
              clear hz STR2
              cases z
              · have d1 : decide (Bi ≤ (k : Int)) = true := by rw [decide_eq_true_iff]; omega
                have d2 : decide ((k : Int) ≤ Wi) = true := by rw [decide_eq_true_iff]; omega
                clear hB2 hW2 hstr hst hgf hgo Fk hf1 hf2
                go_wp2_with (first
                  | (go_at_call 4; refine (KN.out _ (keep_below HR.out.bel b7)).mono ?_; rintro e w9 ⟨rfl, b9⟩)
                  | (go_at_call 13; refine HS2.out.mono ?_; rintro e w7 ⟨rfl, b7⟩)
                  | (go_at_call 12; refine (SP.out _ Fo HR.out.m).mono ?_; rintro e w8 ⟨rfl, rfl⟩)
                  | (go_at_call 10; refine (RN.out _ Fo HR.out.m).mono ?_; rintro e w8 ⟨rfl, rfl⟩))
                go_ret
                exact ⟨rfl, keep_below (keep_below HR.out.bel b7) b9⟩
              · have hbw := hstr rfl
                obtain rfl : Wi = (k : Int) := by omega
                obtain rfl : Bi = (k : Int) := by omega
                clear hB2 hW2 hstr hst hgf hgo Fk hf1 hf2 hbw
                go_wp2_with (first
                  | (go_at_call 4; refine (KN.out _ (keep_below HR.out.bel b7)).mono ?_; rintro e w9 ⟨rfl, b9⟩)
                  | (go_at_call 13; refine HS2.out.mono ?_; rintro e w7 ⟨rfl, b7⟩)
                  | (go_at_call 12; refine (SP.out _ Fo HR.out.m).mono ?_; rintro e w8 ⟨rfl, rfl⟩)
                  | (go_at_call 10; refine (RN.out _ Fo HR.out.m).mono ?_; rintro e w8 ⟨rfl, rfl⟩))
                go_ret
                exact ⟨rfl, keep_below (keep_below HR.out.bel b7) b9⟩
      · obtain ⟨y, hy⟩ : ∃ y, y = cE true L := ⟨_, rfl⟩
        obtain ⟨y2, hy2⟩ : ∃ y2, y2 = cE false L := ⟨_, rfl⟩
        rw [← hy] at c6 c8 hc
        rw [← hy2] at c7
        have C6 := Lib.hid c6
        have C7 := Lib.hid c7
        have C8 := Lib.hid c8
        have q0 : (y != 0) = true := by simpa using hc
        clear c6 c7 c8 hWi hBi hrE hr hN T h200 hc hSA hy hy2
        go_enter Tryz.func3, Tryz.ntmps3
        go_wp2_with (first
          | (go_at_call 4; refine (KN.out _ (keep_below b3 b4)).mono ?_; rintro e w9 ⟨rfl, b9⟩)
          | (go_at_call 8; refine (C8.out _ b3).mono ?_; rintro e w4 ⟨a4, n4, c4, rfl, r4, b4, -⟩)
          | (go_at_call 7; refine (C7.out _ b2').mono ?_; rintro e w3 ⟨rfl, b3'⟩; have b3 := keep_below b2' b3')
          | (go_at_call 6; refine (C6.out _ (keep_below B2 b1)).mono ?_; rintro e w2 ⟨rfl, b2⟩; have b2' := keep_below (keep_below B2 b1) b2)
          | (go_at_call 5; refine N1.out.mono ?_; rintro e w1 hG; obtain ⟨b, F, rfl, hM, hlo, b1⟩ := hM1.out _ _ hG; clear hG))
        go_ret
        exact ⟨rfl, keep_below (keep_below b3 b4) b9⟩
    · have hrE : rE L ≠ 0 := fun h => T (rE_takes.2 h)
      rw [cE_bad hrE] at c6 c8
      rw [cE_bad hrE] at c7
      have hG1 : Hid (∀ e w', GotM L ((w.alloc (.cells LA.toArray 23)).alloc (.cells MA.toArray 27)) e w' → e = .returned (.tuple #[.pointer none, .int .i64 (rE L)]) ∧ Below ((w.alloc (.cells LA.toArray 23)).alloc (.cells MA.toArray 27)).heap.size ((w.alloc (.cells LA.toArray 23)).alloc (.cells MA.toArray 27)) w') := fun e w' h => h.bad T
      obtain ⟨y, hy⟩ : ∃ y, y = rE L := ⟨_, rfl⟩
      rw [← hy] at c6 c7 c8 hrE hG1
      have C6 := Lib.hid c6
      have C7 := Lib.hid c7
      have C8 := Lib.hid c8
      have q0 : (y != 0) = true := by simpa using hrE
      have q1 : (y == 0) = false := by simpa using hrE
      clear c6 c7 c8 hWi hBi hrE hr hN T h200 hSA hy
      go_enter Tryz.func3, Tryz.ntmps3
      go_wp2_with (first
        | (go_at_call 4; refine (KN.out _ (keep_below b3 b4)).mono ?_; rintro e w9 ⟨rfl, b9⟩)
        | (go_at_call 8; refine (C8.out _ b3).mono ?_; rintro e w4 ⟨a4, n4, c4, rfl, r4, b4, -⟩)
        | (go_at_call 7; refine (C7.out _ b2').mono ?_; rintro e w3 ⟨rfl, b3'⟩; have b3 := keep_below b2' b3')
        | (go_at_call 6; refine (C6.out _ (keep_below B2 b1)).mono ?_; rintro e w2 ⟨rfl, b2⟩; have b2' := keep_below (keep_below B2 b1) b2)
        | (go_at_call 5; refine N1.out.mono ?_; rintro e w1 hG; obtain ⟨rfl, b1⟩ := hG1.out _ _ hG; clear hG))
      go_ret
      exact ⟨rfl, keep_below (keep_below b3 b4) b9⟩
end Go.Proofs.YtacgnofmccennaaGreatDoor
