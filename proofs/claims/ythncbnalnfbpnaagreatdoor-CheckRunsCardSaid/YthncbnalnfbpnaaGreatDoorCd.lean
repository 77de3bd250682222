/- What is proved here: contracts of check.Slots and check.Locked. Conditions: the image lies in memory; the table of names holds what its initialiser lays ('Nms'). -/
import Derived.Test.YthncbnalnfbpnaaGreatDoorCc
import Derived.Test.YthncbnalnfbpnaaGreatDoorGs
import Derived.Deep.OwnRows
namespace Go.Proofs.YthncbnalnfbpnaaGreatDoor
open Go.ChangeShapes Go.WideShapes Go.RowKit

set_option maxHeartbeats 2000000 in
set_option maxRecDepth 100000 in
theorem slots_any (x : ImV) (m : ImP) (i : Int) (w : World) (h : x.Is w m) (hN : Nms w) (r e0 : Int) (hq : taskE m i = e0) (hs : slW m i = r) :
    Calls Tryz.prog 8 #[x.v, .int .i64 i] w fun e w' => e = .returned (.tuple #[.int .i64 r, .int .i64 e0]) ∧ Below w.heap.size w w' := by
  have CT := Lib.hid (fun W (hb : Below w.heap.size w W) => task_any x m i W (h.below hb) (hN.below hb) e0 hq)
  have hmx : x.tasks.n ≤ 140737488355328 := h.2.2.2.2.2.2.2
  by_cases z0 : e0 = 0
  · subst z0
    obtain ⟨h1, h2, h3, h4⟩ := taskE_zero hq
    obtain ⟨n1, n2, n3, n4, n5⟩ := numE_parts (imE_parts h1).1
    have hc := (wrE_zero h4).1
    have hu := (cE_zero hc).2
    have hlen : x.tasks.n = m.tasks.length := h.2.2.2.2.2.2.1.1
    obtain ⟨k, rfl⟩ : ∃ k : Nat, i = (k : Int) := ⟨i.toNat, by omega⟩
    obtain ⟨b, off, t, T, ha, hbl, hT, ht, hcs⟩ := h.task (k := k) (by omega)
    have eT : tkAt m (k : Int) = T := by unfold tkAt; rw [Int.toNat_natCast, List.getD_eq_getElem?_getD, hT]; rfl
    rw [eT] at hc hu
    obtain ⟨y, hy⟩ : ∃ y, y = cW true T.co := ⟨_, rfl⟩
    have hyb : 0 ≤ y ∧ y ≤ 1048576 := by rw [hy]; unfold cW; rw [if_pos hc]; omega
    have hr : r = m.sw + m.la + y + m.cm + m.sw := by rw [← hs, hy, ← eT]; unfold slW; rw [if_pos hq]
    obtain ⟨q1, q2, q3, -⟩ := h
    have CW := Lib.hid (fun W (hb : Below w.heap.size w W) => (by have := worst_any t.co.a t.co.n t.co.c T.co W (ht.2.2.2.2.2.2.1.below hb) (hN.below hb); rw [hc, ← hy] at this; exact this : Calls Tryz.prog 25 #[t.co.v] W fun e w' => e = .returned (.tuple #[.int .i64 y, .int .i64 0]) ∧ Below W.heap.size W w'))
    obtain ⟨sw, la, cm, inp, ⟨sa, sn, sc⟩, ⟨ba, bn, bc⟩, ⟨ta, tn, tc⟩⟩ := x
    obtain ⟨pr, pe, de, ji, ⟨xa, xn, xc⟩, ⟨oa, on, oc⟩, ⟨ca, cn, cc⟩⟩ := t
    simp only at ha q1 q2 q3 hlen hmx
    have C0 := Lib.hid (cells_new w #[.int .i64 sw, .int .i64 la, .int .i64 cm, .int .i64 inp, .slice sa sn sc, .slice ba bn bc, .slice ta tn tc] 26)
    have B0 := Lib.hid (below_alloc w (.cells #[.int .i64 sw, .int .i64 la, .int .i64 cm, .int .i64 inp, .slice sa sn sc, .slice ba bn bc, .slice ta tn tc] 26))
    subst ha
    rw [← q1] at hr n1
    rw [← q2] at hr n2
    rw [← q3] at hr n3
    simp only [ImV.v, Sl.v] at CT CW ⊢
    have s1 : IntKind.i64.wrap (sw + la) = sw + la := IntWalk.i64_in _ (by omega)
    have s2 : IntKind.i64.wrap (sw + la + y) = sw + la + y := IntWalk.i64_in _ (by omega)
    have s3 : IntKind.i64.wrap (sw + la + y + cm) = sw + la + y + cm := IntWalk.i64_in _ (by omega)
    have s4 : IntKind.i64.wrap (sw + la + y + cm + sw) = sw + la + y + cm + sw := IntWalk.i64_in _ (by omega)
    have i1 : (0 : Int) ≤ (k : Int) := h2
    have i2 : (k : Int) < (tn : Int) := by omega
    have d6 : w.cell? ⟨b, off + k * 7 + 6, none⟩ = some (.slice ca cn cc) := hcs 6 _ rfl
    have D6 := Lib.hid d6
    have HR := Lib.hid hr
    clear d6 hcs ht hT eT hy hr hc hu h4 hs hq h1 hN hyb n1 n2 n3 n4 n5 hlen q1 q2 q3 h3
    go_enter Tryz.func8, Tryz.ntmps8
    go_wp2_with (first
      | (go_at_call 25; refine (CW.out _ bb).mono ?_; rintro e w2 ⟨rfl, hb2⟩; have f0 := keep_cell hb2 c0; have f1 := keep_cell hb2 c1; have f2 := keep_cell hb2 c2)
      | (go_at_call 14; refine (CT.out _ B0.out).mono ?_; rintro e w1 ⟨rfl, hb1⟩; have bb := keep_below B0.out hb1; have c0 := keep_cell hb1 (C0.out 0 _ rfl); have c1 := keep_cell hb1 (C0.out 1 _ rfl); have c2 := keep_cell hb1 (C0.out 2 _ rfl); have c6 := keep_cell hb1 (C0.out 6 _ rfl); have d6 := keep_cell bb D6.out))
    go_ret2
    exact ⟨by rw [HR.out]; rfl, keep_below bb hb2⟩
  · have hz := locked_zero (m := m) (i := i) (by rw [hq]; exact z0)
    have HR : Hid (r = 0) := by show r = 0; rw [← hs]; exact hz.2
    have e1 : (e0 == 0) = false := by simpa using z0
    have e2 : (e0 != 0) = true := by simpa using z0
    clear hz hs hq h hN z0
    obtain ⟨sw, la, cm, inp, ⟨sa, sn, sc⟩, ⟨ba, bn, bc⟩, ⟨ta, tn, tc⟩⟩ := x
    simp only [ImV.v, Sl.v] at CT ⊢
    go_enter Tryz.func8, Tryz.ntmps8
    go_wp2_with (refine (CT.out _ (below_alloc _ _)).mono ?_; rintro e w1 ⟨rfl, hb1⟩)
    go_ret2
    exact ⟨by rw [HR.out]; rfl, keep_below (below_alloc _ _) hb1⟩
/-- What a call leaves that tells a new row of ints and an error. -/
def GotLk (l : List Int) (x : Int) (w : World) (e : Ending) (w' : World) : Prop :=
  ∃ a n c, e = .returned (.tuple #[.slice a n c, .int .i64 x]) ∧ Row w' a n l ∧ Below w.heap.size w w' ∧ ∀ p, a = some p → w.heap.size ≤ p.block ∧ p.block < w'.heap.size
set_option maxHeartbeats 2000000 in
set_option maxRecDepth 100000 in
theorem locked_any (x : ImV) (m : ImP) (i : Int) (w : World) (h : x.Is w m) (hN : Nms w) (e0 : Int) (l : List Int) (hq : taskE m i = e0) (hs : lkA m i = l) :
    Calls Tryz.prog 10 #[x.v, .int .i64 i] w (GotLk l e0 w) := by
  unfold GotLk
  have CT := Lib.hid (fun W (hb : Below w.heap.size w W) => task_any x m i W (h.below hb) (hN.below hb) e0 hq)
  have hmx : x.tasks.n ≤ 140737488355328 := h.2.2.2.2.2.2.2
  by_cases z0 : e0 = 0
  · subst z0
    obtain ⟨h1, h2, h3, h4⟩ := taskE_zero hq
    have hc := (wrE_zero h4).1
    have hlen : x.tasks.n = m.tasks.length := h.2.2.2.2.2.2.1.1
    obtain ⟨k, rfl⟩ : ∃ k : Nat, i = (k : Int) := ⟨i.toNat, by omega⟩
    obtain ⟨b, off, t, T, ha, hbl, hT, ht, hcs⟩ := h.task (k := k) (by omega)
    have eT : tkAt m (k : Int) = T := by unfold tkAt; rw [Int.toNat_natCast, List.getD_eq_getElem?_getD, hT]; rfl
    rw [eT] at hc
    obtain ⟨y, hy⟩ : ∃ y, y = sA T.co := ⟨_, rfl⟩
    have hyb : y.length ≤ 200 := by
      rw [hy]; unfold sA; rw [if_pos hc]
      have h5 := sec_len T.co T.co.length
      have := (wE_len (lE_zero (rE_zero (cE_zero hc).1).1).1).2
      omega
    have hr : l = y.map (·.2) := by rw [← hs, hy, ← eT]; unfold lkA; rw [if_pos hq]
    have CS := Lib.hid (fun W (hb : Below w.heap.size w W) => (by have := sections_any t.co.a t.co.n t.co.c T.co W (ht.2.2.2.2.2.2.1.below hb) (hN.below hb); rw [hc, ← hy] at this; exact this : Calls Tryz.prog 27 #[t.co.v] W (GotP y 0 W)))
    unfold GotP at CS
    obtain ⟨sw, la, cm, inp, ⟨sa, sn, sc⟩, ⟨ba, bn, bc⟩, ⟨ta, tn, tc⟩⟩ := x
    obtain ⟨pr, pe, de, ji, ⟨xa, xn, xc⟩, ⟨oa, on, oc⟩, ⟨ca, cn, cc⟩⟩ := t
    simp only at ha hlen hmx
    have C0 := Lib.hid (cells_new w #[.int .i64 sw, .int .i64 la, .int .i64 cm, .int .i64 inp, .slice sa sn sc, .slice ba bn bc, .slice ta tn tc] 26)
    have B0 := Lib.hid (below_alloc w (.cells #[.int .i64 sw, .int .i64 la, .int .i64 cm, .int .i64 inp, .slice sa sn sc, .slice ba bn bc, .slice ta tn tc] 26))
    subst ha
    simp only [ImV.v, Sl.v] at CT CS ⊢
    have i1 : (0 : Int) ≤ (k : Int) := h2
    have i2 : (k : Int) < (tn : Int) := by omega
    have d6 : w.cell? ⟨b, off + k * 7 + 6, none⟩ = some (.slice ca cn cc) := hcs 6 _ rfl
    have D6 := Lib.hid d6
    have HR := Lib.hid hr
    obtain ⟨n2, hn2⟩ : ∃ n2, n2 = y.length := ⟨_, rfl⟩
    rw [← hn2] at hyb
    have HN2 := Lib.hid hn2
    have hmk := run_make_row' (P := Tryz.prog) 22 3 (.int .i64 0) 8 Tryz.underlying22 int_info rfl .i64 .i64 n2 (by omega) (by omega)
    clear d6 hcs ht hT eT hy hr hc h4 hs hq h1 hN hlen h3 hn2
    go_enter Tryz.func10, Tryz.ntmps10
    go_wp2_with (first
      | (go_at_call 27; refine (CS.out _ bb).mono ?_; rintro e w2 ⟨a2, n3, c2, rfl, hr2, hb2, hn2⟩; have hn3 : n3 = n2 := hr2.1.trans HN2.out.symm; subst hn3)
      | (go_at_call 14; refine (CT.out _ B0.out).mono ?_; rintro e w1 ⟨rfl, hb1⟩; have bb := keep_below B0.out hb1; have c6 := keep_cell hb1 (C0.out 6 _ rfl); have d6 := keep_cell bb D6.out))
    have bb2 := keep_below bb hb2
    have HB2 := Lib.hid bb2
    have hr3 := hr2.below (below_alloc w2 (.cells (madeCells #[.int .i64 0] n3) 3))
    have rI := World.rowIs_made w2 (.int .i64 0) n3 3
    have bb3 := keep_below bb2 (below_alloc w2 (.cells (madeCells #[.int .i64 0] n3) 3))
    have hsz : (w2.alloc (.cells (madeCells #[.int .i64 0] n3) 3)).heap.size = w2.heap.size + 1 := by simp
    obtain ⟨g, hg⟩ : ∃ g, g = w2.heap.size := ⟨_, rfl⟩
    have hgw : w.heap.size ≤ g := by rw [hg]; exact bb2.size
    have hr2n : ∀ p, a2 = some p → p.block ≠ g := fun p hp => by have := hn2 p hp; omega
    rw [← hg] at rI hsz ⊢
    clear CT CS C0 c6 d6 hmk hr2 hn2 hb2 bb hb1 bb2 hg
    generalize w2.alloc (.cells (madeCells #[.int .i64 0] n3) 3) = W3 at hr3 rI bb3 hsz ⊢
    have RP := Lib.hid hr3
    have RI0 : W3.rowIs g 3 n3 (fun j => .int .i64 (if j < 0 then (l.getD j 0) else 0)) := rI.congr (fun j _ => by rw [if_neg (by omega)])
    clear rI hr3
    go_loopw [36] (fun i wr => ∃ q : Nat, q ≤ n3 ∧ i = .int .i64 q ∧ wr.rowIs g 3 n3 (fun j => .int .i64 (if j < q then (l.getD j 0) else 0)) ∧ Hid (RowP wr a2 n3 y) ∧ Below w.heap.size w wr ∧ g < wr.heap.size) (fun i _ => n3 - (intOf i).toNat)
    case atStart => exact ⟨0, by omega, rfl, RI0, RP, bb3, by omega⟩
    case round =>
      obtain ⟨q, hq, rfl, rI, RP, hbl, hgl⟩ := hrel
      by_cases hlt : q < n3
      · obtain ⟨b7, o7, p1, p2, rfl, hb7, hx7, y1, y2⟩ := RP.out.at_ hlt
        have hne : b7 ≠ g := hr2n _ rfl
        have i3 : (0 : Int) ≤ (q : Int) := by omega
        have i4 : (q : Int) < (n3 : Int) := by omega
        have ec : wr.cell? ⟨g, q, none⟩ = some (.int .i64 0) := by have := rI.cell (i := q) hlt; rw [if_neg (by omega)] at this; exact this
        have ef := rI.frozen q
        have hp2 : l.getD q 0 = p2 := by rw [HR.out, List.getD_eq_getElem?_getD, List.getElem?_map, hx7]; rfl
        have rI2 : (wr.setCell ⟨g, q, none⟩ (.int .i64 p2)).rowIs g 3 n3 (fun j => .int .i64 (if j < q + 1 then (l.getD j 0) else 0)) := (rI.set q (.int .i64 p2)).congr (fun j hj => by
          by_cases e : j = q
          · rw [if_pos e, if_pos (by omega), e, hp2]
          · rw [if_neg e]
            by_cases e2 : j < q
            · rw [if_pos e2, if_pos (by omega)]
            · rw [if_neg e2, if_neg (by omega)])
        have rI3 := rI2.alloc (.cells #[.int .i64 p1, .int .i64 p2] 78)
        have rP2 : RowP (wr.setCell ⟨g, q, none⟩ (.int .i64 p2)) (some ⟨b7, o7, none⟩) n3 y := by
          refine ⟨RP.out.1, fun hn => ?_⟩
          obtain ⟨b', off', e', hlt', hc'⟩ := RP.out.2 hn
          cases e'
          have hbk : (wr.setCell ⟨g, q, none⟩ (.int .i64 p2)).heap[b7]? = wr.heap[b7]? := Go.Deep.blk_setCell_other _ _ _ _ hne
          exact ⟨b7, o7, rfl, by simpa [World.setCell] using hlt', fun i hi => ⟨(World.cell?_of_block hbk).trans (hc' i hi).1, (World.cell?_of_block hbk).trans (hc' i hi).2⟩⟩
        have RP3 := Lib.hid (rP2.below (below_alloc (wr.setCell ⟨g, q, none⟩ (.int .i64 p2)) (.cells #[.int .i64 p1, .int .i64 p2] 78)))
        have hb3 := keep_below (hbl.setCell (p := ⟨g, q, none⟩) hgw (.int .i64 p2)) (below_alloc _ (.cells #[.int .i64 p1, .int .i64 p2] 78))
        have hgl2 : g < ((wr.setCell ⟨g, q, none⟩ (.int .i64 p2)).alloc (.cells #[.int .i64 p1, .int .i64 p2] 78)).heap.size := by simp [World.setCell]; omega
        clear hx7 rI rI2 rP2 hp2
        go_wp2
        go_roundw
        case rel => exact ⟨q + 1, by omega, by go_num, rI3, RP3, hb3, hgl2⟩
        case measure => simp [intOf]; omega
      · obtain rfl : q = n3 := by omega
        have hl : q = l.length := by rw [HR.out, List.length_map]; exact HN2.out
        have HRW : Hid (Row wr (some ⟨g, 0, none⟩) q l) := ⟨hl, fun _ => ⟨g, 0, rfl, hgl, fun j hj => by
          have := rI.cell hj
          rw [if_pos hj] at this
          rw [Nat.zero_add]; exact this⟩⟩
        clear rI
        go_wp2
        go_ret2
        exact ⟨_, _, _, rfl, HRW.out, hbl, fun p hp => by cases hp; exact ⟨hgw, hgl⟩⟩
  · have hz := locked_zero (m := m) (i := i) (by rw [hq]; exact z0)
    have HR : Hid (l = []) := by show l = []; rw [← hs]; exact hz.1
    have e1 : (e0 == 0) = false := by simpa using z0
    have e2 : (e0 != 0) = true := by simpa using z0
    clear hz hs hq h hN z0
    obtain ⟨sw, la, cm, inp, ⟨sa, sn, sc⟩, ⟨ba, bn, bc⟩, ⟨ta, tn, tc⟩⟩ := x
    simp only [ImV.v, Sl.v] at CT ⊢
    go_enter Tryz.func10, Tryz.ntmps10
    go_wp2_with (refine (CT.out _ (below_alloc _ _)).mono ?_; rintro e w1 ⟨rfl, hb1⟩)
    go_ret2
    exact ⟨none, 0, 0, rfl, by rw [HR.out]; exact Row.nil _ _, keep_below (below_alloc _ _) hb1, fun p hp => by cases hp⟩
end Go.Proofs.YthncbnalnfbpnaaGreatDoor
