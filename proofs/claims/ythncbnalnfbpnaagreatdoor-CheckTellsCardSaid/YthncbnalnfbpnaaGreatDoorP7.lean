/- What is proved here: the contract of the document's own Locked. Conditions: the image lies in memory; what the document's own Right answers of it is told. -/
import Derived.Test.YthncbnalnfbpnaaGreatDoorP6
import Derived.Test.YthncbnalnfbpnaaGreatDoorCd
namespace Go.Proofs.YthncbnalnfbpnaaGreatDoor
open Go.ChangeShapes Go.WideShapes Go.RowKit

theorem ownI_rowN {w : World} {base : Nat} {v : Value} {n : Nat} {L : List Int} (h : w.ownsRow base 3 1 v n (L.map (Value.int .i64))) :
    ∃ a c, v = .slice a n c ∧ Row w a n L ∧ ∀ p, a = some p → base ≤ p.block ∧ p.block < w.heap.size := by
  have hl := h.1
  rw [List.length_map] at hl
  rcases h.2 with ⟨h1, h2⟩ | ⟨g, cap, cur, h1, h2, h3, h4⟩
  · subst h2
    exact ⟨none, 0, h1, ⟨by omega, fun h => absurd h (by omega)⟩, fun p hp => by cases hp⟩
  · subst h1
    have hlt := h.lt g rfl
    refine ⟨_, cap, rfl, ⟨by omega, fun _ => ⟨g, 0, rfl, hlt.2, fun i hi => ?_⟩⟩, fun p hp => by cases hp; exact hlt⟩
    have := h.cellAt i (by omega)
    rw [Nat.zero_add, this, List.getElem?_map, List.getElem?_eq_getElem (by omega), List.getD_eq_getElem?_getD, List.getElem?_eq_getElem (by omega)]; rfl
set_option maxHeartbeats 4000000 in
set_option maxRecDepth 100000 in
theorem locked12_any (x : ImV) (m : ImP) (i : Int) (w : World) (h : x.Is w m) (cr : RightTold x m w) (e0 : Int) (l : List Int) (hq : taskE m i = e0) (hs : lkA m i = l) :
    Calls Tryz.prog 11 #[x.v, .int .i64 i] w (GotLk l e0 w) := by
  unfold GotLk
  have CT := Lib.hid (fun W (hb : Below w.heap.size w W) => task12_any x m i W (h.below hb) (cr.below hb) e0 hq)
  have hmx : x.tasks.n ≤ 140737488355328 := h.2.2.2.2.2.2.2
  by_cases z0 : e0 = 0
  · subst z0
    obtain ⟨h1, h2, h3, h4⟩ := taskE_zero hq
    have hc := (wrE_zero h4).1
    have hlen : x.tasks.n = m.tasks.length := h.2.2.2.2.2.2.1.1
    obtain ⟨k, rfl⟩ : ∃ k : Nat, i = (k : Int) := ⟨i.toNat, by omega⟩
    obtain ⟨b, off, t, T, ha, hbl, hT, ht, hcs⟩ := h.task (k := k) (by omega)
    have eT : tkAt m (k : Int) = T := by unfold tkAt; rw [Int.toNat_natCast, List.getD_eq_getElem?_getD, hT]; rfl
    rw [eT] at hc
    obtain ⟨y, hy⟩ : ∃ y, y = sA T.co := ⟨_, rfl⟩
    have hyb : y.length ≤ 200 := by
      rw [hy]; unfold sA; rw [if_pos hc]
      have h5 := sec_len T.co T.co.length
      have := (wE_len (lE_zero (rE_zero (cE_zero hc).1).1).1).2
      omega
    have hcl : t.co.n ≤ 200 := by
      have := (wE_len (lE_zero (rE_zero (cE_zero hc).1).1).1).2
      have h6 := ht.2.2.2.2.2.2.1.1
      omega
    have hr : l = y.map (·.2) := by rw [← hs, hy, ← eT]; unfold lkA; rw [if_pos hq]
    have CS := Lib.hid (fun W (hb : Below w.heap.size w W) => (by have := sectionsR_any t.co.a t.co.n t.co.c T.co W (ht.2.2.2.2.2.2.1.below hb) (by omega); rw [hc, ← hy] at this; exact this : Calls Tryz.prog 28 #[t.co.v] W (GotP y 0 W)))
    unfold GotP at CS
    obtain ⟨sw, la, cm, inp, ⟨sa, sn, sc⟩, ⟨ba, bn, bc⟩, ⟨ta, tn, tc⟩⟩ := x
    obtain ⟨pr, pe, de, ji, ⟨xa, xn, xc⟩, ⟨oa, on, oc⟩, ⟨ca, cn, cc⟩⟩ := t
    simp only at ha hlen hmx
    have C0 := Lib.hid (cells_new w #[.int .i64 sw, .int .i64 la, .int .i64 cm, .int .i64 inp, .slice sa sn sc, .slice ba bn bc, .slice ta tn tc] 31)
    have B0 := Lib.hid (below_alloc w (.cells #[.int .i64 sw, .int .i64 la, .int .i64 cm, .int .i64 inp, .slice sa sn sc, .slice ba bn bc, .slice ta tn tc] 31))
    subst ha
    simp only [ImV.v, Sl.v] at CT CS ⊢
    have i1 : (0 : Int) ≤ (k : Int) := h2
    have i2 : (k : Int) < (tn : Int) := by omega
    have d6 : w.cell? ⟨b, off + k * 7 + 6, none⟩ = some (.slice ca cn cc) := hcs 6 _ rfl
    have D6 := Lib.hid d6
    have HR := Lib.hid hr
    obtain ⟨i0, hi0, hz0, hz1, hz2⟩ := info_parts int_info
    obtain ⟨n2, hn2⟩ : ∃ n2, n2 = y.length := ⟨_, rfl⟩
    rw [← hn2] at hyb
    have HN2 := Lib.hid hn2
    clear d6 hcs ht hT eT hy hr hc h4 hs hq h1 cr hlen h3 hn2 hcl
    go_enter Tryz.func11, Tryz.ntmps11
    go_wp2_with (first
      | (go_at_call 28; refine (CS.out _ bb).mono ?_; rintro e w2 ⟨a2, n3, c2, rfl, hr2, hb2, -⟩; have hn3 : n3 = n2 := hr2.1.trans HN2.out.symm; subst hn3)
      | (go_at_call 15; refine (CT.out _ B0.out).mono ?_; rintro e w1 ⟨rfl, hb1⟩; have bb := keep_below B0.out hb1; have c6 := keep_cell hb1 (C0.out 6 _ rfl); have d6 := keep_cell bb D6.out))
    have HB2 := Lib.hid (keep_below bb hb2)
    have RP := Lib.hid hr2
    have hww := HB2.out.size
    clear CT CS C0 c6 d6 hr2 hb2 bb hb1
    go_loopw [9, 10] (fun s i wr => ∃ q : Nat, q ≤ n3 ∧ i = .int .i64 q ∧ wr.ownsRow w2.heap.size 3 1 s q ((l.take q).map (Value.int .i64)) ∧ Below w2.heap.size w2 wr) (fun _ i _ => n3 - (intOf i).toNat)
    case atStart => exact ⟨0, by omega, rfl, World.ownsRow_nil _ _ _ _, Below.refl _ _⟩
    case round =>
      obtain ⟨q, hq, rfl, hown, hbl⟩ := hrel
      have hbs := hbl.size
      by_cases hlt : q < n3
      · obtain ⟨b7, o7, p1, p2, rfl, hb7, hx7, y1, y2⟩ := (RP.out.below hbl).at_ hlt
        have hl2 : l[q]? = some p2 := by rw [HR.out, List.getElem?_map, hx7]; rfl
        have HTK := Lib.hid (take_cat hl2)
        have i3 : (0 : Int) ≤ (q : Int) := by omega
        have i4 : (q : Int) < (n3 : Int) := by omega
        clear hl2 hx7
        go_wp2_with (at_builtin; refine wpList_append_own _ rfl _ _ 22 rfl w2.heap.size 3 i0 (.int .i64 0) 1 8 Tryz.underlying22 hi0 hz0 hz1 hz2 rfl (by decide) _ _ _ rfl (hown.alloc _) ⟨wr.heap.size, 0, none⟩ 1 1 [.int .i64 p2] rfl rfl ?c1 ?c2 ?c3 ?c4 ?c5 ?_)
        case c1 =>
          intro j t hj
          match j, hj with
          | 0, hj => simp at hj; subst hj; simp [Addr.add]
        case c2 => intro t ht; simp at ht; subst ht; rfl
        case c3 => unfold maxLen; omega
        case c4 => omega
        case c5 => simp; omega
        · intro v' w5 hown' hgrow _
          have hb5 : Below w2.heap.size w2 w5 := (hbl.alloc hbl.size _).grown hgrow (by simp; omega) (fun g hg => (hown.lt g hg).1)
          have hown2 : w5.ownsRow w2.heap.size 3 1 v' (q + 1) ((l.take (q + 1)).map (Value.int .i64)) := by
            rw [HTK.out, List.map_append, List.map_take]; exact hown'
          clear hown' hgrow hown
          go_wp2
          go_roundw
          case rel => exact ⟨q + 1, by omega, by go_num, hown2, hb5⟩
          case measure => simp [intOf]; omega
      · obtain rfl : n3 = q := by omega
        have hl : n3 = l.length := by rw [HR.out, List.length_map]; exact HN2.out
        rw [List.take_of_length_le (by rw [← hl]; exact Nat.le_refl _)] at hown
        obtain ⟨a5, c5, rfl, hR, hnew⟩ := ownI_rowN hown
        have HRW := Lib.hid hR
        have HNW := Lib.hid hnew
        clear hown hR hl hnew
        go_wp2
        go_ret2
        exact ⟨_, _, _, rfl, HRW.out, keep_below HB2.out hbl, fun p hp => ⟨Nat.le_trans hww (HNW.out p hp).1, (HNW.out p hp).2⟩⟩
  · have hz := locked_zero (m := m) (i := i) (by rw [hq]; exact z0)
    have HR : Hid (l = []) := by show l = []; rw [← hs]; exact hz.1
    have e1 : (e0 == 0) = false := by simpa using z0
    have e2 : (e0 != 0) = true := by simpa using z0
    clear hz hs hq h cr z0
    obtain ⟨sw, la, cm, inp, ⟨sa, sn, sc⟩, ⟨ba, bn, bc⟩, ⟨ta, tn, tc⟩⟩ := x
    simp only [ImV.v, Sl.v] at CT ⊢
    go_enter Tryz.func11, Tryz.ntmps11
    go_wp2_with (refine (CT.out _ (below_alloc _ _)).mono ?_; rintro e w1 ⟨rfl, hb1⟩)
    go_ret2
    exact ⟨none, 0, 0, rfl, by rw [HR.out]; exact Row.nil _ _, keep_below (below_alloc _ _) hb1, fun p hp => by cases hp⟩
end Go.Proofs.YthncbnalnfbpnaaGreatDoor
