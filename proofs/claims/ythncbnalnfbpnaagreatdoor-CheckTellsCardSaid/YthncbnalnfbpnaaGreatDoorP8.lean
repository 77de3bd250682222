/- What is proved here: the contract of the laws' Plain: the document's own image of what an image lays. Conditions: the image lies in memory, and has few tasks. -/
import Derived.Test.YthncbnalnfbpnaaGreatDoorP1
import Derived.Test.YthncbnalnfbpnaaGreatDoorIt
import Derived.Test.YthncbnalnfbpnaaGreatDoorIo
import Derived.Test.YthncbnalnfbpnaaGreatDoorCc
import Derived.Test.YthncbnalnfbpnaaGreatDoorGs
import Derived.Maps.AppendAt
import Derived.Deep.OwnRows
namespace Go.Proofs.YthncbnalnfbpnaaGreatDoor
open Go.ChangeShapes Go.WideShapes Go.RowKit Go.Maps

theorem rtk_info : (Tryz.prog.info? 72).map (fun i => (i.zero, i.size, i.bytes)) = some (some (.agg #[.int .i64 0, .int .i64 0, .int .i64 0, .int .i64 0, .slice none 0 0, .slice none 0 0, .slice none 0 0]), 7, 104) := by kernel_rfl
theorem ta_one (t : TaV) : ∀ u ∈ t.cells, u.oneCell' = true := by
  intro u hu
  simp [TaV.cells, Sl.v] at hu
  rcases hu with rfl | rfl | rfl | rfl | rfl | rfl | rfl <;> rfl
/-- The argument, the result and the image that is made, beside an own row of tasks. -/
structure Pln (w wr : World) (c0 l2 l3 : List Value) (v : Value) (k : Nat) (V : List TaV) : Prop where
  bel : Below w.heap.size w wr
  r0 : wr.rowIs w.heap.size 26 7 (fun j => c0.getD j undef)
  r2 : wr.rowIs (w.heap.size + 1) 31 7 (fun j => l2.getD j undef)
  r3 : wr.rowIs (w.heap.size + 1 + 1) 31 7 (fun j => (l3 ++ [v]).getD j undef)
  own : wr.ownsRow (w.heap.size + 3) 72 7 v k (tkC V)
  sz : w.heap.size + 3 ≤ wr.heap.size
  len : l3.length = 6
section
variable {w wr w' : World} {c0 l2 l3 : List Value} {v v' : Value} {k : Nat} {V : List TaV} {t : TaV}
theorem Pln.alloc (h : Pln w wr c0 l2 l3 v k V) (o : Obj) : Pln w (wr.alloc o) c0 l2 l3 v k V :=
  ⟨h.bel.alloc h.bel.size o, h.r0.alloc o, h.r2.alloc o, h.r3.alloc o, h.own.alloc o, by have := h.sz; simp; omega, h.len⟩
theorem Pln.c0_ (h : Pln w wr c0 l2 l3 v k V) (hl : c0.length = 7) : ∀ j u, c0[j]? = some u → wr.cell? ⟨w.heap.size, j, none⟩ = some u := fun j u hj => by
  have hj7 : j < 7 := by rw [← hl]; exact (List.getElem?_eq_some_iff.1 hj).1
  rw [h.r0.cell hj7, List.getD_eq_getElem?_getD, hj]; rfl
theorem Pln.c2_ (h : Pln w wr c0 l2 l3 v k V) (hl : l2.length = 7) : ∀ j u, l2[j]? = some u → wr.cell? ⟨w.heap.size + 1, j, none⟩ = some u := fun j u hj => by
  have hj7 : j < 7 := by rw [← hl]; exact (List.getElem?_eq_some_iff.1 hj).1
  rw [h.r2.cell hj7, List.getD_eq_getElem?_getD, hj]; rfl
theorem Pln.c3_ (h : Pln w wr c0 l2 l3 v k V) : ∀ j u, (l3 ++ [v])[j]? = some u → wr.cell? ⟨w.heap.size + 1 + 1, j, none⟩ = some u := fun j u hj => by
  have hj7 : j < 7 := by have := (List.getElem?_eq_some_iff.1 hj).1; rw [List.length_append, h.len] at this; exact this
  rw [h.r3.cell hj7, List.getD_eq_getElem?_getD, hj]; rfl
theorem Pln.mid (h : Pln w wr c0 l2 l3 v k V) (hg : wr.grownBy w' v.ownBlock) : w'.rowIs (w.heap.size + 1 + 1) 31 7 (fun j => (l3 ++ [v]).getD j undef) :=
  h.r3.of_block (hg.block _ (by have := h.sz; omega) (fun e => by have := (h.own.lt _ e.symm).1; omega))
theorem Pln.step (h : Pln w wr c0 l2 l3 v k V) (hown : w'.ownsRow (w.heap.size + 3) 72 7 v' (k + 1) (tkC V ++ t.cells)) (hg : wr.grownBy w' v.ownBlock) :
    Pln w (w'.setCell ⟨w.heap.size + 1 + 1, 6, none⟩ v') c0 l2 l3 v' (k + 1) (V ++ [t]) := by
  have hb : ∀ q, q < w.heap.size + 3 → w'.heap[q]? = wr.heap[q]? := fun q hq => hg.block q (by have := h.sz; omega) (fun e => by have := (h.own.lt q e.symm).1; omega)
  have s' := hg.size
  have hs := h.sz
  refine ⟨?_, ?_, ?_, ?_, ?_, ?_, h.len⟩
  · exact (h.bel.grown hg h.bel.size (fun g hg => by have := (h.own.lt g hg).1; omega)).setCell (p := ⟨w.heap.size + 1 + 1, 6, none⟩) (by show w.heap.size ≤ w.heap.size + 1 + 1; omega) v'
  · exact (h.r0.of_block (hb _ (by omega))).setOther (a := ⟨w.heap.size + 1 + 1, 6, none⟩) (by show w.heap.size ≠ w.heap.size + 1 + 1; omega) v'
  · exact (h.r2.of_block (hb _ (by omega))).setOther (a := ⟨w.heap.size + 1 + 1, 6, none⟩) (by show w.heap.size + 1 ≠ w.heap.size + 1 + 1; omega) v'
  · refine ((h.r3.of_block (hb _ (by omega))).set 6 v').congr (fun j hj => ?_)
    show (if j = 6 then v' else (l3 ++ [v]).getD j undef) = (l3 ++ [v']).getD j undef
    rw [List.getD_eq_getElem?_getD, List.getD_eq_getElem?_getD]
    by_cases e : j = 6
    · subst e
      rw [if_pos rfl, List.getElem?_append_right (by rw [h.len]; exact Nat.le_refl _), h.len]; rfl
    · rw [if_neg e, List.getElem?_append_left (by rw [h.len]; omega), List.getElem?_append_left (by rw [h.len]; omega)]
  · rw [tkC_snoc]
    exact ownsRow_setCell_other hown (a := ⟨w.heap.size + 1 + 1, 6, none⟩) (fun e => by have h9 : w.heap.size + 3 ≤ w.heap.size + 1 + 1 := (hown.lt _ e).1; omega) v'
  · simp [World.setCell]; omega
end
theorem ownS {w : World} {base e size n : Nat} {v : Value} {xs : List Value} (h : w.ownsRow base e size v n xs) : ∃ a m c, v = .slice a m c := by
  rcases h.2 with ⟨h1, _⟩ | ⟨g, cap, cur, h1, _⟩
  · exact ⟨_, _, _, h1⟩
  · exact ⟨_, _, _, h1⟩
theorem fin2 {w wr : World} {e : Nat} {v : Value} {k : Nat} {xs : List Value} (h : Below w.heap.size w wr ∧ wr.ownsRow (w.heap.size + 3) e 7 v k xs) (j : Nat) (u : Value) :
    Below w.heap.size w (wr.setCell ⟨w.heap.size + 1, j, none⟩ u) ∧ (wr.setCell ⟨w.heap.size + 1, j, none⟩ u).ownsRow (w.heap.size + 3) e 7 v k xs :=
  ⟨h.1.setCell (p := ⟨w.heap.size + 1, j, none⟩) (by show w.heap.size ≤ w.heap.size + 1; omega) u, ownsRow_setCell_other h.2 (a := ⟨w.heap.size + 1, j, none⟩) (fun e => by have h9 : w.heap.size + 3 ≤ w.heap.size + 1 := (h.2.lt _ e).1; omega) u⟩
theorem Pln.begin (w : World) (c0 : Array Value) (h0 : c0.size = 7) (l2 l3 : Array Value) (h2 : l2.size = 7) (h3 : l3.size = 7) (l : List Value) (hl : l.length = 6) (e : l3.toList = l ++ [.slice none 0 0]) :
    Pln w (((w.alloc (.cells c0 26)).alloc (.cells l2 31)).alloc (.cells l3 31)) c0.toList l2.toList l (.slice none 0 0) 0 [] := by
  have s1 : (w.alloc (.cells c0 26)).heap.size = w.heap.size + 1 := Array.size_push _
  have s2 : ((w.alloc (.cells c0 26)).alloc (.cells l2 31)).heap.size = w.heap.size + 1 + 1 := (Array.size_push _).trans (by rw [s1])
  have k0 := World.rowIs_alloc w c0 26 (fun j => c0.toList.getD j undef) (fun j hj => by simp [hj])
  have k2 := World.rowIs_alloc (w.alloc (.cells c0 26)) l2 31 (fun j => l2.toList.getD j undef) (fun j hj => by simp [hj])
  have k3 := World.rowIs_alloc ((w.alloc (.cells c0 26)).alloc (.cells l2 31)) l3 31 (fun j => l3.toList.getD j undef) (fun j hj => by simp [hj])
  rw [h0] at k0
  rw [h2, s1] at k2
  rw [h3, s2, e] at k3
  refine ⟨keep_below (keep_below (below_alloc w _) (below_alloc _ _)) (below_alloc _ _), (k0.alloc _).alloc _, k2.alloc _, k3, World.ownsRow_nil _ _ _ _, Nat.le_of_eq (by rw [World.alloc]; exact ((Array.size_push _).trans (by rw [s2])).symm), hl⟩
set_option maxHeartbeats 4000000 in
set_option maxRecDepth 100000 in
theorem plain_any (x : ImV) (m : ImP) (w : World) (h : x.Is w m) (ht80 : m.tasks.length ≤ 80) :
    Calls Tryz.prog 7 #[x.v] w fun e w' => ∃ y : ImV, e = .returned y.v ∧ y.Is w' m ∧ Below w.heap.size w w' := by
  have HT : Hid (∀ k, k < x.tasks.n → ∃ b off t T, x.tasks.a = some ⟨b, off, none⟩ ∧ b < w.heap.size ∧ m.tasks[k]? = some T ∧ TaV.Is w t T ∧ ∀ j v, t.cells[j]? = some v → w.cell? ⟨b, off + k * 7 + j, none⟩ = some v) := fun k hk => h.task hk
  have HI := Lib.hid h
  have hlen : x.tasks.n = m.tasks.length := h.2.2.2.2.2.2.1.1
  have hmx : x.tasks.n ≤ 80 := by rw [hlen]; exact ht80
  have HTL := Lib.hid hlen
  obtain ⟨i0, hi0, hz0, hz1, hz2⟩ := info_parts rtk_info
  clear h hlen ht80
  obtain ⟨sw, la, cm, inp, ⟨sa, sn, sc⟩, ⟨ba, bn, bc⟩, ⟨ta, tn, tc⟩⟩ := x
  simp only [ImV.v, Sl.v] at HT HTL hmx ⊢
  have P0 := Pln.begin w #[.int .i64 sw, .int .i64 la, .int .i64 cm, .int .i64 inp, .slice sa sn sc, .slice ba bn bc, .slice ta tn tc] rfl #[.int .i64 0, .int .i64 0, .int .i64 0, .int .i64 0, .slice none 0 0, .slice none 0 0, .slice none 0 0] #[.int .i64 sw, .int .i64 la, .int .i64 cm, .int .i64 inp, .slice sa sn sc, .slice ba bn bc, .slice none 0 0] rfl rfl [.int .i64 sw, .int .i64 la, .int .i64 cm, .int .i64 inp, .slice sa sn sc, .slice ba bn bc] rfl rfl
  have HP0 := Lib.hid P0
  clear P0
  go_enter Tryz.func7, Tryz.ntmps7
  go_wp2
  generalize ((w.alloc (.cells #[.int .i64 sw, .int .i64 la, .int .i64 cm, .int .i64 inp, .slice sa sn sc, .slice ba bn bc, .slice ta tn tc] 26)).alloc (.cells #[.int .i64 0, .int .i64 0, .int .i64 0, .int .i64 0, .slice none 0 0, .slice none 0 0, .slice none 0 0] 31)).alloc (.cells #[.int .i64 sw, .int .i64 la, .int .i64 cm, .int .i64 inp, .slice sa sn sc, .slice ba bn bc, .slice none 0 0] 31) = W3 at HP0 ⊢
  go_loopw [4] (fun i wr => ∃ (k : Nat) (v : Value) (V : List TaV), k ≤ tn ∧ i = .int .i64 k ∧ Hid (V.length = k ∧ TksIs w V (m.tasks.take k)) ∧ Hid (Pln w wr (#[.int .i64 sw, .int .i64 la, .int .i64 cm, .int .i64 inp, .slice sa sn sc, .slice ba bn bc, .slice ta tn tc] : Array Value).toList [.int .i64 0, .int .i64 0, .int .i64 0, .int .i64 0, .slice none 0 0, .slice none 0 0, .slice none 0 0] [.int .i64 sw, .int .i64 la, .int .i64 cm, .int .i64 inp, .slice sa sn sc, .slice ba bn bc] v k V)) (fun i _ => tn - (intOf i).toNat)
  case atStart => exact ⟨0, _, [], by omega, rfl, ⟨rfl, rfl, fun i t h => by simp at h⟩, HP0⟩
  case round =>
    obtain ⟨k, v, V, hk, rfl, HV, HP⟩ := hrel
    have hsz := HP.out.sz
    by_cases hk2 : k < tn
    · obtain ⟨b, off, ⟨pr, pe, de, ji, ⟨xa, xn, xc⟩, ⟨oa, on, oc⟩, ⟨ca, cn, cc⟩⟩, T, rfl, hB2, hT, ht, hc⟩ := HT.out k hk2
      have bel := HP.out.bel
      have d0 : wr.cell? ⟨b, off + k * 7, none⟩ = some (.int .i64 pr) := keep_cell bel (hc 0 _ rfl)
      have d1 : wr.cell? ⟨b, off + k * 7 + 1, none⟩ = some (.int .i64 pe) := keep_cell bel (hc 1 _ rfl)
      have d2 : wr.cell? ⟨b, off + k * 7 + 2, none⟩ = some (.int .i64 de) := keep_cell bel (hc 2 _ rfl)
      have d3 : wr.cell? ⟨b, off + k * 7 + 3, none⟩ = some (.int .i64 ji) := keep_cell bel (hc 3 _ rfl)
      have d4 : wr.cell? ⟨b, off + k * 7 + 4, none⟩ = some (.slice xa xn xc) := keep_cell bel (hc 4 _ rfl)
      have d5 : wr.cell? ⟨b, off + k * 7 + 5, none⟩ = some (.slice oa on oc) := keep_cell bel (hc 5 _ rfl)
      have d6 : wr.cell? ⟨b, off + k * 7 + 6, none⟩ = some (.slice ca cn cc) := keep_cell bel (hc 6 _ rfl)
      have c6 : wr.cell? ⟨w.heap.size, 6, none⟩ = some (.slice (some ⟨b, off, none⟩) tn tc) := HP.out.c0_ rfl 6 _ rfl
      have g6 : (wr.alloc (.cells #[.int .i64 pr, .int .i64 pe, .int .i64 de, .int .i64 ji, .slice xa xn xc, .slice oa on oc, .slice ca cn cc] 52)).cell? ⟨w.heap.size + 1 + 1, 6, none⟩ = some v := (HP.out.alloc (.cells #[.int .i64 pr, .int .i64 pe, .int .i64 de, .int .i64 ji, .slice xa xn xc, .slice oa on oc, .slice ca cn cc] 52)).c3_ 6 _ rfl
      have j1 : (0 : Int) ≤ (k : Int) := by omega
      have j2 : (k : Int) < (tn : Int) := by omega
      have HV2 : Hid ((V ++ [(⟨pr, pe, de, ji, ⟨xa, xn, xc⟩, ⟨oa, on, oc⟩, ⟨ca, cn, cc⟩⟩ : TaV)]).length = k + 1 ∧ TksIs w (V ++ [(⟨pr, pe, de, ji, ⟨xa, xn, xc⟩, ⟨oa, on, oc⟩, ⟨ca, cn, cc⟩⟩ : TaV)]) (m.tasks.take (k + 1))) := by
        obtain ⟨e1, e2, e3⟩ := HV.out
        refine ⟨by rw [List.length_append, e1]; rfl, by rw [take_cat hT, List.length_append, List.length_append, e2]; rfl, fun i t hi => ?_⟩
        rw [take_cat hT]
        by_cases hlt : i < V.length
        · rw [List.getElem?_append_left hlt] at hi
          obtain ⟨T', k1, k2⟩ := e3 i t hi
          exact ⟨T', by rw [List.getElem?_append_left (by rw [← e2]; exact hlt)]; exact k1, k2⟩
        · rw [List.getElem?_append_right (by omega)] at hi
          have hi2 : i - V.length = 0 := by
            have := (List.getElem?_eq_some_iff.1 hi).1
            simp at this; omega
          rw [hi2] at hi
          simp at hi
          subst hi
          exact ⟨T, by rw [List.getElem?_append_right (by rw [← e2]; omega), ← e2, hi2]; rfl, ht⟩
      have PA := Lib.hid ((HP.out.alloc (.cells #[.int .i64 pr, .int .i64 pe, .int .i64 de, .int .i64 ji, .slice xa xn xc, .slice oa on oc, .slice ca cn cc] 52)).alloc (.cells #[.int .i64 pr, .int .i64 pe, .int .i64 de, .int .i64 ji, .slice xa xn xc, .slice oa on oc, .slice ca cn cc] 72))
      have hown := PA.out.own
      have hnews : ∀ j u, (⟨pr, pe, de, ji, ⟨xa, xn, xc⟩, ⟨oa, on, oc⟩, ⟨ca, cn, cc⟩⟩ : TaV).cells[j]? = some u → ((wr.alloc (.cells #[.int .i64 pr, .int .i64 pe, .int .i64 de, .int .i64 ji, .slice xa xn xc, .slice oa on oc, .slice ca cn cc] 52)).alloc (.cells #[.int .i64 pr, .int .i64 pe, .int .i64 de, .int .i64 ji, .slice xa xn xc, .slice oa on oc, .slice ca cn cc] 72)).cell? ((⟨wr.heap.size + 1, 0, none⟩ : Addr).add j) = some u := fun j u hj => by
        have := cells_new (wr.alloc (.cells #[.int .i64 pr, .int .i64 pe, .int .i64 de, .int .i64 ji, .slice xa xn xc, .slice oa on oc, .slice ca cn cc] 52)) #[.int .i64 pr, .int .i64 pe, .int .i64 de, .int .i64 ji, .slice xa xn xc, .slice oa on oc, .slice ca cn cc] 72 j u hj
        rw [show (wr.alloc (.cells #[.int .i64 pr, .int .i64 pe, .int .i64 de, .int .i64 ji, .slice xa xn xc, .slice oa on oc, .slice ca cn cc] 52)).heap.size = wr.heap.size + 1 from Array.size_push _] at this
        rw [show (⟨wr.heap.size + 1, 0, none⟩ : Addr).add j = ⟨wr.heap.size + 1, j, none⟩ by rw [add_plain', Nat.zero_add]]; exact this
      have HNW := Lib.hid hnews
      have HOW := Lib.hid hown
      clear hnews hown hT ht hc HV bel
      go_wp2_with (at_builtin; refine wpList_append_own_at _ rfl _ _ 29 rfl (w.heap.size + 3) 72 i0 (.agg #[.int .i64 0, .int .i64 0, .int .i64 0, .int .i64 0, .slice none 0 0, .slice none 0 0, .slice none 0 0]) 7 104 Tryz.underlying29 hi0 hz0 hz1 hz2 rfl (by decide) _ _ _ rfl HOW.out ⟨wr.heap.size + 1, 0, none⟩ 1 1 (⟨pr, pe, de, ji, ⟨xa, xn, xc⟩, ⟨oa, on, oc⟩, ⟨ca, cn, cc⟩⟩ : TaV).cells rfl rfl HNW.out (ta_one _) ?c3 ?c4 ?c5 ?_)
      case c3 => unfold maxLen; omega
      case c4 => omega
      case c5 => first | omega | (simp; omega)
      intro v' w5 hown' hgrow _ _
      obtain ⟨a5, m5, c5, rfl⟩ := ownS hown'
      have P5 := Lib.hid (PA.out.step hown' hgrow)
      have rm := PA.out.mid hgrow
      have x6 : w5.cell? ⟨w.heap.size + 1 + 1, 6, none⟩ = some v := by have := rm.cell (i := 6) (by omega); rw [this]; rfl
      have xf : w5.frozen? ⟨w.heap.size + 1 + 1, 6, none⟩ = false := rm.frozen 6
      clear hown' hgrow rm HNW HOW PA d0 d1 d2 d3 d4 d5 d6 c6 g6
      go_wp2
      go_roundw
      case rel => exact ⟨k + 1, _, _, by omega, by go_num, HV2, P5⟩
      case measure => simp [intOf]; omega
    · obtain rfl : tn = k := by omega
      have P := HP.out
      obtain ⟨a9, c9, rfl, hn9, hrt, hnew⟩ := RowT.own P.own (HV.out.2.below P.bel)
      clear hn9 hrt hnew
      have c6 : wr.cell? ⟨w.heap.size, 6, none⟩ = some (.slice ta tn tc) := P.c0_ rfl 6 _ rfl
      have q0 := P.c3_ 0 _ rfl; have q1 := P.c3_ 1 _ rfl; have q2 := P.c3_ 2 _ rfl; have q3 := P.c3_ 3 _ rfl; have q4 := P.c3_ 4 _ rfl; have q5 := P.c3_ 5 _ rfl; have q6 := P.c3_ 6 _ rfl
      have z0 := P.c2_ rfl 0 _ rfl; have z1 := P.c2_ rfl 1 _ rfl; have z2 := P.c2_ rfl 2 _ rfl; have z3 := P.c2_ rfl 3 _ rfl; have z4 := P.c2_ rfl 4 _ rfl; have z5 := P.c2_ rfl 5 _ rfl; have z6 := P.c2_ rfl 6 _ rfl
      have zf0 : wr.frozen? ⟨w.heap.size + 1, 0, none⟩ = false := P.r2.frozen 0
      have zf1 : wr.frozen? ⟨w.heap.size + 1, 1, none⟩ = false := P.r2.frozen 1
      have zf2 : wr.frozen? ⟨w.heap.size + 1, 2, none⟩ = false := P.r2.frozen 2
      have zf3 : wr.frozen? ⟨w.heap.size + 1, 3, none⟩ = false := P.r2.frozen 3
      have zf4 : wr.frozen? ⟨w.heap.size + 1, 4, none⟩ = false := P.r2.frozen 4
      have zf5 : wr.frozen? ⟨w.heap.size + 1, 5, none⟩ = false := P.r2.frozen 5
      have zf6 : wr.frozen? ⟨w.heap.size + 1, 6, none⟩ = false := P.r2.frozen 6
      have F := fin2 (fin2 (fin2 (fin2 (fin2 (fin2 (fin2 ⟨P.bel, P.own⟩ 0 (.int .i64 sw)) 1 (.int .i64 la)) 2 (.int .i64 cm)) 3 (.int .i64 inp)) 4 (.slice sa sn sc)) 5 (.slice ba bn bc)) 6 (.slice a9 tn c9)
      have HF := Lib.hid F
      clear P F
      go_wp2
      refine bodyPost_ret (v := .agg #[.int .i64 sw, .int .i64 la, .int .i64 cm, .int .i64 inp, .slice sa sn sc, .slice ba bn bc, .slice a9 tn c9]) (by simp [results, Tryz.results7, go_sem, z0, z1, z2, z3, z4, z5, z6]) rfl ⟨⟨sw, la, cm, inp, ⟨sa, sn, sc⟩, ⟨ba, bn, bc⟩, ⟨a9, tn, c9⟩⟩, rfl, ?_, HF.out.1⟩
      have hfull : m.tasks.take tn = m.tasks := List.take_of_length_le (by rw [← HTL.out]; exact Nat.le_refl _)
      obtain ⟨a8, c8, e8, -, hrt, -⟩ := RowT.own HF.out.2 (HV.out.2.below HF.out.1)
      cases e8
      rw [hfull] at hrt
      obtain ⟨k1, k2, k3, k4, k5, k6, -⟩ := HI.out.below HF.out.1
      exact ⟨k1, k2, k3, k4, k5, k6, hrt, by show tn ≤ 140737488355328; omega⟩
end Go.Proofs.YthncbnalnfbpnaaGreatDoor
