/- What is proved here: the walk of the law CheckRuns. Condition: the table of names holds what its initialiser lays ('Nms'). -/
import Derived.Test.YthncbnalnfbpnaaGreatDoorPr
import Derived.Test.YthncbnalnfbpnaaGreatDoorCg
import Derived.Test.YthncbnalnfbpnaaGreatDoorRg
import Derived.Test.YthncbnalnfbpnaaGreatDoorGp
import Derived.Test.YthncbnalnfbpnaaGreatDoorHr
namespace Go.Proofs.YthncbnalnfbpnaaGreatDoor
open Go.ChangeShapes Go.WideShapes Go.RowKit Go.Maps

theorem GotM.ok {L : List (Int × Int × Int)} {w : World} {e : Ending} {w' : World} (h : GotM L w e w') (t : Takes L) :
    ∃ b F, e = .returned (.tuple #[.pointer (some ⟨b, 0, none⟩), .int .i64 0]) ∧ Mac w' F b L fresh ∧ (∀ k, F k → w.heap.size ≤ k) ∧ Below w.heap.size w w' := by
  obtain ⟨hb, h⟩ := h
  rcases h with h | h | h
  · exact absurd t.l h.1
  · exact absurd t.t h.2.1
  · obtain ⟨_, _, b, F, e1, e2, e3⟩ := h; exact ⟨b, F, e1, e2, e3, hb⟩
theorem neqp_nil (w : World) (b : Nat) : (binOp .neq 47 (.pointer (some ⟨b, 0, none⟩)) (.pointer none)).run Tryz.prog w = .ok (.bool true) w := by
  have h : ∀ d : Nat, (Op.equalIn (d + 1) 47 (.pointer (some ⟨b, 0, none⟩)) (.pointer none)).run Tryz.prog w = .ok false w := fun d => by
    simp [Op.equalIn, run_underlying Tryz.underlying47]
  simp only [binOp]
  simp [Op.equal, Op.maxDepth, h 9999]
/-- A run of a machine, beside an image and a task that lie in blocks. -/
structure Rn (w : World) (c d : List Value) (F : Nat → Prop) (b TB mb : Nat) (L : List (Int × Int × Int)) (x : V × List Int) (W : World) : Prop where
  run : Run w W F b mb L x
  kc : Kept F mb W w.heap.size
  kd : Kept F mb W TB
  c : ∀ j u, c[j]? = some u → W.cell? ⟨w.heap.size, j, none⟩ = some u
  d : ∀ j u, d[j]? = some u → W.cell? ⟨TB, j, none⟩ = some u
section
variable {w W W' : World} {c d : List Value} {F : Nat → Prop} {b TB mb : Nat} {L : List (Int × Int × Int)} {x : V × List Int}
theorem Rn.below (h : Rn w c d F b TB mb L x W) (g : Below W.heap.size W W') : Rn w c d F b TB mb L x W' :=
  ⟨h.run.below g, h.kc.below g, h.kd.below g, fun j u e => keep_cell g (h.c j u e), fun j u e => keep_cell g (h.d j u e)⟩
theorem Rn.step (h : Rn w c d F b TB mb L x W) (hok : Fine L x.1) (t : Takes L) :
    Calls Tryz.prog 22 #[.pointer (some ⟨b, 0, none⟩), .pointer (some ⟨mb, 0, none⟩)] W fun e w' => e = .returned (toldV (told L x.1)) ∧ ∃ F', Rn w c d F' b TB mb L (nxt L x) w' := by
  refine (h.run.step hok t).mono ?_
  rintro e w' ⟨rfl, F', r, g⟩
  exact ⟨rfl, F', r, h.kc.chg g, h.kd.chg g, fun j u e => h.kc.cell g (h.c j u e), fun j u e => h.kd.cell g (h.d j u e)⟩
theorem Rn.poke {v : V} {M : List Int} (h : Rn w c d F b TB mb L (v, M) W) (j : Nat) (u : Int) : Rn w c d F b TB mb L (v, M.set j u) (W.setCell ⟨mb, j, none⟩ (.int .i64 u)) := by
  have hsz : (W.setCell ⟨mb, j, none⟩ (.int .i64 u)).heap.size = W.heap.size := by simp [World.setCell]
  have oth : ∀ k, k ≠ mb → (W.setCell ⟨mb, j, none⟩ (.int .i64 u)).heap[k]? = W.heap[k]? := fun k hk => Go.Deep.blk_setCell_other _ _ _ _ hk
  refine ⟨⟨h.run.m.blocks (by rw [hsz]; exact Nat.le_refl _) (fun i hi => oth i (fun e => h.run.nf (e ▸ hi))), ⟨by show (M.set j u).length = 64; rw [List.length_set]; exact h.run.mem.1, (h.run.mem.2.set j (.int .i64 u)).congr (fun i hi => ?_)⟩, h.run.nf, h.run.low, h.run.hmb, h.run.bel.setCell (p := ⟨mb, j, none⟩) h.run.hmb _⟩,
    ⟨by rw [hsz]; exact h.kc.lt, h.kc.nf, h.kc.ne⟩, ⟨by rw [hsz]; exact h.kd.lt, h.kd.nf, h.kd.ne⟩, fun q z e => (World.cell?_of_block (oth _ h.kc.ne)).trans (h.c q z e), fun q z e => (World.cell?_of_block (oth _ h.kd.ne)).trans (h.d q z e)⟩
  show (if i = j then Value.int .i64 u else .int .i64 (M.getD i 0)) = .int .i64 ((M.set j u).getD i 0)
  have hM : M.length = 64 := h.run.mem.1
  rw [List.getD_eq_getElem?_getD (l := M.set j u), List.getElem?_set]
  by_cases e : i = j
  · subst e
    rw [if_pos rfl, if_pos rfl, if_pos (by rw [hM]; exact hi)]; rfl
  · rw [if_neg e, if_neg (fun q => e q.symm), ← List.getD_eq_getElem?_getD]
end
attribute [local go_sem ↓] fold23
set_option maxHeartbeats 8000000 in
set_option maxRecDepth 100000 in
theorem runs_walk (x : ImV) (m : ImP) (pi : Int) (l : List Int) (w : World) (h : x.Is w m) (hl : l.length = 16) (hN : Nms w) :
    Calls Tryz.prog 4 #[x.v, .int .i64 pi, .agg (l.map (Value.int .i64)).toArray] w fun e w' => e = .returned (.bool true) ∧ Below w.heap.size w w' := by
  have KN := Lib.hid (fun W (hb : Below w.heap.size w W) => known_any W (hN.below hb))
  obtain ⟨lg, hlg⟩ : ∃ lg, lightE m = lg := ⟨_, rfl⟩
  have LG := Lib.hid (fun W (hb : Below w.heap.size w W) => light_any x m W (h.below hb) lg hlg)
  obtain ⟨er, he⟩ : ∃ er, taskE m pi = er := ⟨_, rfl⟩
  obtain ⟨ns, hn⟩ : ∃ ns, slW m pi = ns := ⟨_, rfl⟩
  have CS := Lib.hid (fun W (hb : Below w.heap.size w W) => slots_any x m pi W (h.below hb) (hN.below hb) ns er he hn)
  have CT := Lib.hid (fun W (hb : Below w.heap.size w W) => task_any x m pi W (h.below hb) (hN.below hb) er he)
  have HI := Lib.hid h
  have HN := Lib.hid (fun W (hb : Below w.heap.size w W) => hN.below hb)
  have HE := Lib.hid he
  have HNS := Lib.hid hn
  clear hlg h hN he hn
  obtain ⟨sw, la, cm, inp, ⟨sa, sn, sc⟩, ⟨ba, bn, bc⟩, ⟨ta, tn, tc⟩⟩ := x
  simp only [ImV.v, Sl.v] at LG CS CT ⊢
  have ST := Lib.hid (fun W F b L v (hM : Mac W F b L v) (hg : v.goes = false) => start_run W F b L v l hM hl hg)
  have BI := box_in (w.alloc (.cells #[.int .i64 sw, .int .i64 la, .int .i64 cm, .int .i64 inp, .slice sa sn sc, .slice ba bn bc, .slice ta tn tc] 26)) l hl
  have hs1 : (w.alloc (.cells #[.int .i64 sw, .int .i64 la, .int .i64 cm, .int .i64 inp, .slice sa sn sc, .slice ba bn bc, .slice ta tn tc] 26)).heap.size = w.heap.size + 1 := Array.size_push _
  simp only [hs1] at BI
  obtain ⟨LA, hLA⟩ : ∃ LA, LA = l.map (Value.int .i64) := ⟨_, rfl⟩
  rw [← hLA] at BI ST ⊢
  have LD := Lib.hid BI
  have C1 := cells_new w #[.int .i64 sw, .int .i64 la, .int .i64 cm, .int .i64 inp, .slice sa sn sc, .slice ba bn bc, .slice ta tn tc] 26
  have B2 := below_alloc (w.alloc (.cells #[.int .i64 sw, .int .i64 la, .int .i64 cm, .int .i64 inp, .slice sa sn sc, .slice ba bn bc, .slice ta tn tc] 26)) (.cells LA.toArray 46)
  have C0 : Hid (∀ j v, (#[.int .i64 sw, .int .i64 la, .int .i64 cm, .int .i64 inp, .slice sa sn sc, .slice ba bn bc, .slice ta tn tc] : Array Value).toList[j]? = some v → ((w.alloc (.cells #[.int .i64 sw, .int .i64 la, .int .i64 cm, .int .i64 inp, .slice sa sn sc, .slice ba bn bc, .slice ta tn tc] 26)).alloc (.cells LA.toArray 46)).cell? ⟨w.heap.size, j, none⟩ = some v) := fun j v hj => keep_cell B2 (C1 j v hj)
  have B0 := Lib.hid (keep_below (below_alloc w (.cells #[.int .i64 sw, .int .i64 la, .int .i64 cm, .int .i64 inp, .slice sa sn sc, .slice ba bn bc, .slice ta tn tc] 26)) B2)
  clear BI hLA C1 B2 hs1 hl
  by_cases z : lg = 0
  · have e1 : (lg == 0) = true := by simpa using z
    clear z CS CT HI HN HE HNS ST LD
    go_enter Tryz.func4, Tryz.ntmps4
    go_wp2_with (first
      | (go_at_call 5; refine (LG.out _ B0.out).mono ?_; rintro e w1 ⟨rfl, hb1⟩; have b1 := keep_below B0.out hb1)
      | (go_at_call 6; refine (KN.out _ b1).mono ?_; rintro e w2 ⟨rfl, hb2⟩))
    go_ret
    exact ⟨rfl, keep_below b1 hb2⟩
  have e1 : (lg == 0) = false := by simpa using z
  clear z
  by_cases z0 : er = 0
  rotate_left
  · have e2 : (er != 0) = true := by simpa using z0
    have e3 : (er == 0) = false := by simpa using z0
    clear z0 CS HI HN HE HNS ST LD
    go_enter Tryz.func4, Tryz.ntmps4
    go_wp2_with (first
      | (go_at_call 5; refine (LG.out _ B0.out).mono ?_; rintro e w1 ⟨rfl, hb1⟩; have b1 := keep_below B0.out hb1; have c0 := keep_cell hb1 (C0.out 0 _ rfl); have c1 := keep_cell hb1 (C0.out 1 _ rfl); have c2 := keep_cell hb1 (C0.out 2 _ rfl); have c3 := keep_cell hb1 (C0.out 3 _ rfl); have c4 := keep_cell hb1 (C0.out 4 _ rfl); have c5 := keep_cell hb1 (C0.out 5 _ rfl); have c6 := keep_cell hb1 (C0.out 6 _ rfl))
      | (go_at_call 14; refine (CT.out _ b1).mono ?_; rintro e w2 ⟨rfl, hb2⟩; have b2 := keep_below b1 hb2)
      | (go_at_call 6; refine (KN.out _ b2).mono ?_; rintro e w3 ⟨rfl, hb3⟩))
    go_ret
    exact ⟨rfl, keep_below b2 hb3⟩
  subst z0
  obtain ⟨h1, h2, h3, h4⟩ := taskE_zero HE.out
  obtain ⟨n1, n2, n3, n4⟩ := numE_parts (imE_parts h1).1
  have hlen : tn = m.tasks.length := HI.out.2.2.2.2.2.2.1.1
  obtain ⟨kk, rfl⟩ : ∃ kk : Nat, pi = (kk : Int) := ⟨pi.toNat, by omega⟩
  obtain ⟨b, off, ⟨pr, pe, de, ji, ⟨xa, xn, xc⟩, ⟨oa, on, oc⟩, ⟨ca, cn, cc⟩⟩, T, ha, hbl, hT, ht, hcs⟩ := HI.out.task (k := kk) (by show kk < tn; omega)
  simp only at ha
  subst ha
  have eT : tkAt m (kk : Int) = T := by unfold tkAt; rw [Int.toNat_natCast, List.getD_eq_getElem?_getD, hT]; rfl
  rw [eT] at h4
  have hTm : T ∈ m.tasks := List.mem_of_getElem? hT
  have hc1 := (wrE_zero h4).1
  have tk := takes_of hc1
  obtain ⟨U, hU⟩ : ∃ U, U = ub true T.co 0 + 1 := ⟨_, rfl⟩
  have hnsU : ns = m.sw + m.la + (U : Int) + m.cm + m.sw := by
    rw [← HNS.out, hU]; unfold slW cW; rw [if_pos HE.out, eT, if_pos hc1]
  rw [← (show sw = m.sw from HI.out.1), ← (show la = m.la from HI.out.2.1), ← (show cm = m.cm from HI.out.2.2.1)] at hnsU
  rw [← (show sw = m.sw from HI.out.1)] at n1
  rw [← (show la = m.la from HI.out.2.1)] at n2
  rw [← (show cm = m.cm from HI.out.2.2.1)] at n3
  have HNU := Lib.hid hnsU
  clear hnsU
  have HU : Hid (∀ M k, (it T.co k (begun fresh.ret l, M)).1.goes = true → k < U) := fun M k hg => by rw [hU]; exact run_less tk _ _ _ _ hg
  have HW := Lib.hid h4
  have HTM := Lib.hid hTm
  have HIM := Lib.hid h1
  have TK := Lib.hid tk
  have HT := Lib.hid ht
  have HCO := Lib.hid ht.2.2.2.2.2.2.1
  have NW := Lib.hid (fun W (hb : Below w.heap.size w W) => new_any ca cn cc T.co W (HCO.out.below hb) (HN.out W hb))
  have D0 := Lib.hid hcs
  have hq2 := eqlp_nil
  have i1 : (0 : Int) ≤ (kk : Int) := by omega
  have i2 : (kk : Int) < (tn : Int) := by omega
  clear hbl hT eT h4 hTm hc1 tk hU h1 ht hcs h2 h3 hlen
  by_cases hbig : 20000 < ns
  · have e3 : decide ((20000 : Int) < ns) = true := decide_eq_true hbig
    have hq3 := neqp_nil
    clear hbig HNU HU
    go_enter Tryz.func4, Tryz.ntmps4
    go_upto_region 4 with (first
      | (go_at_call 5; refine (LG.out _ B0.out).mono ?_; rintro e w1 ⟨rfl, hb1⟩; have b1 := keep_below B0.out hb1; have c0 := keep_cell hb1 (C0.out 0 _ rfl); have c1 := keep_cell hb1 (C0.out 1 _ rfl); have c2 := keep_cell hb1 (C0.out 2 _ rfl); have c3 := keep_cell hb1 (C0.out 3 _ rfl); have c4 := keep_cell hb1 (C0.out 4 _ rfl); have c5 := keep_cell hb1 (C0.out 5 _ rfl); have c6 := keep_cell hb1 (C0.out 6 _ rfl))
      | (go_at_call 14; refine (CT.out _ b1).mono ?_; rintro e w2 ⟨rfl, hb2'⟩; have b2 := keep_below b1 hb2'; have hb2 := keep_below hb1 hb2'; have d0 := keep_cell hb2 (C0.out 0 _ rfl); have d1 := keep_cell hb2 (C0.out 1 _ rfl); have d2 := keep_cell hb2 (C0.out 2 _ rfl); have d3 := keep_cell hb2 (C0.out 3 _ rfl); have d4 := keep_cell hb2 (C0.out 4 _ rfl); have d5 := keep_cell hb2 (C0.out 5 _ rfl); have d6 := keep_cell hb2 (C0.out 6 _ rfl))
      | (go_at_call 8; refine (CS.out _ b2).mono ?_; rintro e w3 ⟨rfl, hb3'⟩; have b3 := keep_below b2 hb3'; have hb3 := keep_below hb2 hb3'))
    have g6 := keep_cell hb3 (C0.out 6 _ rfl)
    have t6 : w3.cell? ⟨b, off + kk * 7 + 6, none⟩ = some (.slice ca cn cc) := keep_cell b3 (D0.out 6 _ rfl)
    go_wp2_with (first
      | (go_at_call 17; refine (NW.out _ b3).mono ?_; rintro e w4 hG; obtain ⟨bm, F, rfl, hM, hlo, hb4⟩ := hG.ok TK.out; have LD4 := LD.out w4 (keep_below hb3 hb4))
      | (go_at_call 18; refine (ST.out _ F bm _ fresh hM rfl).mono ?_; rintro e w5 ⟨rfl, hM5, g5⟩; have b4 := keep_below b3 hb4; have hlw : ∀ k, F k → w.heap.size ≤ k := fun k hk => Nat.le_trans b3.size (hlo k hk); have b5 := b4.trans (g5.lowB hlw (hlw bm hM.fb) b4.size))
      | (go_at_call 6; refine (KN.out _ b5).mono ?_; rintro e w6 ⟨rfl, hb6⟩))
    go_ret
    exact ⟨rfl, keep_below b5 hb6⟩
  · have e3 : decide ((20000 : Int) < ns) = false := decide_eq_false hbig
    have hn20 : ns ≤ 20000 := by omega
    clear hbig
    go_enter Tryz.func4, Tryz.ntmps4
    go_upto_region 4 with (first
      | (go_at_call 5; refine (LG.out _ B0.out).mono ?_; rintro e w1 ⟨rfl, hb1⟩; have b1 := keep_below B0.out hb1; have c0 := keep_cell hb1 (C0.out 0 _ rfl); have c1 := keep_cell hb1 (C0.out 1 _ rfl); have c2 := keep_cell hb1 (C0.out 2 _ rfl); have c3 := keep_cell hb1 (C0.out 3 _ rfl); have c4 := keep_cell hb1 (C0.out 4 _ rfl); have c5 := keep_cell hb1 (C0.out 5 _ rfl); have c6 := keep_cell hb1 (C0.out 6 _ rfl))
      | (go_at_call 14; refine (CT.out _ b1).mono ?_; rintro e w2 ⟨rfl, hb2'⟩; have b2 := keep_below b1 hb2'; have hb2 := keep_below hb1 hb2'; have d0 := keep_cell hb2 (C0.out 0 _ rfl); have d1 := keep_cell hb2 (C0.out 1 _ rfl); have d2 := keep_cell hb2 (C0.out 2 _ rfl); have d3 := keep_cell hb2 (C0.out 3 _ rfl); have d4 := keep_cell hb2 (C0.out 4 _ rfl); have d5 := keep_cell hb2 (C0.out 5 _ rfl); have d6 := keep_cell hb2 (C0.out 6 _ rfl))
      | (go_at_call 8; refine (CS.out _ b2).mono ?_; rintro e w3 ⟨rfl, hb3'⟩; have b3 := keep_below b2 hb3'; have hb3 := keep_below hb2 hb3'))
    have g6 := keep_cell hb3 (C0.out 6 _ rfl)
    have t6 : w3.cell? ⟨b, off + kk * 7 + 6, none⟩ = some (.slice ca cn cc) := keep_cell b3 (D0.out 6 _ rfl)
    go_upto_region 7 with (first
      | (go_at_call 17; refine (NW.out _ b3).mono ?_; rintro e w4 hG; obtain ⟨bm, F, rfl, hM, hlo, hb4⟩ := hG.ok TK.out; have LD4 := LD.out w4 (keep_below hb3 hb4))
      | (go_at_call 18; refine (ST.out _ F bm _ fresh hM rfl).mono ?_; rintro e w5 ⟨rfl, hM5, g5⟩; have b4 := keep_below b3 hb4; have hlw : ∀ k, F k → w.heap.size ≤ k := fun k hk => Nat.le_trans b3.size (hlo k hk); have b5 := b4.trans (g5.lowB hlw (hlw bm hM.fb) b4.size)))
    have hWs : w.heap.size + 2 ≤ w3.heap.size := by have := hb3.size; simp at this; omega
    have KC : Kept F bm w4 w.heap.size := ⟨by have := hb4.size; omega, fun e => by have := hlo _ e; omega, fun e => by have := hlo _ hM.fb; omega⟩
    have HC5 : Hid (∀ j v, (#[.int .i64 sw, .int .i64 la, .int .i64 cm, .int .i64 inp, .slice sa sn sc, .slice ba bn bc, .slice (some ⟨b, off, none⟩) tn tc] : Array Value).toList[j]? = some v → w5.cell? ⟨w.heap.size, j, none⟩ = some v) := fun j v hj => KC.cell g5 (keep_cell (keep_below hb3 hb4) (C0.out j v hj))
    have h6 := HC5.out 6 _ rfl
    have t0 : w5.cell? ⟨b, off + kk * 7, none⟩ = some (.int .i64 pr) := keep_cell b5 (D0.out 0 _ rfl)
    have t1 : w5.cell? ⟨b, off + kk * 7 + 1, none⟩ = some (.int .i64 pe) := keep_cell b5 (D0.out 1 _ rfl)
    have t2 : w5.cell? ⟨b, off + kk * 7 + 2, none⟩ = some (.int .i64 de) := keep_cell b5 (D0.out 2 _ rfl)
    have t3 : w5.cell? ⟨b, off + kk * 7 + 3, none⟩ = some (.int .i64 ji) := keep_cell b5 (D0.out 3 _ rfl)
    have t4 : w5.cell? ⟨b, off + kk * 7 + 4, none⟩ = some (.slice xa xn xc) := keep_cell b5 (D0.out 4 _ rfl)
    have t5 : w5.cell? ⟨b, off + kk * 7 + 5, none⟩ = some (.slice oa on oc) := keep_cell b5 (D0.out 5 _ rfl)
    have t7 : w5.cell? ⟨b, off + kk * 7 + 6, none⟩ = some (.slice ca cn cc) := keep_cell b5 (D0.out 6 _ rfl)
    have sTB : (w5.alloc (.cells #[.int .i64 pr, .int .i64 pe, .int .i64 de, .int .i64 ji, .slice xa xn xc, .slice oa on oc, .slice ca cn cc] 52)).heap.size = w5.heap.size + 1 := Array.size_push _
    have cD := cells_new w5 #[.int .i64 pr, .int .i64 pe, .int .i64 de, .int .i64 ji, .slice xa xn xc, .slice oa on oc, .slice ca cn cc] 52
    have bA := below_alloc w5 (.cells #[.int .i64 pr, .int .i64 pe, .int .i64 de, .int .i64 ji, .slice xa xn xc, .slice oa on oc, .slice ca cn cc] 52)
    have bB := below_alloc (w5.alloc (.cells #[.int .i64 pr, .int .i64 pe, .int .i64 de, .int .i64 ji, .slice xa xn xc, .slice oa on oc, .slice ca cn cc] 52)) (.cells #[.int .i64 0, .int .i64 0, .int .i64 0, .int .i64 0, .int .i64 0, .int .i64 0, .int .i64 0, .int .i64 0, .int .i64 0, .int .i64 0, .int .i64 0, .int .i64 0, .int .i64 0, .int .i64 0, .int .i64 0, .int .i64 0, .int .i64 0, .int .i64 0, .int .i64 0, .int .i64 0, .int .i64 0, .int .i64 0, .int .i64 0, .int .i64 0, .int .i64 0, .int .i64 0, .int .i64 0, .int .i64 0, .int .i64 0, .int .i64 0, .int .i64 0, .int .i64 0, .int .i64 0, .int .i64 0, .int .i64 0, .int .i64 0, .int .i64 0, .int .i64 0, .int .i64 0, .int .i64 0, .int .i64 0, .int .i64 0, .int .i64 0, .int .i64 0, .int .i64 0, .int .i64 0, .int .i64 0, .int .i64 0, .int .i64 0, .int .i64 0, .int .i64 0, .int .i64 0, .int .i64 0, .int .i64 0, .int .i64 0, .int .i64 0, .int .i64 0, .int .i64 0, .int .i64 0, .int .i64 0, .int .i64 0, .int .i64 0, .int .i64 0, .int .i64 0] 58)
    have mL := mem_lit (w5.alloc (.cells #[.int .i64 pr, .int .i64 pe, .int .i64 de, .int .i64 ji, .slice xa xn xc, .slice oa on oc, .slice ca cn cc] 52)) #[.int .i64 0, .int .i64 0, .int .i64 0, .int .i64 0, .int .i64 0, .int .i64 0, .int .i64 0, .int .i64 0, .int .i64 0, .int .i64 0, .int .i64 0, .int .i64 0, .int .i64 0, .int .i64 0, .int .i64 0, .int .i64 0, .int .i64 0, .int .i64 0, .int .i64 0, .int .i64 0, .int .i64 0, .int .i64 0, .int .i64 0, .int .i64 0, .int .i64 0, .int .i64 0, .int .i64 0, .int .i64 0, .int .i64 0, .int .i64 0, .int .i64 0, .int .i64 0, .int .i64 0, .int .i64 0, .int .i64 0, .int .i64 0, .int .i64 0, .int .i64 0, .int .i64 0, .int .i64 0, .int .i64 0, .int .i64 0, .int .i64 0, .int .i64 0, .int .i64 0, .int .i64 0, .int .i64 0, .int .i64 0, .int .i64 0, .int .i64 0, .int .i64 0, .int .i64 0, .int .i64 0, .int .i64 0, .int .i64 0, .int .i64 0, .int .i64 0, .int .i64 0, .int .i64 0, .int .i64 0, .int .i64 0, .int .i64 0, .int .i64 0, .int .i64 0] (List.replicate 64 0) rfl rfl
    rw [sTB] at mL
    have R0 : Rn w (#[.int .i64 sw, .int .i64 la, .int .i64 cm, .int .i64 inp, .slice sa sn sc, .slice ba bn bc, .slice (some ⟨b, off, none⟩) tn tc] : Array Value).toList (#[.int .i64 pr, .int .i64 pe, .int .i64 de, .int .i64 ji, .slice xa xn xc, .slice oa on oc, .slice ca cn cc] : Array Value).toList F bm w5.heap.size (w5.heap.size + 1) T.co (begun fresh.ret l, List.replicate 64 0) ((w5.alloc (.cells #[.int .i64 pr, .int .i64 pe, .int .i64 de, .int .i64 ji, .slice xa xn xc, .slice oa on oc, .slice ca cn cc] 52)).alloc (.cells #[.int .i64 0, .int .i64 0, .int .i64 0, .int .i64 0, .int .i64 0, .int .i64 0, .int .i64 0, .int .i64 0, .int .i64 0, .int .i64 0, .int .i64 0, .int .i64 0, .int .i64 0, .int .i64 0, .int .i64 0, .int .i64 0, .int .i64 0, .int .i64 0, .int .i64 0, .int .i64 0, .int .i64 0, .int .i64 0, .int .i64 0, .int .i64 0, .int .i64 0, .int .i64 0, .int .i64 0, .int .i64 0, .int .i64 0, .int .i64 0, .int .i64 0, .int .i64 0, .int .i64 0, .int .i64 0, .int .i64 0, .int .i64 0, .int .i64 0, .int .i64 0, .int .i64 0, .int .i64 0, .int .i64 0, .int .i64 0, .int .i64 0, .int .i64 0, .int .i64 0, .int .i64 0, .int .i64 0, .int .i64 0, .int .i64 0, .int .i64 0, .int .i64 0, .int .i64 0, .int .i64 0, .int .i64 0, .int .i64 0, .int .i64 0, .int .i64 0, .int .i64 0, .int .i64 0, .int .i64 0, .int .i64 0, .int .i64 0, .int .i64 0, .int .i64 0] 58)) := by
      have s5 := g5.size
      have s4 := hb4.size
      have bAB := keep_below bA bB
      have sAB := bAB.size
      refine ⟨⟨hM5.below bAB, mL, fun e => by have := hM5.lt _ e; omega, hlw, by have := b5.size; omega, keep_below b5 bAB⟩, ⟨by omega, fun e => by have := hlo _ e; omega, by omega⟩, ⟨by have := bB.size; rw [sTB] at this; omega, fun e => by have := hM5.lt _ e; omega, by omega⟩, fun j u e => keep_cell bAB (HC5.out j u e), fun j u e => keep_cell bB (cD j u e)⟩
    have HR0 := Lib.hid R0
    clear R0 mL bA bB cD hM hM5 g5 hlo hlw b5 b4 b3 hb4 hb3 KC hb1 hb2 hb2' hb3' b1 b2 LD4 g6 t6 hWs
    go_upto_region 9 with (fail)
    obtain ⟨TB, hTB⟩ : ∃ TB, TB = w5.heap.size := ⟨_, rfl⟩
    obtain ⟨mb, hmb⟩ : ∃ mb, mb = w5.heap.size + 1 := ⟨_, rfl⟩
    rw [← hmb, ← hTB] at HR0 ⊢
    generalize (w5.alloc (.cells #[.int .i64 pr, .int .i64 pe, .int .i64 de, .int .i64 ji, .slice xa xn xc, .slice oa on oc, .slice ca cn cc] 52)).alloc (.cells #[.int .i64 0, .int .i64 0, .int .i64 0, .int .i64 0, .int .i64 0, .int .i64 0, .int .i64 0, .int .i64 0, .int .i64 0, .int .i64 0, .int .i64 0, .int .i64 0, .int .i64 0, .int .i64 0, .int .i64 0, .int .i64 0, .int .i64 0, .int .i64 0, .int .i64 0, .int .i64 0, .int .i64 0, .int .i64 0, .int .i64 0, .int .i64 0, .int .i64 0, .int .i64 0, .int .i64 0, .int .i64 0, .int .i64 0, .int .i64 0, .int .i64 0, .int .i64 0, .int .i64 0, .int .i64 0, .int .i64 0, .int .i64 0, .int .i64 0, .int .i64 0, .int .i64 0, .int .i64 0, .int .i64 0, .int .i64 0, .int .i64 0, .int .i64 0, .int .i64 0, .int .i64 0, .int .i64 0, .int .i64 0, .int .i64 0, .int .i64 0, .int .i64 0, .int .i64 0, .int .i64 0, .int .i64 0, .int .i64 0, .int .i64 0, .int .i64 0, .int .i64 0, .int .i64 0, .int .i64 0, .int .i64 0, .int .i64 0, .int .i64 0, .int .i64 0] 58) = W8 at HR0 ⊢
    clear hTB hmb h6 t0 t1 t2 t3 t4 t5 t7 sTB HC5
    obtain ⟨v0, hv0⟩ : ∃ v0, v0 = begun fresh.ret l := ⟨_, rfl⟩
    rw [← hv0] at HR0
    have HV0 := Lib.hid hv0
    clear hv0
    go_wp2
    go_loopw [13] (fun i wr => ∃ (k : Nat) (M : List Int), k ≤ 8 ∧ i = .int .i64 (k : Int) ∧ Hid (M.length = 64 ∧ ∀ j, j < k * 8 → M.getD j 0 = 77) ∧ Hid (Rn w (#[.int .i64 sw, .int .i64 la, .int .i64 cm, .int .i64 inp, .slice sa sn sc, .slice ba bn bc, .slice (some ⟨b, off, none⟩) tn tc] : Array Value).toList (#[.int .i64 pr, .int .i64 pe, .int .i64 de, .int .i64 ji, .slice xa xn xc, .slice oa on oc, .slice ca cn cc] : Array Value).toList F bm TB mb T.co (v0, M) wr)) (fun i _ => 8 - (intOf i).toNat)
    case atStart => exact ⟨0, _, by omega, rfl, ⟨rfl, fun j hj => absurd hj (by omega)⟩, HR0⟩
    case round =>
      obtain ⟨k, M, hk, rfl, HM, HR⟩ := hrel
      clear HR0
      by_cases hk8 : k < 8
      · have q1 : (k : Int) < 8 := by omega
        have q3 : (0 : Int) ≤ (k : Int) := by omega
        go_wp2
        go_loopw [14] (fun i wr => ∃ (q : Nat) (M : List Int), q ≤ 8 ∧ i = .int .i64 (q : Int) ∧ Hid (M.length = 64 ∧ ∀ j, j < k * 8 + q → M.getD j 0 = 77) ∧ Hid (Rn w (#[.int .i64 sw, .int .i64 la, .int .i64 cm, .int .i64 inp, .slice sa sn sc, .slice ba bn bc, .slice (some ⟨b, off, none⟩) tn tc] : Array Value).toList (#[.int .i64 pr, .int .i64 pe, .int .i64 de, .int .i64 ji, .slice xa xn xc, .slice oa on oc, .slice ca cn cc] : Array Value).toList F bm TB mb T.co (v0, M) wr)) (fun i _ => 8 - (intOf i).toNat)
        case atStart => exact ⟨0, M, by omega, rfl, HM, HR⟩
        case round =>
          clear HM HR
          obtain ⟨q, M, hq, rfl, HM, HR⟩ := hrel
          by_cases hq8 : q < 8
          · have q2 : (q : Int) < 8 := by omega
            have q4 : (0 : Int) ≤ (q : Int) := by omega
            have rI := HR.out.run.mem.2
            have c1 : wr.cell? ⟨mb, k * 8 + q, none⟩ = some (.int .i64 (M.getD (k * 8 + q) 0)) := rI.cell (by omega)
            have f1 : wr.frozen? ⟨mb, k * 8 + q, none⟩ = false := rI.frozen _
            have HP := Lib.hid (HR.out.poke (k * 8 + q) 77)
            have HM2 : Hid ((M.set (k * 8 + q) 77).length = 64 ∧ ∀ j, j < k * 8 + (q + 1) → (M.set (k * 8 + q) 77).getD j 0 = 77) := by
              refine ⟨by rw [List.length_set]; exact HM.out.1, fun j hj => ?_⟩
              rw [List.getD_eq_getElem?_getD, List.getElem?_set]
              by_cases e : k * 8 + q = j
              · rw [if_pos e, if_pos (by rw [HM.out.1]; omega)]; rfl
              · rw [if_neg e, ← List.getD_eq_getElem?_getD]; exact HM.out.2 j (by omega)
            clear rI
            go_wp2
            go_roundw
            case rel => exact ⟨q + 1, _, by omega, by go_num, HM2, HP⟩
            case measure => simp [intOf]; omega
          · obtain rfl : q = 8 := by omega
            have HM2 : Hid (M.length = 64 ∧ ∀ j, j < (k + 1) * 8 → M.getD j 0 = 77) := ⟨HM.out.1, fun j hj => HM.out.2 j (by omega)⟩
            go_wp2
            go_roundw
            case rel => exact ⟨k + 1, M, by omega, by go_num, HM2, HR⟩
            case measure => simp [intOf]; omega
      · obtain rfl : k = 8 := by omega
        have hM77 : M = List.replicate 64 77 := by
          refine List.ext_getElem (by rw [HM.out.1]; rfl) fun j h1 h2 => ?_
          have := HM.out.2 j (by rw [HM.out.1] at h1; omega)
          rw [List.getD_eq_getElem?_getD, List.getElem?_eq_getElem h1] at this
          rw [List.getElem_replicate]; exact this
        obtain ⟨x0, hx0⟩ : ∃ x0, x0 = (v0, M) := ⟨_, rfl⟩
        have hx1 : x0 = (begun fresh.ret l, List.replicate 64 77) := by rw [hx0, HV0.out, hM77]
        have FI : Hid (∀ k, Fine T.co (it T.co k x0).1) := fun k => by rw [hx1]; exact Fine.it (x := (begun fresh.ret l, List.replicate 64 77)) (Or.inl (TK.out.begun _ _)) TK.out k
        have HU2 : Hid (∀ k, (it T.co k x0).1.goes = true → k < U) := fun k => by rw [hx1]; exact HU.out _ k
        have HS0 : Hid ((it T.co 0 x0).1.stp = ((0 : Nat) : Int)) := by rw [hx1]; rfl
        have HA0 : Hid (Sane m T.ou (it T.co 0 x0)) := by rw [hx1]; exact Sane.begun m T.ou _ _
        rw [← hx0] at HR
        have HR1 : Hid (Rn w (#[.int .i64 sw, .int .i64 la, .int .i64 cm, .int .i64 inp, .slice sa sn sc, .slice ba bn bc, .slice (some ⟨b, off, none⟩) tn tc] : Array Value).toList (#[.int .i64 pr, .int .i64 pe, .int .i64 de, .int .i64 ji, .slice xa xn xc, .slice oa on oc, .slice ca cn cc] : Array Value).toList F bm TB mb T.co (it T.co 0 x0) wr) := HR
        clear hM77 hx0 hx1 HM HR HU HV0 hk8 hk
        go_wp2
        go_loopw [16] (fun g wr => ∃ (k : Nat) (F : Nat → Prop), k ≤ U ∧ Hid ((it T.co k x0).1.stp = ((k : Nat) : Int)) ∧ Hid (Sane m T.ou (it T.co k x0)) ∧ Hid (Rn w (#[.int .i64 sw, .int .i64 la, .int .i64 cm, .int .i64 inp, .slice sa sn sc, .slice ba bn bc, .slice (some ⟨b, off, none⟩) tn tc] : Array Value).toList (#[.int .i64 pr, .int .i64 pe, .int .i64 de, .int .i64 ji, .slice xa xn xc, .slice oa on oc, .slice ca cn cc] : Array Value).toList F bm TB mb T.co (it T.co k x0) wr)) (fun g wr => U + 1 - (intOf ((wr.cell? ⟨bm, 73, none⟩).getD undef)).toNat)
        case atStart => exact ⟨0, F, by omega, HS0, HA0, HR1⟩
        case round =>
          clear HS0 HA0 HR1
          obtain ⟨k, F, hk, HS, HA, HR⟩ := hrel
          have Fk := FI.out k
          have hless := HU2.out k
          have hU20 : (U : Int) ≤ 20000 ∧ (U : Int) ≤ ns := by have := HNU.out; omega
          obtain ⟨y, hy⟩ : ∃ y, y = it T.co k x0 := ⟨_, rfl⟩
          have HY1 : Hid (it T.co (k + 1) x0 = nxt T.co y) := by show _ = _; rw [hy]; rfl
          rw [← hy] at HS HA HR Fk hless
          clear hy
          have RN : Hid (∀ W F', Mac W F' bm T.co y.1 → Calls Tryz.prog 19 #[.pointer (some ⟨bm, 0, none⟩)] W fun e w' => e = .returned (.bool y.1.goes) ∧ W = w') := fun W F' h => running_any W F' bm T.co y.1 h
          have SP : Hid (∀ W F', Mac W F' bm T.co y.1 → Calls Tryz.prog 20 #[.pointer (some ⟨bm, 0, none⟩)] W fun e w' => e = .returned (.int .i64 (k : Int)) ∧ W = w') := fun W F' h => by
            have := steps_any W F' bm T.co y.1 h; rw [HS.out] at this; exact this
          by_cases hg : y.1.goes = true
          · have A : Agr T.co y.1 := by
              rcases Fk with h | h
              · exact h
              · rw [h.1] at hg; cases hg
            have hkU := hless hg
            have hh := held_byte TK.out A
            obtain ⟨hv, hhv⟩ : ∃ hv, hv = y.1.held := ⟨_, rfl⟩
            rw [← hhv] at hh
            have HD : Hid (∀ W F', Mac W F' bm T.co y.1 → Calls Tryz.prog 21 #[.pointer (some ⟨bm, 0, none⟩)] W fun e w' => e = .returned (.int .i64 hv) ∧ W = w') := fun W F' h => by
              have := held8_any W F' bm T.co y.1 h; rw [← hhv] at this; exact this
            have e5 : decide ((k : Int) < ns) = true := decide_eq_true (by omega)
            have e6 : decide (hv < 0) = false := decide_eq_false (by omega)
            have e7 : decide (255 < hv) = false := decide_eq_false (by omega)
            obtain ⟨t1, t2, ht⟩ : ∃ t1 t2, told T.co y.1 = (t1, t2, 0) := ⟨_, _, by unfold told; rw [if_pos hg]⟩
            have ST2 : Hid (Calls Tryz.prog 22 #[.pointer (some ⟨bm, 0, none⟩), .pointer (some ⟨mb, 0, none⟩)] wr fun e w' => e = .returned (.tuple #[.agg #[.int .i64 t1, .int .i64 t2], .int .i64 0]) ∧ ∃ F', Rn w (#[.int .i64 sw, .int .i64 la, .int .i64 cm, .int .i64 inp, .slice sa sn sc, .slice ba bn bc, .slice (some ⟨b, off, none⟩) tn tc] : Array Value).toList (#[.int .i64 pr, .int .i64 pe, .int .i64 de, .int .i64 ji, .slice xa xn xc, .slice oa on oc, .slice ca cn cc] : Array Value).toList F' bm TB mb T.co (it T.co (k + 1) x0) w') := by
              have := HR.out.step Fk TK.out
              rw [ht, ← HY1.out] at this; exact this
            have HS2 : Hid ((it T.co (k + 1) x0).1.stp = ((k + 1 : Nat) : Int)) := by show _ = _; rw [HY1.out]; exact nxt_stp hg HS.out (by omega)
            have HA2 : Hid (Sane m T.ou (it T.co (k + 1) x0)) := by show Sane _ _ _; rw [HY1.out]; exact Sane.next HIM.out HTM.out HW.out A HA.out
            have MC : Hid (wr.cell? ⟨bm, 73, none⟩ = some (.int .i64 (k : Int))) := by have := HR.out.run.m.c73; rw [HS.out] at this; exact this
            rw [hg] at RN
            clear A Fk hless hh hhv ht hg
            go_wp2_with (first
              | (go_at_call 22; refine ST2.out.mono ?_; rintro e w6 ⟨rfl, F', h6⟩)
              | (go_at_call 19; refine (RN.out _ F HR.out.run.m).mono ?_; rintro e w8 ⟨rfl, rfl⟩)
              | (go_at_call 20; refine (SP.out _ F HR.out.run.m).mono ?_; rintro e w8 ⟨rfl, rfl⟩)
              | (go_at_call 21; refine (HD.out _ F HR.out.run.m).mono ?_; rintro e w8 ⟨rfl, rfl⟩))
            go_roundw
            case rel => exact ⟨k + 1, F', by omega, HS2, HA2, h6.below (below_alloc _ _)⟩
            case measure =>
              have m1 := (h6.below (below_alloc _ (.cells #[.int .i64 t1, .int .i64 t2] 61))).run.m.c73
              rw [HS2.out] at m1
              rw [m1, MC.out]
              simp [intOf]; omega
          · have hgf : y.1.goes = false := by
              cases hq : y.1.goes
              · rfl
              · exact absurd hq hg
            rw [hgf] at RN
            have hol := HR.out.run.m.lens.2.2.2
            have hO : outTo y.1 16 = outsOf y.1.outs 0 := by unfold outTo; rw [List.take_of_length_le (by rw [hol]; exact Nat.le_refl _)]
            have OU := outs_any wr F bm T.co y.1 HR.out.run.m
            have hno := outTo_len y.1 16
            rw [hO] at OU hno
            obtain ⟨O, hOO⟩ : ∃ O, O = outsOf y.1.outs 0 := ⟨_, rfl⟩
            rw [← hOO] at OU hno
            have HOM : Hid (∀ {q : Nat} {z : Int × Int}, O[q]? = some z → T.ou.contains z.1 = true) := by rw [hOO]; exact HA.out.outs_mem
            have HOU := Lib.hid OU
            have HHA : Hid (∀ k w, k < 8 → w < 8 → ¬ (k < m.blocks.length ∧ w < (m.blocks.getD k []).length) → y.2.getD (k * 8 + w) 0 = 77) := HA.out.mem
            obtain ⟨no, hnoo⟩ : ∃ no, no = O.length := ⟨_, rfl⟩
            rw [← hnoo] at hno HOU
            have HNO := Lib.hid hnoo
            clear OU hO hol hOO hnoo hg hgf Fk hless HS HA FI HU2 HY1
            go_wp2_with (first
              | (go_at_call 19; refine (RN.out _ F HR.out.run.m).mono ?_; rintro e w8 ⟨rfl, rfl⟩)
              | (go_at_call 23; refine HOU.out.mono ?_; rintro e w7 ⟨xo, rfl, hown, hb7⟩; obtain ⟨ao, co', rfl, hro, hnew⟩ := RowP.ownN (l := O) hown))
            have HR7 := Lib.hid (HR.out.below hb7)
            have RO := Lib.hid hro
            have HB7 := Lib.hid HR7.out.run.bel
            have HXO := Lib.hid (HT.out.2.2.2.2.2.1.1.below HB7.out)
            have hon : on = T.ou.length := HT.out.2.2.2.2.2.1.1.1
            have HON := Lib.hid hon
            have hom : on ≤ 140737488355328 := HT.out.2.2.2.2.2.1.2
            have HBK := Lib.hid (HI.out.2.2.2.2.2.1.1.below HB7.out)
            have hbn : bn = m.blocks.length := HI.out.2.2.2.2.2.1.1.1
            have HBN := Lib.hid hbn
            clear hown hro hnew hb7 HOU hon hbn HR
            go_loopw [18] (fun i wr => ∃ q : Nat, q ≤ no ∧ i = .int .i64 (q : Int) ∧ Below w7.heap.size w7 wr) (fun i _ => no - (intOf i).toNat)
            case atStart => exact ⟨0, by omega, rfl, Below.refl _ _⟩
            case round =>
              obtain ⟨q, hq, rfl, hb8⟩ := hrel
              by_cases hqn : q < no
              · obtain ⟨b7, o7, p1, p2, rfl, hB7, hx7, y1, y2⟩ := (RO.out.below hb8).at_ hqn
                have HC := Lib.hid (HOM.out hx7)
                have HX7 := Lib.hid hx7
                have HB8 := Lib.hid hb8
                clear hx7 y1 y2 hb8
                go_wp2
                go_loopw [19, 20] (fun ow o wr => ∃ (r : Nat) (z : Bool), r ≤ on ∧ ow = .bool z ∧ o = .int .i64 (r : Int) ∧ Hid (z = (T.ou.take r).contains p1) ∧ Below w7.heap.size w7 wr) (fun _ o _ => on - (intOf o).toNat)
                case atStart => exact ⟨0, false, by omega, rfl, rfl, rfl, HB8.out⟩
                case round =>
                  obtain ⟨r, z, hr, rfl, rfl, HZ, hb9⟩ := hrel
                  have d5 : wr.cell? ⟨TB, 5, none⟩ = some (.slice oa on oc) := (HR7.out.below hb9).d 5 _ rfl
                  by_cases hrn : r < on
                  · obtain ⟨b6, o6, z1, ea, hB6, hx6, hc6⟩ := (HXO.out.below hb9).item hrn
                    subst ea
                    obtain ⟨b5, o5, p3, p4, eb, hB5, hx5, y1, y2⟩ := (RO.out.below hb9).at_ hqn
                    obtain ⟨rfl, rfl⟩ : b7 = b5 ∧ o7 = o5 := by cases eb; exact ⟨rfl, rfl⟩
                    have i3 : (0 : Int) ≤ (r : Int) := by omega
                    have i4 : (r : Int) < (on : Int) := by omega
                    have i5 : (0 : Int) ≤ (q : Int) := by omega
                    have i6 : (q : Int) < (no : Int) := by omega
                    have hp3 : p3 = p1 := (Prod.mk.inj (Option.some.inj (hx5.symm.trans HX7.out))).1
                    subst hp3
                    have HTK := Lib.hid (take_cat hx6)
                    have HBB := Lib.hid hb9
                    clear hx6 hx5 eb y2
                    cases z
                    · by_cases e : z1 = p3
                      · subst e
                        have HZ2 : Hid (true = (T.ou.take (r + 1)).contains z1) := by show _ = _; rw [HTK.out]; simp
                        have e5 : (z1 == z1) = true := beq_self_eq_true _
                        clear HZ HTK hb9
                        go_wp2
                        go_quiet (fail)
                        go_wp2
                        go_roundw
                        case rel => exact ⟨r + 1, true, by omega, rfl, by go_num, HZ2, HBB.out.trans ⟨rfl, rfl, rfl, Nat.le_refl _, fun _ _ => rfl⟩⟩
                        case measure => simp [intOf]; omega
                      · have HZ2 : Hid (false = (T.ou.take (r + 1)).contains p3) := by
                          show _ = _
                          have h1 := HZ.out
                          rw [HTK.out]
                          simp only [List.contains_eq_mem, List.mem_append, List.mem_singleton, Bool.false_eq, decide_eq_false_iff_not, not_or] at h1 ⊢
                          exact ⟨h1, fun q => e q.symm⟩
                        have e5 : (z1 == p3) = false := by rw [beq_eq_false_iff_ne]; exact e
                        clear HZ HTK hb9 e
                        go_wp2
                        go_quiet (fail)
                        go_wp2
                        go_roundw
                        case rel => exact ⟨r + 1, false, by omega, rfl, by go_num, HZ2, HBB.out.trans ⟨rfl, rfl, rfl, Nat.le_refl _, fun _ _ => rfl⟩⟩
                        case measure => simp [intOf]; omega
                    · have HZ2 : Hid (true = (T.ou.take (r + 1)).contains p3) := by
                        show _ = _
                        have h1 := HZ.out
                        rw [HTK.out]
                        simp only [List.contains_eq_mem, List.mem_append, Bool.true_eq, decide_eq_true_eq] at h1 ⊢
                        exact Or.inl h1
                      clear HZ HTK hb9
                      go_wp2
                      go_quiet (fail)
                      go_wp2
                      go_roundw
                      case rel => exact ⟨r + 1, true, by omega, rfl, by go_num, HZ2, HBB.out.trans ⟨rfl, rfl, rfl, Nat.le_refl _, fun _ _ => rfl⟩⟩
                      case measure => simp [intOf]; omega
                  · obtain rfl : on = r := by omega
                    have hz : z = true := by rw [HZ.out, List.take_of_length_le (by rw [← HON.out]; exact Nat.le_refl _)]; exact HC.out
                    subst hz
                    clear HZ
                    go_wp2
                    go_roundw
                    case rel => exact ⟨q + 1, by omega, by go_num, hb9⟩
                    case measure => simp [intOf]; omega
              · obtain rfl : no = q := by omega
                have HB8 := Lib.hid hb8
                clear hb8
                go_wp2
                go_loopw [21] (fun i wr => ∃ r : Nat, r ≤ 8 ∧ i = .int .i64 (r : Int) ∧ Below w7.heap.size w7 wr) (fun i _ => 8 - (intOf i).toNat)
                case atStart => exact ⟨0, by omega, rfl, HB8.out⟩
                case round =>
                  obtain ⟨r, hr, rfl, hb9⟩ := hrel
                  have HB9 := Lib.hid hb9
                  by_cases hr8 : r < 8
                  · have q1 : (r : Int) < 8 := by omega
                    have q3 : (0 : Int) ≤ (r : Int) := by omega
                    clear hb9
                    go_wp2
                    go_loopw [22] (fun i wr => ∃ q : Nat, q ≤ 8 ∧ i = .int .i64 (q : Int) ∧ Below w7.heap.size w7 wr) (fun i _ => 8 - (intOf i).toNat)
                    case atStart => exact ⟨0, by omega, rfl, HB9.out⟩
                    case round =>
                      obtain ⟨q, hq, rfl, hb10⟩ := hrel
                      by_cases hq8 : q < 8
                      · have q2 : (q : Int) < 8 := by omega
                        have q4 : (0 : Int) ≤ (q : Int) := by omega
                        have HR10 := Lib.hid (HR7.out.below hb10)
                        have c5 : wr.cell? ⟨w.heap.size, 5, none⟩ = some (.slice ba bn bc) := HR10.out.c 5 _ rfl
                        have rI := HR10.out.run.mem.2
                        have c1 : wr.cell? ⟨mb, r * 8 + q, none⟩ = some (.int .i64 (y.2.getD (r * 8 + q) 0)) := rI.cell (by omega)
                        by_cases hrb : r < bn
                        · obtain ⟨b6, o6, a6, n6, c6, l6, ea, hB6, hx6, hc6, hr6, hn6⟩ := (HBK.out.below hb10).item hrb
                          subst ea
                          have i3 : (r : Int) < (bn : Int) := by omega
                          have hgd : m.blocks.getD r [] = l6 := by rw [List.getD_eq_getElem?_getD, hx6]; rfl
                          have hnl := hr6.1
                          have HB10 := Lib.hid hb10
                          by_cases hqb : q < n6
                          · have i4 : (q : Int) < (n6 : Int) := by omega
                            clear hgd hnl hx6 hr6 rI hb10
                            go_wp2
                            go_roundw
                            case rel => exact ⟨q + 1, by omega, by go_num, HB10.out⟩
                            case measure => simp [intOf]; omega
                          · have i4 : ¬ (q : Int) < (n6 : Int) := by omega
                            have h77 : y.2.getD (r * 8 + q) 0 = 77 := HHA.out r q hr8 hq8 (by rw [hgd]; omega)
                            rw [h77] at c1
                            clear hgd hnl hx6 hr6 rI hb10 h77
                            go_wp2
                            go_roundw
                            case rel => exact ⟨q + 1, by omega, by go_num, HB10.out⟩
                            case measure => simp [intOf]; omega
                        · have i3 : ¬ (r : Int) < (bn : Int) := by omega
                          have h77 : y.2.getD (r * 8 + q) 0 = 77 := HHA.out r q hr8 hq8 (by rw [← HBN.out]; omega)
                          rw [h77] at c1
                          have HB10 := Lib.hid hb10
                          clear rI hb10 h77
                          go_wp2
                          go_roundw
                          case rel => exact ⟨q + 1, by omega, by go_num, HB10.out⟩
                          case measure => simp [intOf]; omega
                      · obtain rfl : q = 8 := by omega
                        go_wp2
                        go_roundw
                        case rel => exact ⟨r + 1, by omega, by go_num, hb10⟩
                        case measure => simp [intOf]; omega
                  · obtain rfl : r = 8 := by omega
                    have HR9 := Lib.hid (HR7.out.below hb9)
                    have HB9W := Lib.hid HR9.out.run.bel
                    have I0 := Lib.hid (HR9.out.c 0 _ rfl)
                    have I1 := Lib.hid (HR9.out.c 1 _ rfl)
                    have I2 := Lib.hid (HR9.out.c 2 _ rfl)
                    obtain ⟨W9, rfl⟩ : ∃ W9, W9 = wr := ⟨_, rfl⟩
                    have RZ := Lib.hid (fun W (hb : Below W9.heap.size W9 W) => RN.out W F (HR9.out.run.m.below hb))
                    have SZ := Lib.hid (fun W (hb : Below W9.heap.size W9 W) => SP.out W F (HR9.out.run.m.below hb))
                    have KZ := Lib.hid (fun W (hb : Below W9.heap.size W9 W) => KN.out W (keep_below HB9W.out hb))
                    have hu := HNU.out
                    have hs0 : Hid (IntKind.i64.wrap (2 * sw) = 2 * sw) := IntWalk.i64_in _ (by omega)
                    have hs1 : Hid (IntKind.i64.wrap ((k : Int) + 2 * sw) = (k : Int) + 2 * sw) := IntWalk.i64_in _ (by omega)
                    have hs2 : Hid (IntKind.i64.wrap ((k : Int) + 2 * sw + la) = (k : Int) + 2 * sw + la) := IntWalk.i64_in _ (by omega)
                    have hs3 : Hid (IntKind.i64.wrap ((k : Int) + 2 * sw + la + cm) = (k : Int) + 2 * sw + la + cm) := IntWalk.i64_in _ (by omega)
                    have hs4 : Hid (decide ((k : Int) + 2 * sw + la + cm ≤ ns) = true) := decide_eq_true (by omega)
                    have HB9 := HB9W
                    clear hu HNU hb9 HR9 HR7 RN SP KN HB9W HOM HHA RO HXO HBK HON HBN
                    go_upto_region 42 with (fail)
                    refine region_ok 218 23 (fun i => if i = 22 then 6 else 196 + i) (fun i => ([[], [0], [1], [2], [3], [3, 4], [3], [3, 6], [3, 7], [3, 5, 8], [3], [3, 10], [3, 9, 11], [3], [3, 13], [3, 12, 14], [3], [3, 15, 16], [3, 17], [18], [19], [19, 20], [21]] : List (List Nat)).getD i []) (fun i v => ([(fun v : Value => v = .pointer (some ⟨bm, 0, none⟩)), (fun v : Value => v = .bool false), (fun v : Value => v = .bool true), (fun v : Value => v = .bool true), (fun v : Value => v = .pointer (some ⟨bm, 0, none⟩)), (fun v : Value => v = .int .i64 (k : Int)), (fun v : Value => v = .pointer (some ⟨w.heap.size, 0, none⟩)), (fun v : Value => v = .int .i64 sw), (fun v : Value => v = .int .i64 (2 * sw)), (fun v : Value => v = .int .i64 ((k : Int) + 2 * sw)), (fun v : Value => v = .pointer (some ⟨w.heap.size, 1, none⟩)), (fun v : Value => v = .int .i64 la), (fun v : Value => v = .int .i64 ((k : Int) + 2 * sw + la)), (fun v : Value => v = .pointer (some ⟨w.heap.size, 2, none⟩)), (fun v : Value => v = .int .i64 cm), (fun v : Value => v = .int .i64 ((k : Int) + 2 * sw + la + cm)), (fun v : Value => v = .int .i64 ns), (fun v : Value => v = .bool true), (fun v : Value => v = .bool true), (fun v : Value => v = .bool true), (fun v : Value => v = .bool true), (fun v : Value => v = .bool true), (fun v : Value => v = .bool true)] : List (Value → Prop)).getD i (fun _ => True) v) (fun W => Below W9.heap.size W9 W) (by kernel_rfl) rfl (fun i j hi hj h => by (try dsimp only at h); split at h <;> split at h <;> omega) (fun i hi => by (try dsimp only); split <;> omega) rfl ?_ ?_ (Below.refl _ _).drew ?_
                    · intro i o ho
                      match i, ho with
                      | 0, ho => obtain rfl := Option.some.inj ho; exact ⟨rfl, by decide, by decide⟩
                      | 1, ho => obtain rfl := Option.some.inj ho; exact ⟨rfl, by decide, by decide⟩
                      | 2, ho => obtain rfl := Option.some.inj ho; exact ⟨rfl, by decide, by decide⟩
                      | 3, ho => obtain rfl := Option.some.inj ho; exact ⟨rfl, by decide, by decide⟩
                      | 4, ho => obtain rfl := Option.some.inj ho; exact ⟨rfl, by decide, by decide⟩
                      | 5, ho => obtain rfl := Option.some.inj ho; exact ⟨rfl, by decide, by decide⟩
                      | 6, ho => obtain rfl := Option.some.inj ho; exact ⟨rfl, by decide, by decide⟩
                      | 7, ho => obtain rfl := Option.some.inj ho; exact ⟨rfl, by decide, by decide⟩
                      | 8, ho => obtain rfl := Option.some.inj ho; exact ⟨rfl, by decide, by decide⟩
                      | 9, ho => obtain rfl := Option.some.inj ho; exact ⟨rfl, by decide, by decide⟩
                      | 10, ho => obtain rfl := Option.some.inj ho; exact ⟨rfl, by decide, by decide⟩
                      | 11, ho => obtain rfl := Option.some.inj ho; exact ⟨rfl, by decide, by decide⟩
                      | 12, ho => obtain rfl := Option.some.inj ho; exact ⟨rfl, by decide, by decide⟩
                      | 13, ho => obtain rfl := Option.some.inj ho; exact ⟨rfl, by decide, by decide⟩
                      | 14, ho => obtain rfl := Option.some.inj ho; exact ⟨rfl, by decide, by decide⟩
                      | 15, ho => obtain rfl := Option.some.inj ho; exact ⟨rfl, by decide, by decide⟩
                      | 16, ho => obtain rfl := Option.some.inj ho; exact ⟨rfl, by decide, by decide⟩
                      | 17, ho => obtain rfl := Option.some.inj ho; exact ⟨rfl, by decide, by decide⟩
                      | 18, ho => obtain rfl := Option.some.inj ho; exact ⟨rfl, by decide, by decide⟩
                      | 19, ho => obtain rfl := Option.some.inj ho; exact ⟨rfl, by decide, by decide⟩
                      | 20, ho => obtain rfl := Option.some.inj ho; exact ⟨rfl, by decide, by decide⟩
                      | 21, ho => obtain rfl := Option.some.inj ho; exact ⟨rfl, by decide, by decide⟩
                      | 22, ho => obtain rfl := Option.some.inj ho; exact ⟨rfl, by decide, by decide⟩
                      | n + 23, ho => simp at ho
                    · intro i o ho a' W hS hoth hd
                      have o9 : a'.eval (.tmp 9) = .pointer (some ⟨bm, 0, none⟩) := hoth 9 (fun i hi => by (try dsimp only); split <;> omega)
                      have o3 : a'.eval (.tmp 3) = .pointer (some ⟨w.heap.size, 0, none⟩) := hoth 3 (fun i hi => by (try dsimp only); split <;> omega)
                      have o7 : a'.eval (.tmp 7) = .int .i64 ns := hoth 7 (fun i hi => by (try dsimp only); split <;> omega)
                      obtain ⟨ρ, hρ⟩ : ∃ ρ, ρ = a'.eval := ⟨_, rfl⟩
                      have hc : ∀ v, ρ (.const v) = v := fun v => by rw [hρ]; rfl
                      have hfn : ∀ f, ρ (.func f) = .func (.func f) #[] #[] := fun f => by rw [hρ]; rfl
                      simp only [← hρ] at hd ⊢
                      rw [← hρ] at o9
                      rw [← hρ] at o3
                      rw [← hρ] at o7
                      clear hρ hoth
                      match i, ho with
                      | 0, ho =>
                        obtain rfl := Option.some.inj ho
                        clear hd
                        exact Or.inl ⟨rfl, Gives.val (v := .pointer (some ⟨bm, 0, none⟩)) (w' := W) (by simp only [execOp]; go_simp) ⟨rfl, hS⟩⟩
                      | 1, ho =>
                        obtain rfl := Option.some.inj ho
                        have e0 : ρ (.tmp 196) = .pointer (some ⟨bm, 0, none⟩) := hd 0 (by decide)
                        clear hd
                        refine Or.inl ⟨rfl, Gives.enter (f := 19) (args := #[.pointer (some ⟨bm, 0, none⟩)]) (by simp only [execOp]; go_simp) ((RZ.out W hS).mono ?_)⟩
                        rintro e w8 ⟨rfl, rfl⟩
                        exact ⟨_, rfl, rfl, hS⟩
                      | 2, ho =>
                        obtain rfl := Option.some.inj ho
                        have e1 : ρ (.tmp 197) = .bool false := hd 1 (by decide)
                        clear hd
                        exact Or.inl ⟨rfl, Gives.val (v := .bool true) (w' := W) (by simp only [execOp]; go_simp) ⟨rfl, hS⟩⟩
                      | 3, ho =>
                        obtain rfl := Option.some.inj ho
                        have e2 : ρ (.tmp 198) = .bool true := hd 2 (by decide)
                        clear hd
                        exact Or.inl ⟨rfl, Gives.val (v := .bool true) (w' := W) (by simp only [execOp]; go_simp) ⟨rfl, hS⟩⟩
                      | 4, ho =>
                        obtain rfl := Option.some.inj ho
                        have e3 : ρ (.tmp 199) = .bool true := hd 3 (by decide)
                        clear hd
                        exact Or.inr ⟨3, true, true, rfl, by decide, e3, fun _ => Gives.val (v := .pointer (some ⟨bm, 0, none⟩)) (w' := W) (by simp only [execOp]; go_simp) ⟨rfl, hS⟩, fun h => absurd rfl h⟩
                      | 5, ho =>
                        obtain rfl := Option.some.inj ho
                        have e3 : ρ (.tmp 199) = .bool true := hd 3 (by decide)
                        have e4 : ρ (.tmp 200) = .pointer (some ⟨bm, 0, none⟩) := hd 4 (by decide)
                        clear hd
                        refine Or.inr ⟨3, true, true, rfl, by decide, e3, fun _ => Gives.enter (f := 20) (args := #[.pointer (some ⟨bm, 0, none⟩)]) (by simp only [execOp]; go_simp) ((SZ.out W hS).mono ?_), fun h => absurd rfl h⟩
                        rintro e w8 ⟨rfl, rfl⟩
                        exact ⟨_, rfl, rfl, hS⟩
                      | 6, ho =>
                        obtain rfl := Option.some.inj ho
                        have e3 : ρ (.tmp 199) = .bool true := hd 3 (by decide)
                        clear hd
                        exact Or.inr ⟨3, true, true, rfl, by decide, e3, fun _ => Gives.val (v := .pointer (some ⟨w.heap.size, 0, none⟩)) (w' := W) (by simp only [execOp]; go_simp) ⟨rfl, hS⟩, fun h => absurd rfl h⟩
                      | 7, ho =>
                        obtain rfl := Option.some.inj ho
                        have e3 : ρ (.tmp 199) = .bool true := hd 3 (by decide)
                        have e6 : ρ (.tmp 202) = .pointer (some ⟨w.heap.size, 0, none⟩) := hd 6 (by decide)
                        clear hd
                        have x0 := keep_cell hS I0.out
                        exact Or.inr ⟨3, true, true, rfl, by decide, e3, fun _ => Gives.val (v := .int .i64 sw) (w' := W) (by simp only [execOp]; go_simp) ⟨rfl, hS⟩, fun h => absurd rfl h⟩
                      | 8, ho =>
                        obtain rfl := Option.some.inj ho
                        have e3 : ρ (.tmp 199) = .bool true := hd 3 (by decide)
                        have e7 : ρ (.tmp 203) = .int .i64 sw := hd 7 (by decide)
                        clear hd
                        have s0 := hs0.out
                        exact Or.inr ⟨3, true, true, rfl, by decide, e3, fun _ => Gives.val (v := .int .i64 (2 * sw)) (w' := W) (by simp only [execOp]; go_simp) ⟨rfl, hS⟩, fun h => absurd rfl h⟩
                      | 9, ho =>
                        obtain rfl := Option.some.inj ho
                        have e3 : ρ (.tmp 199) = .bool true := hd 3 (by decide)
                        have e5 : ρ (.tmp 201) = .int .i64 (k : Int) := hd 5 (by decide)
                        have e8 : ρ (.tmp 204) = .int .i64 (2 * sw) := hd 8 (by decide)
                        clear hd
                        have s1 := hs1.out
                        exact Or.inr ⟨3, true, true, rfl, by decide, e3, fun _ => Gives.val (v := .int .i64 ((k : Int) + 2 * sw)) (w' := W) (by simp only [execOp]; go_simp) ⟨rfl, hS⟩, fun h => absurd rfl h⟩
                      | 10, ho =>
                        obtain rfl := Option.some.inj ho
                        have e3 : ρ (.tmp 199) = .bool true := hd 3 (by decide)
                        clear hd
                        exact Or.inr ⟨3, true, true, rfl, by decide, e3, fun _ => Gives.val (v := .pointer (some ⟨w.heap.size, 1, none⟩)) (w' := W) (by simp only [execOp]; go_simp) ⟨rfl, hS⟩, fun h => absurd rfl h⟩
                      | 11, ho =>
                        obtain rfl := Option.some.inj ho
                        have e3 : ρ (.tmp 199) = .bool true := hd 3 (by decide)
                        have e10 : ρ (.tmp 206) = .pointer (some ⟨w.heap.size, 1, none⟩) := hd 10 (by decide)
                        clear hd
                        have x1 := keep_cell hS I1.out
                        exact Or.inr ⟨3, true, true, rfl, by decide, e3, fun _ => Gives.val (v := .int .i64 la) (w' := W) (by simp only [execOp]; go_simp) ⟨rfl, hS⟩, fun h => absurd rfl h⟩
                      | 12, ho =>
                        obtain rfl := Option.some.inj ho
                        have e3 : ρ (.tmp 199) = .bool true := hd 3 (by decide)
                        have e9 : ρ (.tmp 205) = .int .i64 ((k : Int) + 2 * sw) := hd 9 (by decide)
                        have e11 : ρ (.tmp 207) = .int .i64 la := hd 11 (by decide)
                        clear hd
                        have s2 := hs2.out
                        exact Or.inr ⟨3, true, true, rfl, by decide, e3, fun _ => Gives.val (v := .int .i64 ((k : Int) + 2 * sw + la)) (w' := W) (by simp only [execOp]; go_simp) ⟨rfl, hS⟩, fun h => absurd rfl h⟩
                      | 13, ho =>
                        obtain rfl := Option.some.inj ho
                        have e3 : ρ (.tmp 199) = .bool true := hd 3 (by decide)
                        clear hd
                        exact Or.inr ⟨3, true, true, rfl, by decide, e3, fun _ => Gives.val (v := .pointer (some ⟨w.heap.size, 2, none⟩)) (w' := W) (by simp only [execOp]; go_simp) ⟨rfl, hS⟩, fun h => absurd rfl h⟩
                      | 14, ho =>
                        obtain rfl := Option.some.inj ho
                        have e3 : ρ (.tmp 199) = .bool true := hd 3 (by decide)
                        have e13 : ρ (.tmp 209) = .pointer (some ⟨w.heap.size, 2, none⟩) := hd 13 (by decide)
                        clear hd
                        have x2 := keep_cell hS I2.out
                        exact Or.inr ⟨3, true, true, rfl, by decide, e3, fun _ => Gives.val (v := .int .i64 cm) (w' := W) (by simp only [execOp]; go_simp) ⟨rfl, hS⟩, fun h => absurd rfl h⟩
                      | 15, ho =>
                        obtain rfl := Option.some.inj ho
                        have e3 : ρ (.tmp 199) = .bool true := hd 3 (by decide)
                        have e12 : ρ (.tmp 208) = .int .i64 ((k : Int) + 2 * sw + la) := hd 12 (by decide)
                        have e14 : ρ (.tmp 210) = .int .i64 cm := hd 14 (by decide)
                        clear hd
                        have s3 := hs3.out
                        exact Or.inr ⟨3, true, true, rfl, by decide, e3, fun _ => Gives.val (v := .int .i64 ((k : Int) + 2 * sw + la + cm)) (w' := W) (by simp only [execOp]; go_simp) ⟨rfl, hS⟩, fun h => absurd rfl h⟩
                      | 16, ho =>
                        obtain rfl := Option.some.inj ho
                        have e3 : ρ (.tmp 199) = .bool true := hd 3 (by decide)
                        clear hd
                        exact Or.inr ⟨3, true, true, rfl, by decide, e3, fun _ => Gives.val (v := .int .i64 ns) (w' := W) (by simp only [execOp]; go_simp) ⟨rfl, hS⟩, fun h => absurd rfl h⟩
                      | 17, ho =>
                        obtain rfl := Option.some.inj ho
                        have e3 : ρ (.tmp 199) = .bool true := hd 3 (by decide)
                        have e15 : ρ (.tmp 211) = .int .i64 ((k : Int) + 2 * sw + la + cm) := hd 15 (by decide)
                        have e16 : ρ (.tmp 212) = .int .i64 ns := hd 16 (by decide)
                        clear hd
                        have s4 := hs4.out
                        exact Or.inr ⟨3, true, true, rfl, by decide, e3, fun _ => Gives.val (v := .bool true) (w' := W) (by simp only [execOp]; go_simp) ⟨rfl, hS⟩, fun h => absurd rfl h⟩
                      | 18, ho =>
                        obtain rfl := Option.some.inj ho
                        have e3 : ρ (.tmp 199) = .bool true := hd 3 (by decide)
                        have e17 : ρ (.tmp 213) = .bool true := hd 17 (by decide)
                        clear hd
                        exact Or.inl ⟨rfl, Gives.val (v := .bool true) (w' := W) (by simp only [execOp]; go_simp) ⟨rfl, hS⟩⟩
                      | 19, ho =>
                        obtain rfl := Option.some.inj ho
                        have e18 : ρ (.tmp 214) = .bool true := hd 18 (by decide)
                        clear hd
                        exact Or.inl ⟨rfl, Gives.val (v := .bool true) (w' := W) (by simp only [execOp]; go_simp) ⟨rfl, hS⟩⟩
                      | 20, ho =>
                        obtain rfl := Option.some.inj ho
                        have e19 : ρ (.tmp 215) = .bool true := hd 19 (by decide)
                        clear hd
                        refine Or.inr ⟨19, true, true, rfl, by decide, e19, fun _ => Gives.enter (f := 6) (args := #[]) (by simp only [execOp]; go_simp) ((KZ.out W hS).mono ?_), fun h => absurd rfl h⟩
                        rintro e w8 ⟨rfl, b8⟩
                        exact ⟨_, rfl, rfl, keep_below hS b8⟩
                      | 21, ho =>
                        obtain rfl := Option.some.inj ho
                        have e19 : ρ (.tmp 215) = .bool true := hd 19 (by decide)
                        have e20 : ρ (.tmp 216) = .bool true := hd 20 (by decide)
                        clear hd
                        exact Or.inl ⟨rfl, Gives.val (v := .bool true) (w' := W) (by simp only [execOp]; go_simp) ⟨rfl, hS⟩⟩
                      | 22, ho =>
                        obtain rfl := Option.some.inj ho
                        have e21 : ρ (.tmp 217) = .bool true := hd 21 (by decide)
                        clear hd
                        exact Or.inl ⟨rfl, Gives.val (v := .bool true) (w' := W) (by simp only [execOp]; go_simp) ⟨rfl, hS⟩⟩
                      | n + 23, ho => simp at ho
                    · intro a' W hsz hdef hoth hok hS
                      have e22 : a'.eval (.tmp 6) = .bool true := hok 22 (by decide)
                      have e22' : a'.tmps.getD 6 undef = .bool true := e22
                      simp only [Exit.then]
                      rename_i Q1 K1 hK1
                      refine hK1 a' W (wp_ret ?_)
                      refine bodyPost_ret (results_tmp rfl _ _ _) hdef ?_
                      rw [e22']
                      exact ⟨rfl, keep_below HB9.out hS⟩
end Go.Proofs.YthncbnalnfbpnaaGreatDoor
