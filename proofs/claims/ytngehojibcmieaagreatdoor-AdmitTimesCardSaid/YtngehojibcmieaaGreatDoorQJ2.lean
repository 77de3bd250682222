/- What is proved here: rows of structs that a call makes and fills place by place; contracts of admit's useOf, uses and rows. Conditions: all tasks of the image can be run; the table of names holds what its initialiser lays. contracts of admit's uses and rows. the contract of admit's rows. how verdicts lie in memory; contracts of admit's judge and Judge. Conditions: the table of names holds what its initialiser lays. -/
import Derived.Test.YtngehojibcmieaaGreatDoorQM1
import Derived.Test.YtngehojibcmieaaGreatDoorQC9
import Derived.Test.YtngehojibcmieaaGreatDoorQD1
import Derived.Deep.CutBlock
import Derived.Test.YtngehojibcmieaaGreatDoorQCWa
import Derived.Test.YtngehojibcmieaaGreatDoorQE7
set_option maxRecDepth 100000
set_option maxHeartbeats 8000000
section
namespace Go.Proofs.YtngehojibcmieaaGreatDoor
open Go.ChangeShapes Go.WideShapes Go.RowKit
theorem rowIs_neu (w : World) (cs : Array Value) (t : TypeId) (n : Nat) (hn : cs.size = n) : (w.alloc (.cells cs t)).rowIs w.heap.size t n (fun i => cs.getD i undef) := by
 subst hn
 refine World.rowIs_alloc w cs t _ fun i hi => ?_
 simp [hi]
theorem made_is (w : World) (zs : Array Value) (m : Nat) (t : TypeId) : (w.alloc (.cells (madeCells zs m) t)).rowIs w.heap.size t m (fun i => zs[i % zs.size]!) :=
 ⟨_, Go.Deep.blk_alloc_new _ _, size_madeCells _ _, fun i hi => by simp [madeCells, hi]⟩
theorem run_make_s {P : Program} (t e : TypeId) (z : Value) (zs : Array Value) (size bytes : Nat) (ht : P.underlying t = some (.slice e)) (hinfo : (P.info? e).map (fun i => (i.zero, i.size, i.bytes)) = some (some z, size, bytes)) (hz1 : z.cells = zs)
  (kl kc : IntKind) (n : Nat) (hbytes : bytes * n ≤ 281474976710656) (h63 : n ≤ 9223372036854775807) (w : World) :
  (Instr.makeSlice t (.int kl (n : Int)) (.int kc (n : Int))).run P w = .ok (.slice (some ⟨w.heap.size, 0, none⟩) n n) (w.alloc (.cells (madeCells zs (n * size)) e)) := by
 obtain ⟨i, hi, hzz⟩ := Option.map_eq_some_iff.1 hinfo
 simp only [Prod.mk.injEq] at hzz
 obtain ⟨hz, hs, hb⟩ := hzz
 have hb' : (i.bytes : Int) * (n : Int) ≤ 281474976710656 := by
  have h : ((i.bytes * n : Nat) : Int) ≤ 281474976710656 := by rw [hb]; omega
  rwa [Int.natCast_mul] at h
 have hr := run_make (P := P) w t e i z ht hi hz kl kc n n (by omega) (Int.le_refl _) hb' (by omega)
 simp only [Int.toNat_natCast, hs, hz1] at hr
 exact hr
theorem use_info : (Tryz.prog.info? 125).map (fun i => (i.zero, i.size, i.bytes)) = some (some (.agg #[.int .i64 0, .slice none 0 0, .slice none 0 0]), 3, 56) := by kernel_rfl
theorem row_info : (Tryz.prog.info? 62).map (fun i => (i.zero, i.size, i.bytes)) = some (some (.agg #[.int .i64 0, .int .i64 0, .int .i64 0, .int .i64 0, .int .i64 0, .int .i64 0]), 6, 48) := by kernel_rfl
theorem rowC {w : World} {a : Option Addr} {n : Nat} {l : List Int} (h : Row w a n l) : Kc.Row w a n l := h
theorem rowCr {w : World} {a : Option Addr} {n : Nat} {l : List Int} (h : Kc.Row w a n l) : Row w a n l := h
theorem rowD {w : World} {a : Option Addr} {n : Nat} {l : List Int} (h : Row w a n l) : Kd.Row w a n l := h
theorem rowDr {w : World} {a : Option Addr} {n : Nat} {l : List Int} (h : Kd.Row w a n l) : Row w a n l := h
theorem useOf_any (x : ImV) (m : ImP) (i : Nat) (w0 w : World) (h9 : x.Is w0 m) (hb0 : Below w0.heap.size w0 w) (hN : Nms w) (hi : i < m.tasks.length) (h0 : taskE m i = 0) :
  Calls Tryz.prog 32 #[x.v, .int .i64 i] w fun e w' => ∃ u : Kc.UsV, e = .returned (.agg #[.int .i64 u.pr, u.bl.v, u.le.v]) ∧ u.Is w' (usT m i) ∧ (0 < u.bl.n → ∀ p, u.bl.a = some p → p.block < w0.heap.size) ∧ (∀ p, u.le.a = some p → w.heap.size ≤ p.block) ∧ Below w.heap.size w w' := by
 have h := h9.below hb0
 have CL := Lib.hid (fun W (hb : Below w.heap.size w W) => locked_any x m (i : Int) W (h.below hb) (hN.below hb) 0 _ h0 rfl)
 unfold GotLk at CL
 have hlen : x.tasks.n = m.tasks.length := h.2.2.2.2.2.2.1.1
 have hmx : x.tasks.n ≤ 140737488355328 := h.2.2.2.2.2.2.2
 have LL := Lib.hid (locked_facts h0).1
 obtain ⟨b, off, t, T, ha, hbl, hT, ht0, hcs0⟩ := h9.task (k := i) (by omega)
 have ht := ht0.below hb0
 have hcs : ∀ j v, t.cells[j]? = some v → w.cell? ⟨b, off + i * 7 + j, none⟩ = some v := fun j v hj => keep_cell hb0 (hcs0 j v hj)
 have HT0 := Lib.hid ht0
 have eT : tkAt m i = T := tkAt_of hT
 have HU : Hid (usT m i = ⟨T.pr, T.bl, lkA m i⟩) := by show _ = _; unfold usT; rw [eT]
 rw [eT] at LL
 have HT := Lib.hid ht
 obtain ⟨sw, la, cm, inp, ⟨sa, sn, sc⟩, ⟨ba, bn, bc⟩, ⟨ta, tn, tc⟩⟩ := x
 obtain ⟨pr, pe, de, ji, ⟨xa, xn, xc⟩, ⟨oa, on, oc⟩, ⟨ca, cn, cc⟩⟩ := t
 simp only at ha hlen hmx
 have C0 := Lib.hid (cells_new w #[.int .i64 sw, .int .i64 la, .int .i64 cm, .int .i64 inp, .slice sa sn sc, .slice ba bn bc, .slice ta tn tc] 26)
 have B0 := Lib.hid ((below_alloc w (.cells #[.int .i64 sw, .int .i64 la, .int .i64 cm, .int .i64 inp, .slice sa sn sc, .slice ba bn bc, .slice ta tn tc] 26)).trans ((below_alloc (w.alloc (.cells #[.int .i64 sw, .int .i64 la, .int .i64 cm, .int .i64 inp, .slice sa sn sc, .slice ba bn bc, .slice ta tn tc] 26)) (.cells #[.int .i64 0, .slice none 0 0, .slice none 0 0] 125)).mono (by simp)))
 have hX : ((w.alloc (.cells #[.int .i64 sw, .int .i64 la, .int .i64 cm, .int .i64 inp, .slice sa sn sc, .slice ba bn bc, .slice ta tn tc] 26)).alloc (.cells #[.int .i64 0, .slice none 0 0, .slice none 0 0] 125)).rowIs (w.heap.size + 1) 125 3 (fun j => if j = 0 then .int .i64 0 else .slice none 0 0) := by
  have h1 := (rowIs_neu (w.alloc (.cells #[.int .i64 sw, .int .i64 la, .int .i64 cm, .int .i64 inp, .slice sa sn sc, .slice ba bn bc, .slice ta tn tc] 26)) #[.int .i64 0, .slice none 0 0, .slice none 0 0] 125 3 rfl).congr (g := fun j => if j = 0 then .int .i64 0 else .slice none 0 0) (fun j hj => by
   match j, hj with
   | 0, _ => rfl
   | 1, _ => rfl
   | 2, _ => rfl)
  have e : (w.alloc (.cells #[.int .i64 sw, .int .i64 la, .int .i64 cm, .int .i64 inp, .slice sa sn sc, .slice ba bn bc, .slice ta tn tc] 26)).heap.size = w.heap.size + 1 := by simp
  rw [e] at h1
  exact h1
 have HX := Lib.hid hX
 subst ha
 simp only [ImV.v, Sl.v] at CL ⊢
 have i1 : (0 : Int) ≤ (i : Int) := by omega
 have i2 : (i : Int) < (tn : Int) := by omega
 have d0 : w.cell? ⟨b, off + i * 7, none⟩ = some (.int .i64 pr) := hcs 0 _ rfl
 have d4 : w.cell? ⟨b, off + i * 7 + 4, none⟩ = some (.slice xa xn xc) := hcs 4 _ rfl
 have D0 := Lib.hid d0
 have D4 := Lib.hid d4
 clear hX d0 d4 hcs ht hT eT h hN h0 hlen hcs0 ht0 h9
 go_enter Tryz.func32, Tryz.ntmps32
 go_wp2_with (go_at_call 65; refine (CL.out _ B0.out).mono ?_; rintro e w1 ⟨a2, n3, c2, rfl, hr2, hb1, hn2⟩; have bb := keep_below B0.out hb1; have c6 := keep_cell hb1 (keep_cell (below_alloc _ _) (C0.out 6 _ rfl)); have d0 := keep_cell bb D0.out; have d4 := keep_cell bb D4.out; have r3 := World.rowIs.of_block HX.out (hb1.block _ (World.rowIs.lt HX.out)); have f0 := World.rowIs.frozen r3 0; have f1 := World.rowIs.frozen r3 1; have f2 := World.rowIs.frozen r3 2; have z0 := World.rowIs.cell r3 (i := 0) (by omega); have z1 := World.rowIs.cell r3 (i := 1) (by omega); have z2 := World.rowIs.cell r3 (i := 2) (by omega))
 clear CL C0 hb1
 go_region
 have s3 := (((r3.set 0 (.int .i64 pr)).set 1 (.slice xa xn xc)).set 2 (.slice a2 n3 c2)).drew
 have g0 := World.rowIs.cell s3 (i := 0) (by omega)
 have g1 := World.rowIs.cell s3 (i := 1) (by omega)
 have g2 := World.rowIs.cell s3 (i := 2) (by omega)
 simp only [if_true, if_neg (by decide : ¬ (0 : Nat) = 2), if_neg (by decide : ¬ (0 : Nat) = 1), if_neg (by decide : ¬ (1 : Nat) = 2)] at g0 g1 g2
 have hlt := World.rowIs.lt r3
 have K3 : Kep (w.heap.size + 1) w1 (((w1.setCell ⟨w.heap.size + 1, 0, none⟩ (.int .i64 pr)).setCell ⟨w.heap.size + 1, 1, none⟩ (.slice xa xn xc)).setCell ⟨w.heap.size + 1, 2, none⟩ (.slice a2 n3 c2)).drew :=
  (((Kep.set _ 0 _ _).trans (Kep.set _ 1 _ _)).trans (Kep.set _ 2 _ _)).trans (Kep.of (blw_dr _))
 generalize (((w1.setCell ⟨w.heap.size + 1, 0, none⟩ (.int .i64 pr)).setCell ⟨w.heap.size + 1, 1, none⟩ (.slice xa xn xc)).setCell ⟨w.heap.size + 1, 2, none⟩ (.slice a2 n3 c2)).drew = W9 at s3 g0 g1 g2 K3 ⊢
 have hz1 := bb.size
 have hb9 : Below w.heap.size w W9 := bb.trans (K3.below (by omega) hz1)
 have hnew : ∀ p, a2 = some p → w.heap.size + 1 < p.block := fun p hp => by
  have := (hn2 p hp).1
  have e : ((w.alloc (.cells #[.int .i64 sw, .int .i64 la, .int .i64 cm, .int .i64 inp, .slice sa sn sc, .slice ba bn bc, .slice (some ⟨b, off, none⟩) tn tc] 26)).alloc (.cells #[.int .i64 0, .slice none 0 0, .slice none 0 0] 125)).heap.size = w.heap.size + 1 + 1 := by simp
  omega
 go_wp2
 refine bodyPost_ret (v := .agg #[.int .i64 pr, .slice xa xn xc, .slice a2 n3 c2]) (by simp [results, Tryz.results32, go_sem, g0, g1, g2]) rfl ?_
 refine ⟨⟨pr, ⟨xa, xn, xc⟩, ⟨a2, n3, c2⟩⟩, rfl, ?_, ?_, fun p hp => by have := hnew p hp; omega, hb9⟩
 ·rw [HU.out]
  obtain ⟨t1, _, _, _, t5, _, _⟩ := HT.out
  have h5 := t5.below hb9
  refine ⟨t1, ⟨rowC h5.1, h5.2⟩, ?_, ?_⟩
  ·refine ⟨hr2.1, fun h0 => ?_⟩
   obtain ⟨b', off', e, hlt', hc⟩ := hr2.2 h0
   have := hnew _ e
   exact ⟨b', off', e, Nat.lt_of_lt_of_le hlt' K3.size, fun q hq => K3.cell (by show b' ≠ _; have : w.heap.size + 1 < b' := this; omega) (hc q hq)⟩
  ·have h6 := hr2.1
   have h7 := t5.1.1
   have h8 := t5.2
   have h9 := LL.out
   simp only at h7 h8 ⊢
   omega
 ·intro h0 p hp
  obtain ⟨_, _, _, _, t5, _, _⟩ := HT0.out
  obtain ⟨b', off', e, hlt', _⟩ := t5.1.2 h0
  simp only at e hp
  rw [hp] at e
  cases e
  exact hlt'
def SlO (g : Nat) (w : World) (s : Kc.Sl) (l : List Int) : Prop := Kc.SlI w s l ∧ (0 < s.n → ∀ p, s.a = some p → p.block ≠ g)
theorem SlO.kep {g : Nat} {w w' : World} {s : Kc.Sl} {l : List Int} (h : SlO g w s l) (hk : Kep g w w') : SlO g w' s l := by
 refine ⟨⟨⟨h.1.1.1, fun hn => ?_⟩, h.1.2⟩, h.2⟩
 obtain ⟨b, off, e, hlt, hc⟩ := h.1.1.2 hn
 have hb : b ≠ g := h.2 hn _ e
 exact ⟨b, off, e, Nat.lt_of_lt_of_le hlt hk.size, fun i hi => hk.cell hb (hc i hi)⟩
def UsO (g : Nat) (w : World) (t : Kc.UsV) (u : Kc.UsP) : Prop := t.pr = u.pr ∧ SlO g w t.bl u.bl ∧ SlO g w t.le u.le
theorem UsO.kep {g : Nat} {w w' : World} {t : Kc.UsV} {u : Kc.UsP} (h : UsO g w t u) (hk : Kep g w w') : UsO g w' t u := ⟨h.1, h.2.1.kep hk, h.2.2.kep hk⟩
def usF (V : Nat → Kc.UsV) (q j : Nat) : Value := if j < 3 * q then (if j % 3 = 0 then .int .i64 (V (j / 3)).pr else if j % 3 = 1 then (V (j / 3)).bl.v else (V (j / 3)).le.v) else (if j % 3 = 0 then .int .i64 0 else .slice none 0 0)
theorem usF_zero (V : Nat → Kc.UsV) (j : Nat) : (#[.int .i64 0, .slice none 0 0, .slice none 0 0] : Array Value)[j % 3]! = usF V 0 j := by
 unfold usF
 rw [if_neg (by omega)]
 have h : j % 3 = 0 ∨ j % 3 = 1 ∨ j % 3 = 2 := by omega
 rcases h with h | h | h <;> rw [h] <;> rfl
theorem usF_step (V V' : Nat → Kc.UsV) (u : Kc.UsV) (q : Nat) (hV : ∀ i, i < q → V' i = V i) (hq : V' q = u) (j : Nat) :
  (if j = q * 3 + 2 then u.le.v else if j = q * 3 + 1 then u.bl.v else if j = q * 3 then .int .i64 u.pr else usF V q j) = usF V' (q + 1) j := by
 unfold usF
 by_cases h0 : j < 3 * q
 ·rw [if_neg (by omega : ¬ j = q * 3 + 2), if_neg (by omega : ¬ j = q * 3 + 1), if_neg (by omega : ¬ j = q * 3), if_pos h0, if_pos (by omega : j < 3 * (q + 1)), hV (j / 3) (by omega)]
 ·by_cases h1 : j < 3 * (q + 1)
  ·have hd : j / 3 = q := by omega
   rw [if_pos h1, hd, hq]
   have h : j = q * 3 ∨ j = q * 3 + 1 ∨ j = q * 3 + 2 := by omega
   rcases h with h | h | h
   ·rw [if_neg (by omega : ¬ j = q * 3 + 2), if_neg (by omega : ¬ j = q * 3 + 1), if_pos h, if_pos (by omega : j % 3 = 0)]
   ·rw [if_neg (by omega : ¬ j = q * 3 + 2), if_pos h, if_neg (by omega : ¬ j % 3 = 0), if_pos (by omega : j % 3 = 1)]
   ·rw [if_pos h, if_neg (by omega : ¬ j % 3 = 0), if_neg (by omega : ¬ j % 3 = 1)]
  ·rw [if_neg (by omega), if_neg (by omega), if_neg (by omega), if_neg h0, if_neg h1]
def roF (m : ImP) (q j : Nat) : Value := if j < 6 * q then (Kd.rtC (roT m (j / 6))).getD (j % 6) undef else .int .i64 0
theorem roF_zero (m : ImP) (j : Nat) : (#[.int .i64 0, .int .i64 0, .int .i64 0, .int .i64 0, .int .i64 0, .int .i64 0] : Array Value)[j % 6]! = roF m 0 j := by
 unfold roF
 rw [if_neg (by omega)]
 have h : j % 6 = 0 ∨ j % 6 = 1 ∨ j % 6 = 2 ∨ j % 6 = 3 ∨ j % 6 = 4 ∨ j % 6 = 5 := by omega
 rcases h with h | h | h | h | h | h <;> rw [h] <;> rfl
theorem roF_step (m : ImP) (q j : Nat) :
  (if j = q * 6 + 5 then .int .i64 (roT m q).P else if j = q * 6 + 4 then .int .i64 (roT m q).J else if j = q * 6 + 3 then .int .i64 (roT m q).D else if j = q * 6 + 2 then .int .i64 (roT m q).T else if j = q * 6 + 1 then .int .i64 (roT m q).B else if j = q * 6 then .int .i64 (roT m q).C else roF m q j) = roF m (q + 1) j := by
 unfold roF
 by_cases h0 : j < 6 * q
 ·rw [if_neg (by omega : ¬ j = q * 6 + 5), if_neg (by omega : ¬ j = q * 6 + 4), if_neg (by omega : ¬ j = q * 6 + 3), if_neg (by omega : ¬ j = q * 6 + 2), if_neg (by omega : ¬ j = q * 6 + 1), if_neg (by omega : ¬ j = q * 6), if_pos h0, if_pos (by omega : j < 6 * (q + 1))]
 ·by_cases h1 : j < 6 * (q + 1)
  ·have hd : j / 6 = q := by omega
   rw [if_pos h1, hd]
   have h : j = q * 6 ∨ j = q * 6 + 1 ∨ j = q * 6 + 2 ∨ j = q * 6 + 3 ∨ j = q * 6 + 4 ∨ j = q * 6 + 5 := by omega
   rcases h with h | h | h | h | h | h
   ·rw [if_neg (by omega), if_neg (by omega), if_neg (by omega), if_neg (by omega), if_neg (by omega), if_pos h, show j % 6 = 0 by omega]; rfl
   ·rw [if_neg (by omega), if_neg (by omega), if_neg (by omega), if_neg (by omega), if_pos h, show j % 6 = 1 by omega]; rfl
   ·rw [if_neg (by omega), if_neg (by omega), if_neg (by omega), if_pos h, show j % 6 = 2 by omega]; rfl
   ·rw [if_neg (by omega), if_neg (by omega), if_pos h, show j % 6 = 3 by omega]; rfl
   ·rw [if_neg (by omega), if_pos h, show j % 6 = 4 by omega]; rfl
   ·rw [if_pos h, show j % 6 = 5 by omega]; rfl
  ·rw [if_neg (by omega), if_neg (by omega), if_neg (by omega), if_neg (by omega), if_neg (by omega), if_neg (by omega), if_neg h0, if_neg h1]
def TsV (x : ImV) : Value := .agg #[.int .i64 x.sw, .int .i64 x.la, .int .i64 x.cm, .int .i64 x.inp, x.safe.v, x.blocks.v, x.tasks.v, .func (.func 32) #[] #[]]
theorem uses_any (x : ImV) (m : ImP) (w : World) (h : x.Is w m) (hN : Nms w) (h0 : (allE m).2 = 0) :
  Calls Tryz.prog 66 #[TsV x] w fun e w' => ∃ a c, e = .returned (.slice a x.tasks.n c) ∧ Kc.RowU w' a x.tasks.n (usA m) ∧ Below w.heap.size w w' := by
 have hlen : x.tasks.n = m.tasks.length := h.2.2.2.2.2.2.1.1
 have CU := Lib.hid (fun (q : Nat) W (hb : Below w.heap.size w W) (hq : q < x.tasks.n) => useOf_any x m q w W h hb (hN.below hb) (by omega) (taskE_of h0 (by omega)))
 have hn8 : x.tasks.n ≤ 8 := by have := (few_tasks h0).2.1; omega
 have HLN := Lib.hid hlen
 clear hlen h hN h0
 obtain ⟨sw, la, cm, inp, ⟨sa, sn, sc⟩, ⟨ba, bn, bc⟩, ⟨ta, tn, tc⟩⟩ := x
 simp only [TsV, ImV.v, Sl.v] at CU HLN hn8 ⊢
 have hX := Go.Deep.blk_alloc_new w (.cells #[.int .i64 sw, .int .i64 la, .int .i64 cm, .int .i64 inp, .slice sa sn sc, .slice ba bn bc, .slice ta tn tc, .func (.func 32) #[] #[]] 73)
 have c0 := cells_new w #[.int .i64 sw, .int .i64 la, .int .i64 cm, .int .i64 inp, .slice sa sn sc, .slice ba bn bc, .slice ta tn tc, .func (.func 32) #[] #[]] 73
 have C0 := Lib.hid c0
 have c6 := c0 6 _ rfl
 have hmk := run_make_s (P := Tryz.prog) 128 125 (.agg #[.int .i64 0, .slice none 0 0, .slice none 0 0]) #[.int .i64 0, .slice none 0 0, .slice none 0 0] 3 56 Tryz.underlying128 use_info rfl .i64 .i64 tn (by omega) (by omega)
 clear c0 hX
 go_enter Tryz.func66, Tryz.ntmps66
 go_wp2
 obtain ⟨W3, hW3⟩ : ∃ W3, W3 = (w.alloc (.cells #[.int .i64 sw, .int .i64 la, .int .i64 cm, .int .i64 inp, .slice sa sn sc, .slice ba bn bc, .slice ta tn tc, .func (.func 32) #[] #[]] 73)).alloc (.cells (madeCells #[.int .i64 0, .slice none 0 0, .slice none 0 0] (tn * 3)) 125) := ⟨_, rfl⟩
 have e1 : (w.alloc (.cells #[.int .i64 sw, .int .i64 la, .int .i64 cm, .int .i64 inp, .slice sa sn sc, .slice ba bn bc, .slice ta tn tc, .func (.func 32) #[] #[]] 73)).heap.size = w.heap.size + 1 := by simp
 have RI0 : W3.rowIs (w.heap.size + 1) 125 (tn * 3) (usF (fun _ => ⟨0, ⟨none, 0, 0⟩, ⟨none, 0, 0⟩⟩) 0) := by
  have := made_is (w.alloc (.cells #[.int .i64 sw, .int .i64 la, .int .i64 cm, .int .i64 inp, .slice sa sn sc, .slice ba bn bc, .slice ta tn tc, .func (.func 32) #[] #[]] 73)) #[.int .i64 0, .slice none 0 0, .slice none 0 0] (tn * 3) 125
  rw [e1, ← hW3] at this
  exact this.congr fun j _ => usF_zero _ j
 have b1 := below_alloc w (.cells #[.int .i64 sw, .int .i64 la, .int .i64 cm, .int .i64 inp, .slice sa sn sc, .slice ba bn bc, .slice ta tn tc, .func (.func 32) #[] #[]] 73)
 have b2 := below_alloc (w.alloc (.cells #[.int .i64 sw, .int .i64 la, .int .i64 cm, .int .i64 inp, .slice sa sn sc, .slice ba bn bc, .slice ta tn tc, .func (.func 32) #[] #[]] 73)) (.cells (madeCells #[.int .i64 0, .slice none 0 0, .slice none 0 0] (tn * 3)) 125)
 have HB3 : Hid (Below w.heap.size w W3) := by show Below _ _ _; rw [hW3]; exact keep_below b1 b2
 have HC3 : Hid (∀ j v, #[Value.int .i64 sw, .int .i64 la, .int .i64 cm, .int .i64 inp, .slice sa sn sc, .slice ba bn bc, .slice ta tn tc, .func (.func 32) #[] #[]].toList[j]? = some v → W3.cell? ⟨w.heap.size, j, none⟩ = some v) := fun j v hj => by rw [hW3]; exact keep_cell b2 (C0.out j v hj)
 have hg3 : w.heap.size + 1 < W3.heap.size := World.rowIs.lt RI0
 rw [← hW3]
 clear hW3 e1 b1 b2 c6 hmk C0
 go_loopw [12] (fun i wr => ∃ (q : Nat) (V : Nat → Kc.UsV), q ≤ tn ∧ i = .int .i64 q ∧ wr.rowIs (w.heap.size + 1) 125 (tn * 3) (usF V q) ∧ Hid (∀ k, k < q → UsO (w.heap.size + 1) wr (V k) (usT m k)) ∧ Hid (Kep (w.heap.size + 1) W3 wr)) (fun i _ => tn - (intOf i).toNat)
 case atStart => exact ⟨0, _, by omega, rfl, RI0, fun k hk => absurd hk (Nat.not_lt_zero k), Kep.refl _ _⟩
 case round =>
  clear RI0
  obtain ⟨q, V, hq, rfl, rI, HU, HK⟩ := hrel
  have hzr := HK.out.size
  have hbw : Below w.heap.size w wr := HB3.out.trans (HK.out.below (by omega) (by omega))
  by_cases hlt : q < tn
  ·have k0 := HK.out.cell (p := ⟨w.heap.size, 0, none⟩) (by show w.heap.size ≠ _; omega) (HC3.out 0 _ rfl)
   have k1 := HK.out.cell (p := ⟨w.heap.size, 1, none⟩) (by show w.heap.size ≠ _; omega) (HC3.out 1 _ rfl)
   have k2 := HK.out.cell (p := ⟨w.heap.size, 2, none⟩) (by show w.heap.size ≠ _; omega) (HC3.out 2 _ rfl)
   have k3 := HK.out.cell (p := ⟨w.heap.size, 3, none⟩) (by show w.heap.size ≠ _; omega) (HC3.out 3 _ rfl)
   have k4 := HK.out.cell (p := ⟨w.heap.size, 4, none⟩) (by show w.heap.size ≠ _; omega) (HC3.out 4 _ rfl)
   have k5 := HK.out.cell (p := ⟨w.heap.size, 5, none⟩) (by show w.heap.size ≠ _; omega) (HC3.out 5 _ rfl)
   have k6 := HK.out.cell (p := ⟨w.heap.size, 6, none⟩) (by show w.heap.size ≠ _; omega) (HC3.out 6 _ rfl)
   have k7 := HK.out.cell (p := ⟨w.heap.size, 7, none⟩) (by show w.heap.size ≠ _; omega) (HC3.out 7 _ rfl)
   have i1 : (0 : Int) ≤ (q : Int) := by omega
   have i2 : (q : Int) < (tn : Int) := by omega
   have RI := Lib.hid rI
   have CQ := Lib.hid (CU.out q wr hbw hlt)
   have hgl := World.rowIs.lt rI
   clear rI
   go_wp2_with (go_at_call 32; refine CQ.out.mono ?_; rintro e w1 ⟨⟨pr, ⟨xa, xn, xc⟩, ⟨ya, yn, yc⟩⟩, rfl, hu, hu1, hu2, hb1⟩; simp only [Kc.Sl.v]; have r1 := World.rowIs.of_block RI.out (hb1.block _ (World.rowIs.lt RI.out)); have z0 := World.rowIs.cell r1 (i := q * 3) (by omega); have z1 := World.rowIs.cell r1 (i := q * 3 + 1) (by omega); have z2 := World.rowIs.cell r1 (i := q * 3 + 2) (by omega); have f0 := World.rowIs.frozen r1 (q * 3); have f1 := World.rowIs.frozen r1 (q * 3 + 1); have f2 := World.rowIs.frozen r1 (q * 3 + 2))
   have K1 : Kep (w.heap.size + 1) w1 (((w1.setCell ⟨w.heap.size + 1, q * 3, none⟩ (.int .i64 pr)).setCell ⟨w.heap.size + 1, q * 3 + 1, none⟩ (.slice xa xn xc)).setCell ⟨w.heap.size + 1, q * 3 + 2, none⟩ (.slice ya yn yc)) := ((Kep.set _ (q * 3) _ _).trans (Kep.set _ (q * 3 + 1) _ _)).trans (Kep.set _ (q * 3 + 2) _ _)
   have HR3 := Lib.hid ((((r1.set (q * 3) (.int .i64 pr)).set (q * 3 + 1) (.slice xa xn xc)).set (q * 3 + 2) (.slice ya yn yc)).congr (fun j _ => usF_step V (fun k => if k = q then ⟨pr, ⟨xa, xn, xc⟩, ⟨ya, yn, yc⟩⟩ else V k) ⟨pr, ⟨xa, xn, xc⟩, ⟨ya, yn, yc⟩⟩ q (fun i hi => if_neg (by omega)) (if_pos rfl) j))
   have HU3 : Hid (∀ k, k < q + 1 → UsO (w.heap.size + 1) (((w1.setCell ⟨w.heap.size + 1, q * 3, none⟩ (.int .i64 pr)).setCell ⟨w.heap.size + 1, q * 3 + 1, none⟩ (.slice xa xn xc)).setCell ⟨w.heap.size + 1, q * 3 + 2, none⟩ (.slice ya yn yc)) ((fun k => if k = q then ⟨pr, ⟨xa, xn, xc⟩, ⟨ya, yn, yc⟩⟩ else V k) k) (usT m k)) := fun k hk => by
    by_cases e : k = q
    ·subst e
     simp only [if_true]
     refine UsO.kep ⟨hu.1, ⟨hu.2.1, fun h0 p hp => ?_⟩, ⟨hu.2.2, fun h0 p hp => ?_⟩⟩ K1
     ·have := hu1 h0 p hp; omega
     ·have := hu2 p hp; omega
    ·simp only [if_neg e]
     exact (HU.out k (by omega)).kep ((Kep.of hb1).trans K1)
   have HK3 := Lib.hid ((HK.out.trans (Kep.of hb1)).trans K1)
   clear HU HK r1 z0 z1 z2 f0 f1 f2 k0 k1 k2 k3 k4 k5 k6 k7 hu hu1 hu2 hb1 RI CQ K1
   go_wp2
   go_roundw
   case rel => exact ⟨q + 1, _, by omega, by go_num, HR3.out, HU3, HK3⟩
   case measure => simp [intOf]; omega
  ·have hqn : q = tn := by omega
   have HF : Hid (Kc.RowU wr (some ⟨w.heap.size + 1, 0, none⟩) tn (usA m)) := by
    refine ⟨by rw [usA_len]; exact HLN.out, fun _ => ⟨w.heap.size + 1, 0, rfl, World.rowIs.lt rI, fun i hi => ?_⟩⟩
    have hu := HU.out i (by omega)
    refine ⟨V i, usT m i, usA_at (by rw [← HLN.out]; exact hi), ⟨hu.1, hu.2.1.1, hu.2.2.1⟩, fun j v hj => ?_⟩
    have hj3 : j < 3 := (List.getElem?_eq_some_iff.1 hj).1
    have := World.rowIs.cell rI (i := i * 3 + j) (by omega)
    rw [Nat.zero_add, this]
    unfold usF
    rw [if_pos (by omega), show (i * 3 + j) / 3 = i by omega]
    match j, hj3, hj with
    | 0, _, hj => rw [if_pos (by omega)]; exact hj
    | 1, _, hj => rw [if_neg (by omega), if_pos (by omega)]; exact hj
    | 2, _, hj => rw [if_neg (by omega), if_neg (by omega)]; exact hj
   clear rI HU
   go_wp2
   go_ret
   exact ⟨_, ⟨_, rfl⟩, HF.out, hbw⟩
theorem rowsA_any (x : ImV) (m : ImP) (wa : Option Addr) (wn wc : Nat) (w : World) (h : x.Is w m) (hN : Nms w) (h0 : (allE m).2 = 0) (hw : Row w wa wn (waA m)) :
  Calls Tryz.prog 67 #[TsV x, .slice wa wn wc] w fun e w' => ∃ a c, e = .returned (.slice a x.tasks.n c) ∧ Kd.RowS w' a x.tasks.n (roA m) ∧ Below w.heap.size w w' := by
 have hlen : x.tasks.n = m.tasks.length := h.2.2.2.2.2.2.1.1
 have CU := Lib.hid (fun (q : Nat) W (hb : Below w.heap.size w W) (hq : q < x.tasks.n) => slots_any x m (q : Int) W (h.below hb) (hN.below hb) (slW m q) 0 (taskE_of h0 (by omega)) rfl)
 have HTk : Hid (∀ k, k < x.tasks.n → ∃ b off t T, x.tasks.a = some ⟨b, off, none⟩ ∧ b < w.heap.size ∧ m.tasks[k]? = some T ∧ TaV.Is w t T ∧ ∀ j v, t.cells[j]? = some v → w.cell? ⟨b, off + k * 7 + j, none⟩ = some v) := fun k hk => h.task hk
 have HWA : Hid (∀ k, k < x.tasks.n → ∃ b off, wa = some ⟨b, off, none⟩ ∧ b < w.heap.size ∧ w.cell? ⟨b, off + k, none⟩ = some (.int .i64 ((waA m).getD k 0)) ∧ k < wn) := fun k hk => by
  have hkn : k < wn := by rw [hw.1, waA_len h0]; omega
  obtain ⟨b, off, e, hlt, hc⟩ := hw.2 (by omega)
  exact ⟨b, off, e, hlt, hc k hkn, hkn⟩
 have hn8 : x.tasks.n ≤ 8 := by have := (few_tasks h0).2.1; omega
 have HLN := Lib.hid hlen
 clear hlen h hN h0 hw
 obtain ⟨sw, la, cm, inp, ⟨sa, sn, sc⟩, ⟨ba, bn, bc⟩, ⟨ta, tn, tc⟩⟩ := x
 simp only [TsV, ImV.v, Sl.v] at CU HLN hn8 HTk HWA ⊢
 have c0 := cells_new w #[.int .i64 sw, .int .i64 la, .int .i64 cm, .int .i64 inp, .slice sa sn sc, .slice ba bn bc, .slice ta tn tc, .func (.func 32) #[] #[]] 73
 have C0 := Lib.hid c0
 have c6 := c0 6 _ rfl
 have hmk := run_make_s (P := Tryz.prog) 35 62 (.agg #[.int .i64 0, .int .i64 0, .int .i64 0, .int .i64 0, .int .i64 0, .int .i64 0]) #[.int .i64 0, .int .i64 0, .int .i64 0, .int .i64 0, .int .i64 0, .int .i64 0] 6 48 Tryz.underlying35 row_info rfl .i64 .i64 tn (by omega) (by omega)
 obtain ⟨W3, hW3⟩ : ∃ W3, W3 = (w.alloc (.cells #[.int .i64 sw, .int .i64 la, .int .i64 cm, .int .i64 inp, .slice sa sn sc, .slice ba bn bc, .slice ta tn tc, .func (.func 32) #[] #[]] 73)).alloc (.cells (madeCells #[.int .i64 0, .int .i64 0, .int .i64 0, .int .i64 0, .int .i64 0, .int .i64 0] (tn * 6)) 62) := ⟨_, rfl⟩
 have e1 : (w.alloc (.cells #[.int .i64 sw, .int .i64 la, .int .i64 cm, .int .i64 inp, .slice sa sn sc, .slice ba bn bc, .slice ta tn tc, .func (.func 32) #[] #[]] 73)).heap.size = w.heap.size + 1 := by simp
 have RI0 : W3.rowIs (w.heap.size + 1) 62 (tn * 6) (roF m 0) := by
  have := made_is (w.alloc (.cells #[.int .i64 sw, .int .i64 la, .int .i64 cm, .int .i64 inp, .slice sa sn sc, .slice ba bn bc, .slice ta tn tc, .func (.func 32) #[] #[]] 73)) #[.int .i64 0, .int .i64 0, .int .i64 0, .int .i64 0, .int .i64 0, .int .i64 0] (tn * 6) 62
  rw [e1, ← hW3] at this
  exact this.congr fun j _ => roF_zero m j
 have b1 := below_alloc w (.cells #[.int .i64 sw, .int .i64 la, .int .i64 cm, .int .i64 inp, .slice sa sn sc, .slice ba bn bc, .slice ta tn tc, .func (.func 32) #[] #[]] 73)
 have b2 := below_alloc (w.alloc (.cells #[.int .i64 sw, .int .i64 la, .int .i64 cm, .int .i64 inp, .slice sa sn sc, .slice ba bn bc, .slice ta tn tc, .func (.func 32) #[] #[]] 73)) (.cells (madeCells #[.int .i64 0, .int .i64 0, .int .i64 0, .int .i64 0, .int .i64 0, .int .i64 0] (tn * 6)) 62)
 have HB3 : Hid (Below w.heap.size w W3) := by show Below _ _ _; rw [hW3]; exact keep_below b1 b2
 have HC3 : Hid (∀ j v, (#[.int .i64 sw, .int .i64 la, .int .i64 cm, .int .i64 inp, .slice sa sn sc, .slice ba bn bc, .slice ta tn tc, .func (.func 32) #[] #[]] : Array Value).toList[j]? = some v → W3.cell? ⟨w.heap.size, j, none⟩ = some v) := fun j v hj => by rw [hW3]; exact keep_cell b2 (C0.out j v hj)
 have hg3 : w.heap.size + 1 < W3.heap.size := World.rowIs.lt RI0
 have c6b := keep_cell b2 c6
 have HW3 := Lib.hid hW3
 clear hW3 e1 b1 b2 C0 c0
 go_enter Tryz.func67, Tryz.ntmps67
 go_wp2
 rw [← HW3.out]
 clear c6 c6b hmk HW3
 go_loopw [19] (fun i wr => ∃ q : Nat, q ≤ tn ∧ i = .int .i64 q ∧ wr.rowIs (w.heap.size + 1) 62 (tn * 6) (roF m q) ∧ Hid (Kep (w.heap.size + 1) W3 wr)) (fun i _ => tn - (intOf i).toNat)
 case atStart => exact ⟨0, by omega, rfl, RI0, Kep.refl _ _⟩
 case round =>
  clear RI0
  obtain ⟨q, hq, rfl, rI, HK⟩ := hrel
  have hzr := HK.out.size
  have hbw : Below w.heap.size w wr := HB3.out.trans (HK.out.below (by omega) (by omega))
  by_cases hlt : q < tn
  ·obtain ⟨b9, o9, ⟨pr, pe, de, ji, ⟨xa, xn, xc⟩, ⟨oa, on, oc⟩, ⟨ca, cn, cc⟩⟩, T, rfl, hb9, hT, ht, hcs⟩ := HTk.out q hlt
   obtain ⟨b8, o8, rfl, hb8, hc8, hkn⟩ := HWA.out q hlt
   have e0 : wr.cell? ⟨b9, o9 + q * 7, none⟩ = some (.int .i64 pr) := keep_cell hbw (hcs 0 _ rfl)
   have e1 : wr.cell? ⟨b9, o9 + q * 7 + 1, none⟩ = some (.int .i64 pe) := keep_cell hbw (hcs 1 _ rfl)
   have e2 : wr.cell? ⟨b9, o9 + q * 7 + 2, none⟩ = some (.int .i64 de) := keep_cell hbw (hcs 2 _ rfl)
   have e3 : wr.cell? ⟨b9, o9 + q * 7 + 3, none⟩ = some (.int .i64 ji) := keep_cell hbw (hcs 3 _ rfl)
   have e4 : wr.cell? ⟨b9, o9 + q * 7 + 4, none⟩ = some (.slice xa xn xc) := keep_cell hbw (hcs 4 _ rfl)
   have e5 : wr.cell? ⟨b9, o9 + q * 7 + 5, none⟩ = some (.slice oa on oc) := keep_cell hbw (hcs 5 _ rfl)
   have e6 : wr.cell? ⟨b9, o9 + q * 7 + 6, none⟩ = some (.slice ca cn cc) := keep_cell hbw (hcs 6 _ rfl)
   have HE8 := Lib.hid hc8
   have eT : tkAt m q = T := tkAt_of hT
   obtain ⟨SL, hSL⟩ : ∃ SL, SL = slW m q := ⟨_, rfl⟩
   obtain ⟨WV, hWV⟩ : ∃ WV, WV = (waA m).getD q 0 := ⟨_, rfl⟩
   have HRT : Hid (roT m q = ⟨SL, WV, pe, de, ji, pr⟩) := by
    show _ = _
    obtain ⟨t1, t2, t3, t4, _⟩ := ht
    simp only at t1 t2 t3 t4
    rw [hSL, hWV, t1, t2, t3, t4]
    unfold roT
    rw [eT]
   have A0 := Lib.hid (below_alloc wr (.cells #[.int .i64 pr, .int .i64 pe, .int .i64 de, .int .i64 ji, .slice xa xn xc, .slice oa on oc, .slice ca cn cc] 59))
   have hbw2 := keep_below hbw A0.out
   have k0 := keep_cell A0.out (HK.out.cell (p := ⟨w.heap.size, 0, none⟩) (by show w.heap.size ≠ _; omega) (HC3.out 0 _ rfl))
   have k1 := keep_cell A0.out (HK.out.cell (p := ⟨w.heap.size, 1, none⟩) (by show w.heap.size ≠ _; omega) (HC3.out 1 _ rfl))
   have k2 := keep_cell A0.out (HK.out.cell (p := ⟨w.heap.size, 2, none⟩) (by show w.heap.size ≠ _; omega) (HC3.out 2 _ rfl))
   have k3 := keep_cell A0.out (HK.out.cell (p := ⟨w.heap.size, 3, none⟩) (by show w.heap.size ≠ _; omega) (HC3.out 3 _ rfl))
   have k4 := keep_cell A0.out (HK.out.cell (p := ⟨w.heap.size, 4, none⟩) (by show w.heap.size ≠ _; omega) (HC3.out 4 _ rfl))
   have k5 := keep_cell A0.out (HK.out.cell (p := ⟨w.heap.size, 5, none⟩) (by show w.heap.size ≠ _; omega) (HC3.out 5 _ rfl))
   have k6 := keep_cell A0.out (HK.out.cell (p := ⟨w.heap.size, 6, none⟩) (by show w.heap.size ≠ _; omega) (HC3.out 6 _ rfl))
   have i1 : (0 : Int) ≤ (q : Int) := by omega
   have i2 : (q : Int) < (tn : Int) := by omega
   have i3 : (q : Int) < (wn : Int) := by omega
   have RI := Lib.hid (World.rowIs.alloc rI (.cells #[.int .i64 pr, .int .i64 pe, .int .i64 de, .int .i64 ji, .slice xa xn xc, .slice oa on oc, .slice ca cn cc] 59))
   have CQ0 := CU.out q _ hbw2 hlt
   rw [← hSL] at CQ0
   have CQ := Lib.hid CQ0
   rw [← hWV] at HE8
   have X0 := Lib.hid (cells_new wr #[.int .i64 pr, .int .i64 pe, .int .i64 de, .int .i64 ji, .slice xa xn xc, .slice oa on oc, .slice ca cn cc] 59)
   have hgl := World.rowIs.lt rI
   have HBW := Lib.hid hbw
   clear rI CQ0 hcs ht hT eT hSL hWV hc8 hbw hbw2
   go_wp2_with (go_at_call 22; refine CQ.out.mono ?_; rintro e w1 ⟨rfl, hb1⟩; have r1 := World.rowIs.of_block RI.out (hb1.block _ (World.rowIs.lt RI.out)); have z0 := World.rowIs.cell r1 (i := q * 6) (by omega); have z1 := World.rowIs.cell r1 (i := q * 6 + 1) (by omega); have z2 := World.rowIs.cell r1 (i := q * 6 + 2) (by omega); have z3 := World.rowIs.cell r1 (i := q * 6 + 3) (by omega); have z4 := World.rowIs.cell r1 (i := q * 6 + 4) (by omega); have z5 := World.rowIs.cell r1 (i := q * 6 + 5) (by omega); have f0 := World.rowIs.frozen r1 (q * 6); have f1 := World.rowIs.frozen r1 (q * 6 + 1); have f2 := World.rowIs.frozen r1 (q * 6 + 2); have f3 := World.rowIs.frozen r1 (q * 6 + 3); have f4 := World.rowIs.frozen r1 (q * 6 + 4); have f5 := World.rowIs.frozen r1 (q * 6 + 5); have x0 := keep_cell hb1 (X0.out 0 _ rfl); have x1 := keep_cell hb1 (X0.out 1 _ rfl); have x2 := keep_cell hb1 (X0.out 2 _ rfl); have x3 := keep_cell hb1 (X0.out 3 _ rfl); have d8 := keep_cell (keep_below (keep_below HBW.out A0.out) hb1) HE8.out)
   clear k0 k1 k2 k3 k4 k5 k6 e0 e1 e2 e3 e4 e5 e6 CQ
   go_region
   have K1 : Kep (w.heap.size + 1) w1 ((((((w1.setCell ⟨w.heap.size + 1, q * 6, none⟩ (.int .i64 SL)).setCell ⟨w.heap.size + 1, q * 6 + 1, none⟩ (.int .i64 WV)).setCell ⟨w.heap.size + 1, q * 6 + 2, none⟩ (.int .i64 pe)).setCell ⟨w.heap.size + 1, q * 6 + 3, none⟩ (.int .i64 de)).setCell ⟨w.heap.size + 1, q * 6 + 4, none⟩ (.int .i64 ji)).setCell ⟨w.heap.size + 1, q * 6 + 5, none⟩ (.int .i64 pr)).drew := ((((((Kep.set _ (q * 6) _ _).trans (Kep.set _ (q * 6 + 1) _ _)).trans (Kep.set _ (q * 6 + 2) _ _)).trans (Kep.set _ (q * 6 + 3) _ _)).trans (Kep.set _ (q * 6 + 4) _ _)).trans (Kep.set _ (q * 6 + 5) _ _)).trans (Kep.of (blw_dr _))
   have HR3 := Lib.hid ((World.rowIs.drew ((((((r1.set (q * 6) (.int .i64 SL)).set (q * 6 + 1) (.int .i64 WV)).set (q * 6 + 2) (.int .i64 pe)).set (q * 6 + 3) (.int .i64 de)).set (q * 6 + 4) (.int .i64 ji)).set (q * 6 + 5) (.int .i64 pr))).congr (g := roF m (q + 1)) (fun j _ => by have := roF_step m q j; rw [HRT.out] at this; exact this))
   have HK3 := Lib.hid (((HK.out.trans (Kep.of A0.out)).trans (Kep.of hb1)).trans K1)
   clear HK r1 z0 z1 z2 z3 z4 z5 f0 f1 f2 f3 f4 f5 x0 x1 x2 x3 d8 hb1 RI K1 A0 X0 HBW HE8
   go_wp2
   go_roundw
   case rel => exact ⟨q + 1, by omega, by go_num, HR3.out, HK3⟩
   case measure => simp [intOf]; omega
  ·have hqn : q = tn := by omega
   have HF : Hid (Kd.RowS wr (some ⟨w.heap.size + 1, 0, none⟩) tn (roA m)) := by
    refine ⟨by rw [roA_len]; exact HLN.out, fun _ => ⟨w.heap.size + 1, 0, rfl, World.rowIs.lt rI, fun i hi => ?_⟩⟩
    refine ⟨roT m i, roA_at (by rw [← HLN.out]; exact hi), fun j v hj => ?_⟩
    have hj3 : j < 6 := (List.getElem?_eq_some_iff.1 hj).1
    have := World.rowIs.cell rI (i := i * 6 + j) (by omega)
    rw [Nat.zero_add, this]
    unfold roF
    rw [if_pos (by omega), show (i * 6 + j) / 6 = i by omega, show (i * 6 + j) % 6 = j by omega, List.getD_eq_getElem?_getD, hj]; rfl
   clear rI
   go_wp2
   go_ret
   first | exact ⟨_, ⟨_, rfl⟩, HF.out, hbw⟩ | exact ⟨_, _, rfl, HF.out, hbw⟩
structure VdV where
 (er pl : Int) (ro re ce : Sl)
def VdV.v (t : VdV) : Value := .agg #[.int .i64 t.er, .int .i64 t.pl, t.ro.v, t.re.v, t.ce.v]
def VdV.Is (w : World) (t : VdV) (K : VdP) : Prop := t.er = K.er ∧ t.pl = K.pl ∧ Kd.RowS w t.ro.a t.ro.n K.ro ∧ Row w t.re.a t.re.n K.re ∧ Row w t.ce.a t.ce.n K.ce
theorem VdV.Is.below {w w' : World} {t : VdV} {K : VdP} (h : t.Is w K) (hb : Below w.heap.size w w') : t.Is w' K := ⟨h.1, h.2.1, h.2.2.1.below hb, h.2.2.2.1.below hb, h.2.2.2.2.below hb⟩
theorem VdV.Is.kep {g : Nat} {w w' : World} {t : VdV} {K : VdP} (h : t.Is w K) (hk : Kep g w w') (h1 : 0 < t.ro.n → ∀ p, t.ro.a = some p → p.block ≠ g) (h2 : 0 < t.re.n → ∀ p, t.re.a = some p → p.block ≠ g) (h3 : 0 < t.ce.n → ∀ p, t.ce.a = some p → p.block ≠ g) : t.Is w' K := by
 obtain ⟨e1, e2, r1, r2, r3⟩ := h
 refine ⟨e1, e2, ⟨r1.1, fun hn => ?_⟩, ⟨r2.1, fun hn => ?_⟩, ⟨r3.1, fun hn => ?_⟩⟩
 ·obtain ⟨b, off, e, hlt, hc⟩ := r1.2 hn
  have hb : b ≠ g := h1 hn _ e
  refine ⟨b, off, e, Nat.lt_of_lt_of_le hlt hk.size, fun i hi => ?_⟩
  obtain ⟨r, hr, hcs⟩ := hc i hi
  exact ⟨r, hr, fun j v hj => hk.cell hb (hcs j v hj)⟩
 ·obtain ⟨b, off, e, hlt, hc⟩ := r2.2 hn
  have hb : b ≠ g := h2 hn _ e
  exact ⟨b, off, e, Nat.lt_of_lt_of_le hlt hk.size, fun i hi => hk.cell hb (hc i hi)⟩
 ·obtain ⟨b, off, e, hlt, hc⟩ := r3.2 hn
  have hb : b ≠ g := h3 hn _ e
  exact ⟨b, off, e, Nat.lt_of_lt_of_le hlt hk.size, fun i hi => hk.cell hb (hc i hi)⟩
end Go.Proofs.YtngehojibcmieaaGreatDoor
end
