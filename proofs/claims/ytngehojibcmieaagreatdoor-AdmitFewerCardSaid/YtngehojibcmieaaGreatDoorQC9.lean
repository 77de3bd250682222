/- What is proved here: contracts of what package check asks of a plan: wrongSteps, wrongLocks, isBeyond. Conditions: the image and the task lie in memory; the table of names holds what its initialiser lays ('Nms'). contracts of wrongPlaces and wrong of package check. contracts of check.Task and check.All. Conditions: the image lies in memory; the table of names holds what its initialiser lays ('Nms'). contracts of check.Slots and check.Locked. -/
import Derived.Test.YtngehojibcmieaaGreatDoorQR1
import Derived.Test.YtngehojibcmieaaGreatDoorQGj
import Derived.Test.YtngehojibcmieaaGreatDoorQGr
set_option maxRecDepth 100000
set_option maxHeartbeats 8000000
section
namespace Go.Proofs.YtngehojibcmieaaGreatDoor
open Go.ChangeShapes Go.WideShapes Go.RowKit
def pv (x : ImV) (t : TaV) : Value := .agg #[.int .i64 x.sw, .int .i64 x.la, .int .i64 x.cm, .int .i64 x.inp, x.safe.v, x.blocks.v, x.tasks.v, .int .i64 t.pr, .int .i64 t.pe, .int .i64 t.de, .int .i64 t.ji, t.bl.v, t.ou.v, t.co.v]
theorem wrongSteps_any (x : ImV) (t : TaV) (co : List (Int × Int × Int)) (w : World) (h : SlC w t.co co) (hN : Nms w) (r : Int) (hq : cE true co = r) :
  Calls Tryz.prog 107 #[pv x t] w fun e w' => e = .returned (.int .i64 r) ∧ Below w.heap.size w w' := by
 obtain ⟨sw, la, cm, inp, ⟨sa, sn, sc⟩, ⟨ba, bn, bc⟩, ⟨ta, tn, tc⟩⟩ := x
 obtain ⟨pr, pe, de, ji, ⟨xa, xn, xc⟩, ⟨oa, on, oc⟩, ⟨ca, cn, cc⟩⟩ := t
 have cw := fun W (hb : Below w.heap.size w W) => worst_any ca cn cc co W (h.1.below hb) (hN.below hb)
 rw [hq] at cw
 generalize cW true co = y at cw
 have CW := Lib.hid cw
 clear cw h hN hq
 simp only [pv, Sl.v]
 go_enter Tryz.func107, Tryz.ntmps107
 go_wp2_with (refine (CW.out _ (below_alloc _ _)).mono ?_; rintro e w1 ⟨rfl, hb1⟩)
 go_ret
 exact ⟨rfl, (below_alloc _ _).trans (hb1.mono (by simp))⟩
theorem wrongLocks_any (x : ImV) (t : TaV) (T : TkP) (w : World) (h : t.Is w T) (hc : cE true T.co = 0) (hN : Nms w) (r : Int) (hq : wlE T = r) :
  Calls Tryz.prog 108 #[pv x t] w fun e w' => e = .returned (.int .i64 r) ∧ Below w.heap.size w w' := by
 obtain ⟨sw, la, cm, inp, ⟨sa, sn, sc⟩, ⟨ba, bn, bc⟩, ⟨ta, tn, tc⟩⟩ := x
 obtain ⟨pr, pe, de, ji, ⟨xa, xn, xc⟩, ⟨oa, on, oc⟩, ⟨ca, cn, cc⟩⟩ := t
 obtain ⟨-, -, -, -, ⟨hX, hXm⟩, -, ⟨hC, hCm⟩⟩ := h
 have hl := (rE_zero (cE_zero hc).1).1
 have cl := fun W (hb : Below w.heap.size w W) => locks_any ca cn cc T.co W (hC.below hb) (hN.below hb)
 unfold GotL at cl
 rw [hl, show lA T.co = lks T.co T.co.length by unfold lA; rw [if_pos hl]] at cl
 have hlen : (lks T.co T.co.length).length ≤ cn := by have h1 := hC.1; have h2 := lks_len T.co T.co.length; simp only at h1; omega
 obtain ⟨K, hK⟩ : ∃ K, K = lks T.co T.co.length := ⟨_, rfl⟩
 rw [← hK] at cl hlen
 have CL := Lib.hid cl
 have HK : Hid (∀ z, decide (K = T.bl) = z → r = if z = true then 0 else 11) := by
  rintro z rfl
  rw [← hq]; unfold wlE; rw [← hK]; simp
 have C0 := Lib.hid (cells_new w #[.int .i64 sw, .int .i64 la, .int .i64 cm, .int .i64 inp, .slice sa sn sc, .slice ba bn bc, .slice ta tn tc, .int .i64 pr, .int .i64 pe, .int .i64 de, .int .i64 ji, .slice xa xn xc, .slice oa on oc, .slice ca cn cc] 122)
 have B0 := Lib.hid (below_alloc w (.cells #[.int .i64 sw, .int .i64 la, .int .i64 cm, .int .i64 inp, .slice sa sn sc, .slice ba bn bc, .slice ta tn tc, .int .i64 pr, .int .i64 pe, .int .i64 de, .int .i64 ji, .slice xa xn xc, .slice oa on oc, .slice ca cn cc] 122))
 have CE := Lib.hid (fun W a2 n2 c2 (h2 : Row W a2 n2 K) (hb : Below w.heap.size w W) => equalI_any a2 xa n2 xn c2 xc K T.bl W h2 (hX.below hb) (by have := h2.1; simp only at hCm; omega) hXm)
 obtain ⟨z, hz⟩ : ∃ z, z = decide (K = T.bl) := ⟨_, rfl⟩
 rw [← hz] at CE
 have HR : Hid (r = if z = true then 0 else 11) := HK.out z hz.symm
 clear cl hlen HK hK hz hl hq hX hXm hC hCm hN hc
 simp only [pv, Sl.v]
 cases z
 all_goals
  go_enter Tryz.func108, Tryz.ntmps108
  go_wp2_with (first
   | (go_at_call 151; refine (CL.out _ B0.out).mono ?_; rintro e w1 ⟨a1, n1, c1, rfl, hr1, hb1⟩; have d1 := keep_cell hb1 (C0.out 11 _ rfl); have b2 := keep_below B0.out hb1)
   | (go_at_call 60; refine (CE.out _ _ _ _ hr1 b2).mono ?_; rintro e w2 ⟨rfl, hb2⟩))
  go_ret
  exact ⟨by rw [HR.out]; rfl, keep_below b2 hb2⟩
theorem isBeyond_any (x : ImV) (m : ImP) (t : TaV) (T : TkP) (o a b : Int) (w : World) (h : x.Is w m) (ht : t.Is w T) (hth : o = 17 ∨ o = 18 → 0 ≤ a ∧ a < (m.blocks.length : Int)) (r : Bool) (hq : bynE m T.ou (o, a, b) = r) :
  Calls Tryz.prog 153 #[pv x t, .agg #[.int .i64 o, .int .i64 a, .int .i64 b]] w fun e w' => e = .returned (.bool r) ∧ Below w.heap.size w w' := by
 obtain ⟨sw, la, cm, inp, ⟨sa, sn, sc⟩, ⟨ba, bn, bc⟩, ⟨ta, tn, tc⟩⟩ := x
 obtain ⟨pr, pe, de, ji, ⟨xa, xn, xc⟩, ⟨oa, on, oc⟩, ⟨ca, cn, cc⟩⟩ := t
 obtain ⟨-, -, -, hi, -, ⟨hB, hBm⟩, -⟩ := h
 obtain ⟨-, -, -, -, -, ⟨hO, hOm⟩, -⟩ := ht
 simp only at hi hB hBm hO hOm
 unfold bynE at hq
 simp only at hq
 simp only [pv, Sl.v]
 by_cases h15 : o = 15
 ·subst h15
  rw [if_pos rfl] at hq
  have HR : Hid (decide (inp ≤ a) = r) := by rw [hi]; exact hq
  clear hB hBm hO hOm hth hq hi
  go_enter Tryz.func153, Tryz.ntmps153
  go_wp2
  go_ret
  exact ⟨by rw [← HR.out]; rfl, (below_alloc _ _).trans ((below_alloc _ _).mono (by simp))⟩
 ·rw [if_neg h15] at hq
  have e15 : (o == 15) = false := by rw [beq_eq_false_iff_ne]; exact h15
  by_cases h16 : o = 16
  ·subst h16
   rw [if_pos rfl] at hq
   obtain ⟨z, hz⟩ : ∃ z, T.ou.contains a = z := ⟨_, rfl⟩
   have CC := Lib.hid (fun W (hb : Below w.heap.size w W) => containsI_any oa on oc T.ou a W (hO.below hb) hOm z hz)
   have HR : Hid ((!z) = r) := by rw [← hz]; exact hq
   have B1 := Lib.hid (fun c1 c2 => ((below_alloc w c1).trans ((below_alloc (w.alloc c1) c2).mono (by simp)) : Below w.heap.size w ((w.alloc c1).alloc c2)))
   clear hB hBm hO hOm hth hq hi hz h15
   go_enter Tryz.func153, Tryz.ntmps153
   go_wp2_with (go_at_call 114; refine (CC.out _ (B1.out _ _)).mono ?_; rintro e w2 ⟨rfl, hb2⟩)
   go_ret
   exact ⟨by rw [← HR.out]; rfl, keep_below (B1.out _ _) hb2⟩
  ·rw [if_neg h16] at hq
   have e16 : (o == 16) = false := by rw [beq_eq_false_iff_ne]; exact h16
   by_cases h17 : o = 17 ∨ o = 18
   ·rw [if_pos h17] at hq
    obtain ⟨g1, g2⟩ := hth h17
    have hbn := hB.1
    obtain ⟨ai, rfl⟩ : ∃ ai : Nat, a = (ai : Int) := ⟨a.toNat, by omega⟩
    obtain ⟨b1, o1, a1, n1, c1, l1, rfl, hB1, hx, hc1, hr1, hn1⟩ := hB.item (k := ai) (by omega)
    have HR : Hid (decide ((n1 : Int) ≤ b) = r) := by
     rw [← hq, hr1.1, Int.toNat_natCast, List.getD_eq_getElem?_getD, hx]; rfl
    have i1 : (0 : Int) ≤ (ai : Int) := by omega
    have i2 : (ai : Int) < (bn : Int) := by omega
    have H1 := Lib.hid hc1
    have KB := Lib.hid (fun c1 c2 => ((below_alloc w c1).trans ((below_alloc (w.alloc c1) c2).mono (by simp)) : Below w.heap.size w ((w.alloc c1).alloc c2)))
    clear hB hx hr1 hO hOm hq hi hth g1 g2 hbn
    rcases h17 with rfl | rfl
    ·have hc2 := keep_cell (KB.out (.cells #[.int .i64 sw, .int .i64 la, .int .i64 cm, .int .i64 inp, .slice sa sn sc, .slice (some ⟨b1, o1, none⟩) bn bc, .slice ta tn tc, .int .i64 pr, .int .i64 pe, .int .i64 de, .int .i64 ji, .slice xa xn xc, .slice oa on oc, .slice ca cn cc] 122) (.cells #[.int .i64 17, .int .i64 ai, .int .i64 b] 103)) H1.out
     go_enter Tryz.func153, Tryz.ntmps153
     go_wp2
     go_quiet (fail)
     go_wp2
     go_ret
     exact ⟨by rw [← HR.out]; rfl, (KB.out _ _).trans ⟨rfl, rfl, rfl, Nat.le_refl _, fun _ _ => rfl⟩⟩
    ·have hc2 := keep_cell (KB.out (.cells #[.int .i64 sw, .int .i64 la, .int .i64 cm, .int .i64 inp, .slice sa sn sc, .slice (some ⟨b1, o1, none⟩) bn bc, .slice ta tn tc, .int .i64 pr, .int .i64 pe, .int .i64 de, .int .i64 ji, .slice xa xn xc, .slice oa on oc, .slice ca cn cc] 122) (.cells #[.int .i64 18, .int .i64 ai, .int .i64 b] 103)) H1.out
     go_enter Tryz.func153, Tryz.ntmps153
     go_wp2
     go_quiet (fail)
     go_wp2
     go_ret
     exact ⟨by rw [← HR.out]; rfl, (KB.out _ _).trans ⟨rfl, rfl, rfl, Nat.le_refl _, fun _ _ => rfl⟩⟩
   ·rw [if_neg h17] at hq
    have e17 : (o == 17) = false := by rw [beq_eq_false_iff_ne]; omega
    have e18 : (o == 18) = false := by rw [beq_eq_false_iff_ne]; omega
    clear hB hBm hO hOm hth hi h15 h16 h17
    subst hq
    go_enter Tryz.func153, Tryz.ntmps153
    go_wp2
    go_ret
    exact ⟨rfl, (below_alloc _ _).trans ((below_alloc _ _).mono (by simp))⟩
theorem any_step {L : List (Int × Int × Int)} {k : Nat} {x : Int × Int × Int} {f : Int × Int × Int → Bool} (h : L[k]? = some x) : (L.drop k).any f = (f x || (L.drop (k + 1)).any f) := by
 rw [take_cons_drop h, List.any_cons]
theorem indexB_any (a : Option Addr) (n c : Nat) (L : List (Int × Int × Int)) (f : Int × Int × Int → Bool) (V : Value) (w : World) (hr : RowI w a n L) (hn : n ≤ 1000000)
  (CE : Hid (∀ W (k : Nat) (o x y : Int), Below w.heap.size w W → L[k]? = some (o, x, y) → ∀ r, f (o, x, y) = r → Calls Tryz.prog 153 #[V, .agg #[.int .i64 o, .int .i64 x, .int .i64 y]] W fun e w' => e = .returned (.bool r) ∧ Below W.heap.size W w')) :
  Calls Tryz.prog 195 #[.slice a n c, .func (.func 153) #[V] #[]] w fun e w' => ∃ i : Int, e = .returned (.int .i64 i) ∧ decide (0 ≤ i) = L.any f ∧ Below w.heap.size w w' := by
 have HL := Lib.hid hr.1
 go_enter Tryz.func195, Tryz.ntmps195
 go_wp2
 go_loopw [8] (fun i wr => ∃ k : Nat, k ≤ n ∧ i = .int .i64 k ∧ Hid (L.any f = (L.drop k).any f) ∧ Below w.heap.size w wr) (fun i _ => n - (intOf i).toNat)
 case atStart => exact ⟨0, by omega, rfl, rfl, Below.refl _ _⟩
 case round =>
  obtain ⟨k, hk, rfl, HA, hbl⟩ := hrel
  by_cases hlt : k < n
  ·obtain ⟨b1, o1, p1, p2, p3, rfl, hB1, hx, hc1, hc2, hc3⟩ := (hr.below hbl).at_ hlt
   have HX := Lib.hid (any_step (f := f) hx)
   have C1 := Lib.hid (fun W (hb : Below w.heap.size w W) r hq => CE.out W k p1 p2 p3 hb hx r hq)
   clear hx
   cases hv : f (p1, p2, p3)
   ·have HQ : Hid (L.any f = (L.drop (k + 1)).any f) := by rw [HA.out, HX.out, hv]; rfl
    have C2 := Lib.hid (fun W hb => C1.out W hb _ hv)
    clear hv HA HX C1
    go_wp2_with (refine (C2.out _ (by first | exact hbl | exact hbl.alloc hbl.size _)).mono ?_; rintro e w2 ⟨rfl, hb2⟩)
    go_roundw
    case rel => exact ⟨k + 1, by omega, by go_num, HQ, by first | exact keep_below hbl hb2 | exact keep_below (hbl.alloc hbl.size _) hb2⟩
    case measure => simp [intOf]; omega
   ·have HQ : Hid (L.any f = true) := by rw [HA.out, HX.out, hv]; rfl
    have C2 := Lib.hid (fun W hb => C1.out W hb _ hv)
    clear hv HA HX C1
    go_wp2_with (refine (C2.out _ (by first | exact hbl | exact hbl.alloc hbl.size _)).mono ?_; rintro e w2 ⟨rfl, hb2⟩)
    go_ret
    exact ⟨_, rfl, by rw [HQ.out]; simp, by first | exact keep_below hbl hb2 | exact keep_below (hbl.alloc hbl.size _) hb2⟩
  ·obtain rfl : k = n := by omega
   have HR : Hid (L.any f = false) := by rw [HA.out, List.drop_of_length_le (by rw [HL.out]; exact Nat.le_refl _)]; rfl
   go_wp2
   go_ret
   exact ⟨_, rfl, by rw [HR.out]; rfl, hbl⟩
theorem containsB_any (a : Option Addr) (n c : Nat) (L : List (Int × Int × Int)) (f : Int × Int × Int → Bool) (V : Value) (w : World) (hr : RowI w a n L) (hn : n ≤ 1000000)
  (CE : Hid (∀ W (k : Nat) (o x y : Int), Below w.heap.size w W → L[k]? = some (o, x, y) → ∀ r, f (o, x, y) = r → Calls Tryz.prog 153 #[V, .agg #[.int .i64 o, .int .i64 x, .int .i64 y]] W fun e w' => e = .returned (.bool r) ∧ Below W.heap.size W w'))
  (r : Bool) (hq : L.any f = r) :
  Calls Tryz.prog 152 #[.slice a n c, .func (.func 153) #[V] #[]] w fun e w' => e = .returned (.bool r) ∧ Below w.heap.size w w' := by
 have C := Lib.hid (indexB_any a n c L f V w hr hn CE)
 have HQ := Lib.hid hq
 clear hr hn hq CE
 go_enter Tryz.func152, Tryz.ntmps152
 go_wp2_with (refine C.out.mono ?_; rintro e w2 ⟨i, rfl, hi0, hb2⟩; have hi := Lib.hid hi0; clear hi0)
 go_ret
 exact ⟨by rw [← HQ.out, ← hi.out]; rfl, hb2⟩
def There (m : ImP) (co : List (Int × Int × Int)) : Prop := ∀ p, p < co.length → ((at_ co p).1 = 17 ∨ (at_ co p).1 = 18) → 0 ≤ (at_ co p).2.1 ∧ (at_ co p).2.1 < (m.blocks.length : Int)
theorem wrongPlaces_any (x : ImV) (m : ImP) (t : TaV) (T : TkP) (w : World) (h : x.Is w m) (ht : t.Is w T) (hth : There m T.co) (hn : T.co.length ≤ 1000000) (r : Int) (hq : wpE m T = r) :
  Calls Tryz.prog 109 #[pv x t] w fun e w' => e = .returned (.int .i64 r) ∧ Below w.heap.size w w' := by
 have CE : Hid (∀ W (k : Nat) (o a b : Int), Below w.heap.size w W → T.co[k]? = some (o, a, b) → ∀ r, bynE m T.ou (o, a, b) = r → Calls Tryz.prog 153 #[pv x t, .agg #[.int .i64 o, .int .i64 a, .int .i64 b]] W fun e w' => e = .returned (.bool r) ∧ Below W.heap.size W w') := by
  intro W k o a b hb hk r hr
  refine isBeyond_any x m t T o a b W (h.below hb) (ht.below hb) ?_ r hr
  have hk2 := (List.getElem?_eq_some_iff.1 hk).1
  have := hth k hk2
  have e : at_ T.co k = (o, a, b) := by unfold at_; rw [List.getD_eq_getElem?_getD, hk]; rfl
  rw [e] at this
  exact this
 obtain ⟨z, hz⟩ : ∃ z, T.co.any (bynE m T.ou) = z := ⟨_, rfl⟩
 have HR : Hid ((if z = true then 12 else 0) = r) := by rw [← hz]; exact hq
 have hC := ht.2.2.2.2.2.2
 have hCl := hC.1.1
 have CC := Lib.hid (fun W (hb : Below w.heap.size w W) => containsB_any t.co.a t.co.n t.co.c T.co (bynE m T.ou) (pv x t) W (hC.1.below hb) (by omega) (fun W' k o a b hb' => CE.out W' k o a b (keep_below hb hb')) z hz)
 clear CE hC hCl h ht hth hn hz hq
 obtain ⟨sw, la, cm, inp, ⟨sa, sn, sc⟩, ⟨ba, bn, bc⟩, ⟨ta, tn, tc⟩⟩ := x
 obtain ⟨pr, pe, de, ji, ⟨xa, xn, xc⟩, ⟨oa, on, oc⟩, ⟨ca, cn, cc⟩⟩ := t
 simp only [pv, Sl.v] at CC ⊢
 cases z
 all_goals
  go_enter Tryz.func109, Tryz.ntmps109
  go_wp2_with (refine (CC.out _ (below_alloc _ _)).mono ?_; rintro e w1 ⟨rfl, hb1⟩)
  go_ret
  exact ⟨by rw [← HR.out]; rfl, keep_below (below_alloc _ _) hb1⟩
theorem wrong_any (x : ImV) (m : ImP) (t : TaV) (T : TkP) (w : World) (h : x.Is w m) (ht : t.Is w T) (hm : imE m = true) (hT : T ∈ m.tasks) (hN : Nms w) (r : Int) (hq : wrE m T = r) :
  Calls Tryz.prog 64 #[pv x t] w fun e w' => e = .returned (.int .i64 r) ∧ Below w.heap.size w w' := by
 have hco := (tkE_parts ((tasksE_parts (imE_parts hm).2.2.2).2.2.1 T hT)).2.2.2
 have hcl : T.co.length ≤ 200 := by
  unfold codeE at hco
  simp only [Bool.and_eq_true] at hco
  have := inB_iff.1 hco.1; omega
 obtain ⟨r1, h1⟩ : ∃ r1, cE true T.co = r1 := ⟨_, rfl⟩
 obtain ⟨r2, h2⟩ : ∃ r2, wlE T = r2 := ⟨_, rfl⟩
 obtain ⟨r3, h3⟩ : ∃ r3, wpE m T = r3 := ⟨_, rfl⟩
 have C1 := Lib.hid (fun W (hb : Below w.heap.size w W) => wrongSteps_any x t T.co W (ht.2.2.2.2.2.2.below hb) (hN.below hb) r1 h1)
 have C2 := Lib.hid (fun W (hb : Below w.heap.size w W) (h0 : r1 = 0) => wrongLocks_any x t T W (ht.below hb) (h1.trans h0) (hN.below hb) r2 h2)
 have C3 := Lib.hid (fun W (hb : Below w.heap.size w W) (h0 : r1 = 0) (h0' : r2 = 0) => wrongPlaces_any x m t T W (h.below hb) (ht.below hb) (fun p hp ho => block_there hm hT (h1.trans h0) (by
  by_cases e : lks T.co T.co.length = T.bl
  ·exact e
  ·unfold wlE at h2; rw [if_neg e] at h2; omega) hp ho) (by omega) r3 h3)
 have HR : Hid ((if r1 = 0 then (if r2 = 0 then r3 else r2) else r1) = r) := by rw [← hq, ← h1, ← h2, ← h3]; rfl
 clear h1 h2 h3 hco hcl h ht hm hT hN hq
 obtain ⟨sw, la, cm, inp, ⟨sa, sn, sc⟩, ⟨ba, bn, bc⟩, ⟨ta, tn, tc⟩⟩ := x
 obtain ⟨pr, pe, de, ji, ⟨xa, xn, xc⟩, ⟨oa, on, oc⟩, ⟨ca, cn, cc⟩⟩ := t
 simp only [pv, Sl.v] at C1 C2 C3 ⊢
 have C0 := Lib.hid (cells_new w #[.int .i64 sw, .int .i64 la, .int .i64 cm, .int .i64 inp, .slice sa sn sc, .slice ba bn bc, .slice ta tn tc, .int .i64 pr, .int .i64 pe, .int .i64 de, .int .i64 ji, .slice xa xn xc, .slice oa on oc, .slice ca cn cc] 122)
 have B0 := Lib.hid (below_alloc w (.cells #[.int .i64 sw, .int .i64 la, .int .i64 cm, .int .i64 inp, .slice sa sn sc, .slice ba bn bc, .slice ta tn tc, .int .i64 pr, .int .i64 pe, .int .i64 de, .int .i64 ji, .slice xa xn xc, .slice oa on oc, .slice ca cn cc] 122))
 have i0 : ∀ w, (Instr.index 169 (.agg #[.func (.func 107) #[] #[], .func (.func 108) #[] #[], .func (.func 109) #[] #[]]) (.int .i64 0)).run Tryz.prog w = .ok (.func (.func 107) #[] #[]) w := fun _ => by kernel_rfl
 have i1 : ∀ w, (Instr.index 169 (.agg #[.func (.func 107) #[] #[], .func (.func 108) #[] #[], .func (.func 109) #[] #[]]) (.int .i64 1)).run Tryz.prog w = .ok (.func (.func 108) #[] #[]) w := fun _ => by kernel_rfl
 have i2 : ∀ w, (Instr.index 169 (.agg #[.func (.func 107) #[] #[], .func (.func 108) #[] #[], .func (.func 109) #[] #[]]) (.int .i64 2)).run Tryz.prog w = .ok (.func (.func 109) #[] #[]) w := fun _ => by kernel_rfl
 go_enter Tryz.func64, Tryz.ntmps64
 go_wp2
 generalize (w.alloc (.cells #[.int .i64 sw, .int .i64 la, .int .i64 cm, .int .i64 inp, .slice sa sn sc, .slice ba bn bc, .slice ta tn tc, .int .i64 pr, .int .i64 pe, .int .i64 de, .int .i64 ji, .slice xa xn xc, .slice oa on oc, .slice ca cn cc] 122)) = W0 at *
 go_loopw [7] (fun i wr => ∃ (k : Nat) (q : Int), k ≤ 3 ∧ q = (k : Int) ∧ i = .int .i64 q ∧ Hid (0 < k → r1 = 0) ∧ Hid (1 < k → r2 = 0) ∧ Hid (2 < k → r3 = 0) ∧ Below W0.heap.size W0 wr) (fun i _ => 3 - (intOf i).toNat)
 case atStart => exact ⟨0, 0, by omega, rfl, rfl, fun h => absurd h (by omega), fun h => absurd h (by omega), fun h => absurd h (by omega), Below.refl _ _⟩
 case round =>
  obtain ⟨k, q, hk, hq, rfl, H1, H2, H3, hbl⟩ := hrel
  have hbw := keep_below B0.out hbl
  have c0 := keep_cell hbl (C0.out 0 _ rfl)
  have c1 := keep_cell hbl (C0.out 1 _ rfl)
  have c2 := keep_cell hbl (C0.out 2 _ rfl)
  have c3 := keep_cell hbl (C0.out 3 _ rfl)
  have c4 := keep_cell hbl (C0.out 4 _ rfl)
  have c5 := keep_cell hbl (C0.out 5 _ rfl)
  have c6 := keep_cell hbl (C0.out 6 _ rfl)
  have c7 := keep_cell hbl (C0.out 7 _ rfl)
  have c8 := keep_cell hbl (C0.out 8 _ rfl)
  have c9 := keep_cell hbl (C0.out 9 _ rfl)
  have c10 := keep_cell hbl (C0.out 10 _ rfl)
  have c11 := keep_cell hbl (C0.out 11 _ rfl)
  have c12 := keep_cell hbl (C0.out 12 _ rfl)
  have c13 := keep_cell hbl (C0.out 13 _ rfl)
  rcases (show k = 0 ∨ k = 1 ∨ k = 2 ∨ k = 3 by omega) with rfl | rfl | rfl | rfl
  ·obtain rfl : q = 0 := hq
   by_cases z1 : r1 = 0
   ·have HZ := Lib.hid z1
    have e1 : (r1 == 0) = true := by simpa using z1
    have e2 : (r1 != 0) = false := by simpa using z1
    clear z1
    go_wp2_with (refine (C1.out _ hbw).mono ?_; rintro e w1 ⟨rfl, hb1⟩)
    go_roundw
    case rel => exact ⟨1, 1, by omega, rfl, by go_num, fun _ => HZ.out, fun h => absurd h (by omega), fun h => absurd h (by omega), keep_below hbl hb1⟩
    case measure => simp [intOf]
   ·have HZ : Hid (r1 = r) := by have := HR.out; rw [if_neg z1] at this; exact this
    have e1 : (r1 == 0) = false := by simpa using z1
    have e2 : (r1 != 0) = true := by simpa using z1
    clear z1
    go_wp2_with (refine (C1.out _ hbw).mono ?_; rintro e w1 ⟨rfl, hb1⟩)
    go_ret
    exact ⟨by rw [HZ.out]; rfl, keep_below hbw hb1⟩
  ·obtain rfl : q = 1 := hq
   have y1 := H1.out (by omega)
   by_cases z1 : r2 = 0
   ·have HZ := Lib.hid z1
    have HY := Lib.hid y1
    have e1 : (r2 == 0) = true := by simpa using z1
    have e2 : (r2 != 0) = false := by simpa using z1
    clear z1 y1
    go_wp2_with (refine (C2.out _ hbw HY.out).mono ?_; rintro e w1 ⟨rfl, hb1⟩)
    go_roundw
    case rel => exact ⟨2, 2, by omega, rfl, by go_num, fun _ => HY.out, fun _ => HZ.out, fun h => absurd h (by omega), keep_below hbl hb1⟩
    case measure => simp [intOf]
   ·have HZ : Hid (r2 = r) := by have := HR.out; rw [if_pos y1, if_neg z1] at this; exact this
    have HY := Lib.hid y1
    have e1 : (r2 == 0) = false := by simpa using z1
    have e2 : (r2 != 0) = true := by simpa using z1
    clear z1 y1
    go_wp2_with (refine (C2.out _ hbw HY.out).mono ?_; rintro e w1 ⟨rfl, hb1⟩)
    go_ret
    exact ⟨by rw [HZ.out]; rfl, keep_below hbw hb1⟩
  ·obtain rfl : q = 2 := hq
   have y1 := H1.out (by omega)
   have y2 := H2.out (by omega)
   by_cases z1 : r3 = 0
   ·have HZ := Lib.hid z1
    have HY := Lib.hid y1
    have HY2 := Lib.hid y2
    have e1 : (r3 == 0) = true := by simpa using z1
    have e2 : (r3 != 0) = false := by simpa using z1
    clear z1 y1 y2
    go_wp2_with (refine (C3.out _ hbw HY.out HY2.out).mono ?_; rintro e w1 ⟨rfl, hb1⟩)
    go_roundw
    case rel => exact ⟨3, 3, by omega, rfl, by go_num, fun _ => HY.out, fun _ => HY2.out, fun _ => HZ.out, keep_below hbl hb1⟩
    case measure => simp [intOf]
   ·have HZ : Hid (r3 = r) := by have := HR.out; rw [if_pos y1, if_pos y2] at this; exact this
    have HY := Lib.hid y1
    have HY2 := Lib.hid y2
    have e1 : (r3 == 0) = false := by simpa using z1
    have e2 : (r3 != 0) = true := by simpa using z1
    clear z1 y1 y2
    go_wp2_with (refine (C3.out _ hbw HY.out HY2.out).mono ?_; rintro e w1 ⟨rfl, hb1⟩)
    go_ret
    exact ⟨by rw [HZ.out]; rfl, keep_below hbw hb1⟩
  ·obtain rfl : q = 3 := hq
   have HZ : Hid (r = 0) := by have := HR.out; rw [if_pos (H1.out (by omega)), if_pos (H2.out (by omega)), H3.out (by omega)] at this; exact this.symm
   go_wp2
   go_ret
   exact ⟨by rw [HZ.out]; rfl, hbw⟩
theorem ImV.Is.task {w : World} {x : ImV} {m : ImP} (h : x.Is w m) {k : Nat} (hk : k < x.tasks.n) :
  ∃ b off t T, x.tasks.a = some ⟨b, off, none⟩ ∧ b < w.heap.size ∧ m.tasks[k]? = some T ∧ TaV.Is w t T ∧ ∀ j v, t.cells[j]? = some v → w.cell? ⟨b, off + k * 7 + j, none⟩ = some v := by
 obtain ⟨-, -, -, -, -, -, ⟨hl, hr⟩, -⟩ := h
 obtain ⟨b, off, e, hlt, hc⟩ := hr (by omega)
 obtain ⟨t, T, h1, h2, h3⟩ := hc k hk
 exact ⟨b, off, t, T, e, hlt, h1, h2, h3⟩
theorem task_any (x : ImV) (m : ImP) (i : Int) (w : World) (h : x.Is w m) (hN : Nms w) (r : Int) (hq : taskE m i = r) :
  Calls Tryz.prog 49 #[x.v, .int .i64 i] w fun e w' => e = .returned (.int .i64 r) ∧ Below w.heap.size w w' := by
 have HI := Lib.hid h
 obtain ⟨z, hz⟩ : ∃ z, imE m = z := ⟨_, rfl⟩
 have CR := Lib.hid (fun W (hb : Below w.heap.size w W) => imRight_any x m W (h.below hb) (hN.below hb) z hz)
 have hlen : x.tasks.n = m.tasks.length := h.2.2.2.2.2.2.1.1
 have hmx : x.tasks.n ≤ 140737488355328 := h.2.2.2.2.2.2.2
 have HQ : Hid ((if z = true then (if 0 ≤ i ∧ i < (x.tasks.n : Int) then wrE m (tkAt m i) else 14) else 12) = r) := by rw [hlen, ← hz]; exact hq
 have HW : Hid (∀ (k : Nat) (t : TaV) (T : TkP), m.tasks[k]? = some T → z = true → ∀ W, Below w.heap.size w W → TaV.Is W t T → Calls Tryz.prog 64 #[pv x t] W fun e w' => e = .returned (.int .i64 (wrE m T)) ∧ Below W.heap.size W w') := by
  intro k t T hT h1 W hb ht
  obtain ⟨hk, e⟩ := List.getElem?_eq_some_iff.1 hT
  exact wrong_any x m t T W (h.below hb) ht (hz.trans h1) (by rw [← e]; exact List.getElem_mem hk) (hN.below hb) _ rfl
 have HT : Hid (∀ k, k < x.tasks.n → ∃ b off t T, x.tasks.a = some ⟨b, off, none⟩ ∧ b < w.heap.size ∧ m.tasks[k]? = some T ∧ TaV.Is w t T ∧ ∀ j v, t.cells[j]? = some v → w.cell? ⟨b, off + k * 7 + j, none⟩ = some v) := fun k hk => h.task hk
 clear hq hN h hlen hz
 obtain ⟨sw, la, cm, inp, ⟨sa, sn, sc⟩, ⟨ba, bn, bc⟩, ⟨ta, tn, tc⟩⟩ := x
 simp only [ImV.v, pv, Sl.v] at CR HW HQ hmx HT ⊢
 have C0 := Lib.hid (cells_new w #[.int .i64 sw, .int .i64 la, .int .i64 cm, .int .i64 inp, .slice sa sn sc, .slice ba bn bc, .slice ta tn tc] 26)
 have B0 := Lib.hid (below_alloc w (.cells #[.int .i64 sw, .int .i64 la, .int .i64 cm, .int .i64 inp, .slice sa sn sc, .slice ba bn bc, .slice ta tn tc] 26))
 cases z
 ·have HR : Hid (12 = r) := HQ.out
  clear HQ HW HI
  go_enter Tryz.func49, Tryz.ntmps49
  go_wp2_with (refine (CR.out _ B0.out).mono ?_; rintro e w1 ⟨rfl, hb1⟩)
  go_ret
  exact ⟨by rw [← HR.out]; rfl, keep_below B0.out hb1⟩
 ·by_cases hi0 : i < 0
  ·have HR : Hid (14 = r) := by have := HQ.out; rw [if_pos rfl, if_neg (by omega)] at this; exact this
   have e1 : decide (i < 0) = true := decide_eq_true hi0
   clear HQ HW HI hi0
   go_enter Tryz.func49, Tryz.ntmps49
   go_wp2_with (refine (CR.out _ B0.out).mono ?_; rintro e w1 ⟨rfl, hb1⟩)
   go_ret
   exact ⟨by rw [← HR.out]; rfl, keep_below B0.out hb1⟩
  ·have e1 : decide (i < 0) = false := decide_eq_false hi0
   by_cases hin : i < (tn : Int)
   ·obtain ⟨k, rfl⟩ : ∃ k : Nat, i = (k : Int) := ⟨i.toNat, by omega⟩
    have e2 : decide ((tn : Int) ≤ (k : Int)) = false := decide_eq_false (by omega)
    obtain ⟨b, off, ⟨pr, pe, de, ji, ⟨xa, xn, xc⟩, ⟨oa, on, oc⟩, ⟨ca, cn, cc⟩⟩, T, rfl, hbl, hT, ht, hc⟩ := HT.out k (by omega)
    have HR : Hid (wrE m T = r) := by
     have := HQ.out
     rw [if_pos rfl, if_pos ⟨by omega, hin⟩] at this
     have e : tkAt m (k : Int) = T := by unfold tkAt; rw [Int.toNat_natCast, List.getD_eq_getElem?_getD, hT]; rfl
     rw [e] at this; exact this
    have CW := Lib.hid (fun W (hb : Below w.heap.size w W) => HW.out k ⟨pr, pe, de, ji, ⟨xa, xn, xc⟩, ⟨oa, on, oc⟩, ⟨ca, cn, cc⟩⟩ T hT (by first | rfl | trivial) W hb (ht.below hb))
    have HC := Lib.hid hc
    have i1 : (0 : Int) ≤ (k : Int) := by omega
    have i2 : (k : Int) < (tn : Int) := hin
    generalize wrE m T = y at HR CW
    clear HQ HW HI HT hT ht hc hi0 hin
    go_enter Tryz.func49, Tryz.ntmps49
    go_wp2_with (refine (CR.out _ B0.out).mono ?_; rintro e w1 ⟨rfl, hb1⟩; have bb := keep_below B0.out hb1; have c0 := keep_cell hb1 (C0.out 0 _ rfl); have c1 := keep_cell hb1 (C0.out 1 _ rfl); have c2 := keep_cell hb1 (C0.out 2 _ rfl); have c3 := keep_cell hb1 (C0.out 3 _ rfl); have c4 := keep_cell hb1 (C0.out 4 _ rfl); have c5 := keep_cell hb1 (C0.out 5 _ rfl); have c6 := keep_cell hb1 (C0.out 6 _ rfl))
    have d0 : w1.cell? ⟨b, off + k * 7, none⟩ = some (.int .i64 pr) := keep_cell bb (HC.out 0 _ rfl)
    have d1 : w1.cell? ⟨b, off + k * 7 + 1, none⟩ = some (.int .i64 pe) := keep_cell bb (HC.out 1 _ rfl)
    have d2 : w1.cell? ⟨b, off + k * 7 + 2, none⟩ = some (.int .i64 de) := keep_cell bb (HC.out 2 _ rfl)
    have d3 : w1.cell? ⟨b, off + k * 7 + 3, none⟩ = some (.int .i64 ji) := keep_cell bb (HC.out 3 _ rfl)
    have d4 : w1.cell? ⟨b, off + k * 7 + 4, none⟩ = some (.slice xa xn xc) := keep_cell bb (HC.out 4 _ rfl)
    have d5 : w1.cell? ⟨b, off + k * 7 + 5, none⟩ = some (.slice oa on oc) := keep_cell bb (HC.out 5 _ rfl)
    have d6 : w1.cell? ⟨b, off + k * 7 + 6, none⟩ = some (.slice ca cn cc) := keep_cell bb (HC.out 6 _ rfl)
    go_still_tail 7, (by kernel_rfl)
    change wpList _ _ _ _ _ w1.drew
    have bd := bb.drew
    generalize w1.drew = W2 at bd ⊢
    go_wp2_with (refine (CW.out _ bd).mono ?_; rintro e w3 ⟨rfl, hb3⟩)
    go_ret
    exact ⟨by rw [← HR.out]; rfl, keep_below bd hb3⟩
   ·have HR : Hid (14 = r) := by have := HQ.out; rw [if_pos rfl, if_neg (by omega)] at this; exact this
    have e2 : decide ((tn : Int) ≤ i) = true := decide_eq_true (by omega)
    clear HQ HW HI hi0 hin
    go_enter Tryz.func49, Tryz.ntmps49
    go_wp2_with (refine (CR.out _ B0.out).mono ?_; rintro e w1 ⟨rfl, hb1⟩; have c6 := keep_cell hb1 (C0.out 6 _ rfl))
    go_ret
    exact ⟨by rw [← HR.out]; rfl, keep_below B0.out hb1⟩
theorem allG_snoc {m : ImP} : ∀ {l : List TkP} {k : Int}, (∀ t ∈ l, wrE m t = 0) → ∀ {q : List TkP}, allG m k (l ++ q) = allG m (k + l.length) q
 | [], k, _, q => by simp
 | t :: l, k, h, q => by
  rw [List.cons_append, allG, if_pos (h t (by simp)), allG_snoc (fun t ht => h t (by simp [ht]))]
  simp only [List.length_cons]
  congr 1
  omega
theorem all_any (x : ImV) (m : ImP) (w : World) (h : x.Is w m) (hN : Nms w) (r : Int × Int) (hq : allE m = r) :
  Calls Tryz.prog 31 #[x.v] w fun e w' => e = .returned (.tuple #[.int .i64 r.1, .int .i64 r.2]) ∧ Below w.heap.size w w' := by
 obtain ⟨z, hz⟩ : ∃ z, imE m = z := ⟨_, rfl⟩
 have CR := Lib.hid (fun W (hb : Below w.heap.size w W) => imRight_any x m W (h.below hb) (hN.below hb) z hz)
 have hlen : x.tasks.n = m.tasks.length := h.2.2.2.2.2.2.1.1
 have hmx : x.tasks.n ≤ 140737488355328 := h.2.2.2.2.2.2.2
 have HL := Lib.hid hlen
 have HQ : Hid ((if z = true then allG m 0 m.tasks else (-1, 12)) = r) := by rw [← hz]; exact hq
 have HW : Hid (∀ (k : Nat) (t : TaV) (T : TkP), m.tasks[k]? = some T → z = true → ∀ W, Below w.heap.size w W → TaV.Is W t T → Calls Tryz.prog 64 #[pv x t] W fun e w' => e = .returned (.int .i64 (wrE m T)) ∧ Below W.heap.size W w') := by
  intro k t T hT h1 W hb ht
  obtain ⟨hk, e⟩ := List.getElem?_eq_some_iff.1 hT
  exact wrong_any x m t T W (h.below hb) ht (hz.trans h1) (by rw [← e]; exact List.getElem_mem hk) (hN.below hb) _ rfl
 have HT : Hid (∀ k, k < x.tasks.n → ∃ b off t T, x.tasks.a = some ⟨b, off, none⟩ ∧ b < w.heap.size ∧ m.tasks[k]? = some T ∧ TaV.Is w t T ∧ ∀ j v, t.cells[j]? = some v → w.cell? ⟨b, off + k * 7 + j, none⟩ = some v) := fun k hk => h.task hk
 clear hq hN h hlen hz
 obtain ⟨sw, la, cm, inp, ⟨sa, sn, sc⟩, ⟨ba, bn, bc⟩, ⟨ta, tn, tc⟩⟩ := x
 simp only [ImV.v, pv, Sl.v] at CR HW HL hmx HT ⊢
 have C0 := Lib.hid (cells_new w #[.int .i64 sw, .int .i64 la, .int .i64 cm, .int .i64 inp, .slice sa sn sc, .slice ba bn bc, .slice ta tn tc] 26)
 have B0 := Lib.hid (below_alloc w (.cells #[.int .i64 sw, .int .i64 la, .int .i64 cm, .int .i64 inp, .slice sa sn sc, .slice ba bn bc, .slice ta tn tc] 26))
 cases z
 ·have HR : Hid (((-1 : Int), (12 : Int)) = r) := HQ.out
  clear HQ HW
  go_enter Tryz.func31, Tryz.ntmps31
  go_wp2_with (refine (CR.out _ B0.out).mono ?_; rintro e w1 ⟨rfl, hb1⟩)
  go_ret2
  exact ⟨by rw [← HR.out]; rfl, keep_below B0.out hb1⟩
 ·have HS : Hid (allG m 0 m.tasks = r) := HQ.out
  clear HQ
  go_enter Tryz.func31, Tryz.ntmps31
  go_wp2_with (refine (CR.out _ B0.out).mono ?_; rintro e w1 ⟨rfl, hb1⟩; have bb := keep_below B0.out hb1; have c6 := keep_cell hb1 (C0.out 6 _ rfl))
  have C1 : Hid (∀ j v, [.int .i64 sw, .int .i64 la, .int .i64 cm, .int .i64 inp, .slice sa sn sc, .slice ba bn bc, .slice ta tn tc][j]? = some v → w1.cell? ⟨w.heap.size, j, none⟩ = some v) := fun j v hj => keep_cell hb1 (C0.out j v hj)
  clear c6 C0 CR
  go_loopw [13] (fun i wr => ∃ k : Nat, k ≤ tn ∧ i = .int .i64 k ∧ Hid (∀ t ∈ m.tasks.take k, wrE m t = 0) ∧ Below w1.heap.size w1 wr) (fun i _ => tn - (intOf i).toNat)
  case atStart => exact ⟨0, by omega, rfl, fun t ht => by simp at ht, Below.refl _ _⟩
  case round =>
   obtain ⟨k, hk, rfl, HA, hbl⟩ := hrel
   have hbw := keep_below bb hbl
   by_cases hlt : k < tn
   ·obtain ⟨b, off, ⟨pr, pe, de, ji, ⟨xa, xn, xc⟩, ⟨oa, on, oc⟩, ⟨ca, cn, cc⟩⟩, T, rfl, hB, hT, ht, hc⟩ := HT.out k hlt
    have i1 : (0 : Int) ≤ (k : Int) := by omega
    have i2 : (k : Int) < (tn : Int) := by omega
    have CW := Lib.hid (fun W (hb : Below w.heap.size w W) => HW.out k ⟨pr, pe, de, ji, ⟨xa, xn, xc⟩, ⟨oa, on, oc⟩, ⟨ca, cn, cc⟩⟩ T hT (by first | rfl | trivial) W hb (ht.below hb))
    have d0 : wr.cell? ⟨b, off + k * 7, none⟩ = some (.int .i64 pr) := keep_cell hbw (hc 0 _ rfl)
    have d1 : wr.cell? ⟨b, off + k * 7 + 1, none⟩ = some (.int .i64 pe) := keep_cell hbw (hc 1 _ rfl)
    have d2 : wr.cell? ⟨b, off + k * 7 + 2, none⟩ = some (.int .i64 de) := keep_cell hbw (hc 2 _ rfl)
    have d3 : wr.cell? ⟨b, off + k * 7 + 3, none⟩ = some (.int .i64 ji) := keep_cell hbw (hc 3 _ rfl)
    have d4 : wr.cell? ⟨b, off + k * 7 + 4, none⟩ = some (.slice xa xn xc) := keep_cell hbw (hc 4 _ rfl)
    have d5 : wr.cell? ⟨b, off + k * 7 + 5, none⟩ = some (.slice oa on oc) := keep_cell hbw (hc 5 _ rfl)
    have d6 : wr.cell? ⟨b, off + k * 7 + 6, none⟩ = some (.slice ca cn cc) := keep_cell hbw (hc 6 _ rfl)
    have ba' := below_alloc wr (.cells #[.int .i64 pr, .int .i64 pe, .int .i64 de, .int .i64 ji, .slice xa xn xc, .slice oa on oc, .slice ca cn cc] 59)
    have f0 := keep_cell ba' (keep_cell hbl (C1.out 0 _ rfl))
    have f1 := keep_cell ba' (keep_cell hbl (C1.out 1 _ rfl))
    have f2 := keep_cell ba' (keep_cell hbl (C1.out 2 _ rfl))
    have f3 := keep_cell ba' (keep_cell hbl (C1.out 3 _ rfl))
    have f4 := keep_cell ba' (keep_cell hbl (C1.out 4 _ rfl))
    have f5 := keep_cell ba' (keep_cell hbl (C1.out 5 _ rfl))
    have f6 := keep_cell ba' (keep_cell hbl (C1.out 6 _ rfl))
    have HB1 := Lib.hid (keep_below hbw ba')
    have HB2 := Lib.hid (keep_below hbl ba')
    have HX : Hid (∀ t ∈ m.tasks.take (k + 1), t ∈ m.tasks.take k ∨ t = T) := by
     intro t h; rw [take_cat hT] at h; rcases List.mem_append.1 h with h | h
     ·exact Or.inl h
     ·exact Or.inr (by simpa using h)
    have HG : Hid (wrE m T ≠ 0 → ((k : Int), wrE m T) = r) := by
     intro hne
     have hsplit : m.tasks = m.tasks.take k ++ T :: m.tasks.drop (k + 1) := by rw [← take_cons_drop hT, List.take_append_drop]
     have hl : (m.tasks.take k).length = k := by rw [List.length_take]; have := HL.out; omega
     have := HS.out
     rw [hsplit, allG_snoc HA.out, allG, if_neg hne, hl] at this
     rw [← this]; simp
    obtain ⟨y, hy⟩ : ∃ y, wrE m T = y := ⟨_, rfl⟩
    rw [hy] at CW HG
    have HY := Lib.hid hy
    clear hT ht hc hy ba'
    by_cases z1 : y = 0
    ·have HA2 : Hid (∀ t ∈ m.tasks.take (k + 1), wrE m t = 0) := by
      intro t h; rcases HX.out t h with h | h
      ·exact HA.out t h
      ·rw [h, HY.out, z1]
     have e1 : (y == 0) = true := by simpa using z1
     have e2 : (y != 0) = false := by simpa using z1
     clear z1 HX HG HA HY
     go_wp2_with (refine (CW.out _ HB1.out).mono ?_; rintro e w3 ⟨rfl, hb3⟩)
     go_roundw
     case rel => exact ⟨k + 1, by omega, by go_num, HA2, keep_below HB2.out hb3⟩
     case measure => simp [intOf]; omega
    ·have HR := Lib.hid (HG.out z1)
     have e1 : (y == 0) = false := by simpa using z1
     have e2 : (y != 0) = true := by simpa using z1
     clear z1 HX HG HA HY
     go_wp2_with (refine (CW.out _ HB1.out).mono ?_; rintro e w3 ⟨rfl, hb3⟩)
     go_ret2
     exact ⟨by rw [← HR.out]; rfl, keep_below HB1.out hb3⟩
   ·obtain rfl : k = tn := by omega
    have HR : Hid (((-1 : Int), (0 : Int)) = r) := by
     have h1 := HA.out
     rw [List.take_of_length_le (by rw [← HL.out]; exact Nat.le_refl _)] at h1
     have h2 := allG_snoc (m := m) (l := m.tasks) (k := 0) h1 (q := [])
     rw [List.append_nil] at h2
     rw [← HS.out, h2]; rfl
    go_wp2
    go_ret2
    exact ⟨by rw [← HR.out]; rfl, hbw⟩
theorem slots_any (x : ImV) (m : ImP) (i : Int) (w : World) (h : x.Is w m) (hN : Nms w) (r e0 : Int) (hq : taskE m i = e0) (hs : slW m i = r) :
  Calls Tryz.prog 22 #[x.v, .int .i64 i] w fun e w' => e = .returned (.tuple #[.int .i64 r, .int .i64 e0]) ∧ Below w.heap.size w w' := by
 have CT := Lib.hid (fun W (hb : Below w.heap.size w W) => task_any x m i W (h.below hb) (hN.below hb) e0 hq)
 have hmx : x.tasks.n ≤ 140737488355328 := h.2.2.2.2.2.2.2
 by_cases z0 : e0 = 0
 ·subst z0
  obtain ⟨h1, h2, h3, h4⟩ := taskE_zero hq
  obtain ⟨n1, n2, n3, n4, n5⟩ := numE_parts (imE_parts h1).1
  have hc := (wrE_zero h4).1
  have hu := (cE_zero hc).2
  have hlen : x.tasks.n = m.tasks.length := h.2.2.2.2.2.2.1.1
  obtain ⟨k, rfl⟩ : ∃ k : Nat, i = (k : Int) := ⟨i.toNat, by omega⟩
  obtain ⟨b, off, t, T, ha, hbl, hT, ht, hcs⟩ := h.task (k := k) (by omega)
  have eT : tkAt m (k : Int) = T := by unfold tkAt; rw [Int.toNat_natCast, List.getD_eq_getElem?_getD, hT]; rfl
  rw [eT] at hc hu
  obtain ⟨y, hy⟩ : ∃ y, y = cW true T.co := ⟨_, rfl⟩
  have hyb : 0 ≤ y ∧ y ≤ 1048576 := by rw [hy]; unfold cW; rw [if_pos hc]; omega
  have hr : r = m.sw + m.la + y + m.cm + m.sw := by rw [← hs, hy, ← eT]; unfold slW; rw [if_pos hq]
  obtain ⟨q1, q2, q3, -⟩ := h
  have CW := Lib.hid (fun W (hb : Below w.heap.size w W) => (by have := worst_any t.co.a t.co.n t.co.c T.co W (ht.2.2.2.2.2.2.1.below hb) (hN.below hb); rw [hc, ← hy] at this; exact this : Calls Tryz.prog 50 #[t.co.v] W fun e w' => e = .returned (.tuple #[.int .i64 y, .int .i64 0]) ∧ Below W.heap.size W w'))
  obtain ⟨sw, la, cm, inp, ⟨sa, sn, sc⟩, ⟨ba, bn, bc⟩, ⟨ta, tn, tc⟩⟩ := x
  obtain ⟨pr, pe, de, ji, ⟨xa, xn, xc⟩, ⟨oa, on, oc⟩, ⟨ca, cn, cc⟩⟩ := t
  simp only at ha q1 q2 q3 hlen hmx
  have C0 := Lib.hid (cells_new w #[.int .i64 sw, .int .i64 la, .int .i64 cm, .int .i64 inp, .slice sa sn sc, .slice ba bn bc, .slice ta tn tc] 26)
  have B0 := Lib.hid (below_alloc w (.cells #[.int .i64 sw, .int .i64 la, .int .i64 cm, .int .i64 inp, .slice sa sn sc, .slice ba bn bc, .slice ta tn tc] 26))
  subst ha
  rw [← q1] at hr n1
  rw [← q2] at hr n2
  rw [← q3] at hr n3
  simp only [ImV.v, Sl.v] at CT CW ⊢
  have s1 : IntKind.i64.wrap (sw + la) = sw + la := IntWalk.i64_in _ (by omega)
  have s2 : IntKind.i64.wrap (sw + la + y) = sw + la + y := IntWalk.i64_in _ (by omega)
  have s3 : IntKind.i64.wrap (sw + la + y + cm) = sw + la + y + cm := IntWalk.i64_in _ (by omega)
  have s4 : IntKind.i64.wrap (sw + la + y + cm + sw) = sw + la + y + cm + sw := IntWalk.i64_in _ (by omega)
  have i1 : (0 : Int) ≤ (k : Int) := h2
  have i2 : (k : Int) < (tn : Int) := by omega
  have d6 : w.cell? ⟨b, off + k * 7 + 6, none⟩ = some (.slice ca cn cc) := hcs 6 _ rfl
  have D6 := Lib.hid d6
  have HR := Lib.hid hr
  clear d6 hcs ht hT eT hy hr hc hu h4 hs hq h1 hN hyb n1 n2 n3 n4 n5 hlen q1 q2 q3 h3
  go_enter Tryz.func22, Tryz.ntmps22
  go_wp2_with (first
   | (go_at_call 50; refine (CW.out _ bb).mono ?_; rintro e w2 ⟨rfl, hb2⟩; have f0 := keep_cell hb2 c0; have f1 := keep_cell hb2 c1; have f2 := keep_cell hb2 c2)
   | (go_at_call 49; refine (CT.out _ B0.out).mono ?_; rintro e w1 ⟨rfl, hb1⟩; have bb := keep_below B0.out hb1; have c0 := keep_cell hb1 (C0.out 0 _ rfl); have c1 := keep_cell hb1 (C0.out 1 _ rfl); have c2 := keep_cell hb1 (C0.out 2 _ rfl); have c6 := keep_cell hb1 (C0.out 6 _ rfl); have d6 := keep_cell bb D6.out))
  go_ret2
  exact ⟨by rw [HR.out]; rfl, keep_below bb hb2⟩
 ·have hz := locked_zero (m := m) (i := i) (by rw [hq]; exact z0)
  have HR : Hid (r = 0) := by show r = 0; rw [← hs]; exact hz.2
  have e1 : (e0 == 0) = false := by simpa using z0
  have e2 : (e0 != 0) = true := by simpa using z0
  clear hz hs hq h hN z0
  obtain ⟨sw, la, cm, inp, ⟨sa, sn, sc⟩, ⟨ba, bn, bc⟩, ⟨ta, tn, tc⟩⟩ := x
  simp only [ImV.v, Sl.v] at CT ⊢
  go_enter Tryz.func22, Tryz.ntmps22
  go_wp2_with (refine (CT.out _ (below_alloc _ _)).mono ?_; rintro e w1 ⟨rfl, hb1⟩)
  go_ret2
  exact ⟨by rw [HR.out]; rfl, keep_below (below_alloc _ _) hb1⟩
def GotLk (l : List Int) (x : Int) (w : World) (e : Ending) (w' : World) : Prop :=
 ∃ a n c, e = .returned (.tuple #[.slice a n c, .int .i64 x]) ∧ Row w' a n l ∧ Below w.heap.size w w' ∧ ∀ p, a = some p → w.heap.size ≤ p.block ∧ p.block < w'.heap.size
theorem locked_any (x : ImV) (m : ImP) (i : Int) (w : World) (h : x.Is w m) (hN : Nms w) (e0 : Int) (l : List Int) (hq : taskE m i = e0) (hs : lkA m i = l) :
  Calls Tryz.prog 65 #[x.v, .int .i64 i] w (GotLk l e0 w) := by
 unfold GotLk
 have CT := Lib.hid (fun W (hb : Below w.heap.size w W) => task_any x m i W (h.below hb) (hN.below hb) e0 hq)
 have hmx : x.tasks.n ≤ 140737488355328 := h.2.2.2.2.2.2.2
 by_cases z0 : e0 = 0
 ·subst z0
  obtain ⟨h1, h2, h3, h4⟩ := taskE_zero hq
  have hc := (wrE_zero h4).1
  have hlen : x.tasks.n = m.tasks.length := h.2.2.2.2.2.2.1.1
  obtain ⟨k, rfl⟩ : ∃ k : Nat, i = (k : Int) := ⟨i.toNat, by omega⟩
  obtain ⟨b, off, t, T, ha, hbl, hT, ht, hcs⟩ := h.task (k := k) (by omega)
  have eT : tkAt m (k : Int) = T := by unfold tkAt; rw [Int.toNat_natCast, List.getD_eq_getElem?_getD, hT]; rfl
  rw [eT] at hc
  obtain ⟨y, hy⟩ : ∃ y, y = sA T.co := ⟨_, rfl⟩
  have hyb : y.length ≤ 200 := by
   rw [hy]; unfold sA; rw [if_pos hc]
   have h5 := sec_len T.co T.co.length
   have := (wE_len (lE_zero (rE_zero (cE_zero hc).1).1).1).2
   omega
  have hr : l = y.map (·.2) := by rw [← hs, hy, ← eT]; unfold lkA; rw [if_pos hq]
  have CS := Lib.hid (fun W (hb : Below w.heap.size w W) => (by have := sections_any t.co.a t.co.n t.co.c T.co W (ht.2.2.2.2.2.2.1.below hb) (hN.below hb); rw [hc, ← hy] at this; exact this : Calls Tryz.prog 110 #[t.co.v] W (GotP y 0 W)))
  unfold GotP at CS
  obtain ⟨sw, la, cm, inp, ⟨sa, sn, sc⟩, ⟨ba, bn, bc⟩, ⟨ta, tn, tc⟩⟩ := x
  obtain ⟨pr, pe, de, ji, ⟨xa, xn, xc⟩, ⟨oa, on, oc⟩, ⟨ca, cn, cc⟩⟩ := t
  simp only at ha hlen hmx
  have C0 := Lib.hid (cells_new w #[.int .i64 sw, .int .i64 la, .int .i64 cm, .int .i64 inp, .slice sa sn sc, .slice ba bn bc, .slice ta tn tc] 26)
  have B0 := Lib.hid (below_alloc w (.cells #[.int .i64 sw, .int .i64 la, .int .i64 cm, .int .i64 inp, .slice sa sn sc, .slice ba bn bc, .slice ta tn tc] 26))
  subst ha
  simp only [ImV.v, Sl.v] at CT CS ⊢
  have i1 : (0 : Int) ≤ (k : Int) := h2
  have i2 : (k : Int) < (tn : Int) := by omega
  have d6 : w.cell? ⟨b, off + k * 7 + 6, none⟩ = some (.slice ca cn cc) := hcs 6 _ rfl
  have D6 := Lib.hid d6
  have HR := Lib.hid hr
  obtain ⟨n2, hn2⟩ : ∃ n2, n2 = y.length := ⟨_, rfl⟩
  rw [← hn2] at hyb
  have HN2 := Lib.hid hn2
  have hmk := run_make_row' (P := Tryz.prog) 22 3 (.int .i64 0) 8 Tryz.underlying22 int_info rfl .i64 .i64 n2 (by omega) (by omega)
  clear d6 hcs ht hT eT hy hr hc h4 hs hq h1 hN hlen h3 hn2
  go_enter Tryz.func65, Tryz.ntmps65
  go_wp2_with (first
   | (go_at_call 110; refine (CS.out _ bb).mono ?_; rintro e w2 ⟨a2, n3, c2, rfl, hr2, hb2, hn2⟩; have hn3 : n3 = n2 := hr2.1.trans HN2.out.symm; subst hn3)
   | (go_at_call 49; refine (CT.out _ B0.out).mono ?_; rintro e w1 ⟨rfl, hb1⟩; have bb := keep_below B0.out hb1; have c6 := keep_cell hb1 (C0.out 6 _ rfl); have d6 := keep_cell bb D6.out))
  have bb2 := keep_below bb hb2
  have HB2 := Lib.hid bb2
  have hr3 := hr2.below (below_alloc w2 (.cells (madeCells #[.int .i64 0] n3) 3))
  have rI := World.rowIs_made w2 (.int .i64 0) n3 3
  have bb3 := keep_below bb2 (below_alloc w2 (.cells (madeCells #[.int .i64 0] n3) 3))
  have hsz : (w2.alloc (.cells (madeCells #[.int .i64 0] n3) 3)).heap.size = w2.heap.size + 1 := by simp
  obtain ⟨g, hg⟩ : ∃ g, g = w2.heap.size := ⟨_, rfl⟩
  have hgw : w.heap.size ≤ g := by rw [hg]; exact bb2.size
  have hr2n : ∀ p, a2 = some p → p.block ≠ g := fun p hp => by have := hn2 p hp; omega
  rw [← hg] at rI hsz ⊢
  clear CT CS C0 c6 d6 hmk hr2 hn2 hb2 bb hb1 bb2 hg
  generalize w2.alloc (.cells (madeCells #[.int .i64 0] n3) 3) = W3 at hr3 rI bb3 hsz ⊢
  have RP := Lib.hid hr3
  have RI0 : W3.rowIs g 3 n3 (fun j => .int .i64 (if j < 0 then (l.getD j 0) else 0)) := rI.congr (fun j _ => by rw [if_neg (by omega)])
  clear rI hr3
  go_loopw [36] (fun i wr => ∃ q : Nat, q ≤ n3 ∧ i = .int .i64 q ∧ wr.rowIs g 3 n3 (fun j => .int .i64 (if j < q then (l.getD j 0) else 0)) ∧ Hid (RowP wr a2 n3 y) ∧ Below w.heap.size w wr ∧ g < wr.heap.size) (fun i _ => n3 - (intOf i).toNat)
  case atStart => exact ⟨0, by omega, rfl, RI0, RP, bb3, by omega⟩
  case round =>
   obtain ⟨q, hq, rfl, rI, RP, hbl, hgl⟩ := hrel
   by_cases hlt : q < n3
   ·obtain ⟨b7, o7, p1, p2, rfl, hb7, hx7, y1, y2⟩ := RP.out.at_ hlt
    have hne : b7 ≠ g := hr2n _ rfl
    have i3 : (0 : Int) ≤ (q : Int) := by omega
    have i4 : (q : Int) < (n3 : Int) := by omega
    have ec : wr.cell? ⟨g, q, none⟩ = some (.int .i64 0) := by have := rI.cell (i := q) hlt; rw [if_neg (by omega)] at this; exact this
    have ef := rI.frozen q
    have hp2 : l.getD q 0 = p2 := by rw [HR.out, List.getD_eq_getElem?_getD, List.getElem?_map, hx7]; rfl
    have rI2 : (wr.setCell ⟨g, q, none⟩ (.int .i64 p2)).rowIs g 3 n3 (fun j => .int .i64 (if j < q + 1 then (l.getD j 0) else 0)) := (rI.set q (.int .i64 p2)).congr (fun j hj => by
     by_cases e : j = q
     ·rw [if_pos e, if_pos (by omega), e, hp2]
     ·rw [if_neg e]
      by_cases e2 : j < q
      ·rw [if_pos e2, if_pos (by omega)]
      ·rw [if_neg e2, if_neg (by omega)])
    have rI3 := rI2.alloc (.cells #[.int .i64 p1, .int .i64 p2] 174)
    have rP2 : RowP (wr.setCell ⟨g, q, none⟩ (.int .i64 p2)) (some ⟨b7, o7, none⟩) n3 y := by
     refine ⟨RP.out.1, fun hn => ?_⟩
     obtain ⟨b', off', e', hlt', hc'⟩ := RP.out.2 hn
     cases e'
     have hbk : (wr.setCell ⟨g, q, none⟩ (.int .i64 p2)).heap[b7]? = wr.heap[b7]? := Go.Deep.blk_setCell_other _ _ _ _ hne
     exact ⟨b7, o7, rfl, by simpa [World.setCell] using hlt', fun i hi => ⟨(World.cell?_of_block hbk).trans (hc' i hi).1, (World.cell?_of_block hbk).trans (hc' i hi).2⟩⟩
    have RP3 := Lib.hid (rP2.below (below_alloc (wr.setCell ⟨g, q, none⟩ (.int .i64 p2)) (.cells #[.int .i64 p1, .int .i64 p2] 174)))
    have hb3 := keep_below (hbl.setCell (p := ⟨g, q, none⟩) hgw (.int .i64 p2)) (below_alloc _ (.cells #[.int .i64 p1, .int .i64 p2] 174))
    have hgl2 : g < ((wr.setCell ⟨g, q, none⟩ (.int .i64 p2)).alloc (.cells #[.int .i64 p1, .int .i64 p2] 174)).heap.size := by simp [World.setCell]; omega
    clear hx7 rI rI2 rP2 hp2
    go_wp2
    go_roundw
    case rel => exact ⟨q + 1, by omega, by go_num, rI3, RP3, hb3, hgl2⟩
    case measure => simp [intOf]; omega
   ·obtain rfl : q = n3 := by omega
    have hl : q = l.length := by rw [HR.out, List.length_map]; exact HN2.out
    have HRW : Hid (Row wr (some ⟨g, 0, none⟩) q l) := ⟨hl, fun _ => ⟨g, 0, rfl, hgl, fun j hj => by
     have := rI.cell hj
     rw [if_pos hj] at this
     rw [Nat.zero_add]; exact this⟩⟩
    clear rI
    go_wp2
    go_ret2
    exact ⟨_, _, _, rfl, HRW.out, hbl, fun p hp => by cases hp; exact ⟨hgw, hgl⟩⟩
 ·have hz := locked_zero (m := m) (i := i) (by rw [hq]; exact z0)
  have HR : Hid (l = []) := by show l = []; rw [← hs]; exact hz.1
  have e1 : (e0 == 0) = false := by simpa using z0
  have e2 : (e0 != 0) = true := by simpa using z0
  clear hz hs hq h hN z0
  obtain ⟨sw, la, cm, inp, ⟨sa, sn, sc⟩, ⟨ba, bn, bc⟩, ⟨ta, tn, tc⟩⟩ := x
  simp only [ImV.v, Sl.v] at CT ⊢
  go_enter Tryz.func65, Tryz.ntmps65
  go_wp2_with (refine (CT.out _ (below_alloc _ _)).mono ?_; rintro e w1 ⟨rfl, hb1⟩)
  go_ret2
  exact ⟨none, 0, 0, rfl, by rw [HR.out]; exact Row.nil _ _, keep_below (below_alloc _ _) hb1, fun p hp => by cases hp⟩
end Go.Proofs.YtngehojibcmieaaGreatDoor
end
