/- What is proved here: contracts of wrongPlaces and wrong of package check. Conditions: the image and the task lie in memory; the table of names holds what its initialiser lays ('Nms'). -/
import Derived.Test.YthncbnalnfbpnaaGreatDoorCa
namespace Go.Proofs.YthncbnalnfbpnaaGreatDoor
open Go.ChangeShapes Go.WideShapes Go.RowKit

theorem any_step {L : List (Int × Int × Int)} {k : Nat} {x : Int × Int × Int} {f : Int × Int × Int → Bool} (h : L[k]? = some x) : (L.drop k).any f = (f x || (L.drop (k + 1)).any f) := by
  rw [take_cons_drop h, List.any_cons]
set_option maxHeartbeats 1000000 in
set_option maxRecDepth 100000 in
theorem indexB_any (a : Option Addr) (n c : Nat) (L : List (Int × Int × Int)) (f : Int × Int × Int → Bool) (V : Value) (w : World) (hr : RowI w a n L) (hn : n ≤ 1000000)
    (CE : Hid (∀ W (k : Nat) (o x y : Int), Below w.heap.size w W → L[k]? = some (o, x, y) → ∀ r, f (o, x, y) = r → Calls Tryz.prog 109 #[V, .agg #[.int .i64 o, .int .i64 x, .int .i64 y]] W fun e w' => e = .returned (.bool r) ∧ Below W.heap.size W w')) :
    Calls Tryz.prog 137 #[.slice a n c, .func (.func 109) #[V] #[]] w fun e w' => ∃ i : Int, e = .returned (.int .i64 i) ∧ decide (0 ≤ i) = L.any f ∧ Below w.heap.size w w' := by
  have HL := Lib.hid hr.1
  go_enter Tryz.func137, Tryz.ntmps137
  go_wp2
  go_loopw [8] (fun i wr => ∃ k : Nat, k ≤ n ∧ i = .int .i64 k ∧ Hid (L.any f = (L.drop k).any f) ∧ Below w.heap.size w wr) (fun i _ => n - (intOf i).toNat)
  case atStart => exact ⟨0, by omega, rfl, rfl, Below.refl _ _⟩
  case round =>
    obtain ⟨k, hk, rfl, HA, hbl⟩ := hrel
    by_cases hlt : k < n
    · obtain ⟨b1, o1, p1, p2, p3, rfl, hB1, hx, hc1, hc2, hc3⟩ := (hr.below hbl).at_ hlt
      have HX := Lib.hid (any_step (f := f) hx)
      have C1 := Lib.hid (fun W (hb : Below w.heap.size w W) r hq => CE.out W k p1 p2 p3 hb hx r hq)
      clear hx
      cases hv : f (p1, p2, p3)
      · have HQ : Hid (L.any f = (L.drop (k + 1)).any f) := by rw [HA.out, HX.out, hv]; rfl
        have C2 := Lib.hid (fun W hb => C1.out W hb _ hv)
        clear hv HA HX C1
        go_wp2_with (refine (C2.out _ (by first | exact hbl | exact hbl.alloc hbl.size _)).mono ?_; rintro e w2 ⟨rfl, hb2⟩)
        go_roundw
        case rel => exact ⟨k + 1, by omega, by go_num, HQ, by first | exact keep_below hbl hb2 | exact keep_below (hbl.alloc hbl.size _) hb2⟩
        case measure => simp [intOf]; omega
      · have HQ : Hid (L.any f = true) := by rw [HA.out, HX.out, hv]; rfl
        have C2 := Lib.hid (fun W hb => C1.out W hb _ hv)
        clear hv HA HX C1
        go_wp2_with (refine (C2.out _ (by first | exact hbl | exact hbl.alloc hbl.size _)).mono ?_; rintro e w2 ⟨rfl, hb2⟩)
        go_ret
        exact ⟨_, rfl, by rw [HQ.out]; simp, by first | exact keep_below hbl hb2 | exact keep_below (hbl.alloc hbl.size _) hb2⟩
    · obtain rfl : k = n := by omega
      have HR : Hid (L.any f = false) := by rw [HA.out, List.drop_of_length_le (by rw [HL.out]; exact Nat.le_refl _)]; rfl
      go_wp2
      go_ret
      exact ⟨_, rfl, by rw [HR.out]; rfl, hbl⟩
theorem containsB_any (a : Option Addr) (n c : Nat) (L : List (Int × Int × Int)) (f : Int × Int × Int → Bool) (V : Value) (w : World) (hr : RowI w a n L) (hn : n ≤ 1000000)
    (CE : Hid (∀ W (k : Nat) (o x y : Int), Below w.heap.size w W → L[k]? = some (o, x, y) → ∀ r, f (o, x, y) = r → Calls Tryz.prog 109 #[V, .agg #[.int .i64 o, .int .i64 x, .int .i64 y]] W fun e w' => e = .returned (.bool r) ∧ Below W.heap.size W w'))
    (r : Bool) (hq : L.any f = r) :
    Calls Tryz.prog 108 #[.slice a n c, .func (.func 109) #[V] #[]] w fun e w' => e = .returned (.bool r) ∧ Below w.heap.size w w' := by
  have C := Lib.hid (indexB_any a n c L f V w hr hn CE)
  have HQ := Lib.hid hq
  clear hr hn hq CE
  go_enter Tryz.func108, Tryz.ntmps108
  go_wp2_with (refine C.out.mono ?_; rintro e w2 ⟨i, rfl, hi0, hb2⟩; have hi := Lib.hid hi0; clear hi0)
  go_ret
  exact ⟨by rw [← HQ.out, ← hi.out]; rfl, hb2⟩
/-- Each Get and each Put of a row names a block that the image has. -/
def There (m : ImP) (co : List (Int × Int × Int)) : Prop := ∀ p, p < co.length → ((at_ co p).1 = 17 ∨ (at_ co p).1 = 18) → 0 ≤ (at_ co p).2.1 ∧ (at_ co p).2.1 < (m.blocks.length : Int)
set_option maxHeartbeats 1000000 in
set_option maxRecDepth 100000 in
theorem wrongPlaces_any (x : ImV) (m : ImP) (t : TaV) (T : TkP) (w : World) (h : x.Is w m) (ht : t.Is w T) (hth : There m T.co) (hn : T.co.length ≤ 1000000) (r : Int) (hq : wpE m T = r) :
    Calls Tryz.prog 51 #[pv x t] w fun e w' => e = .returned (.int .i64 r) ∧ Below w.heap.size w w' := by
  have CE : Hid (∀ W (k : Nat) (o a b : Int), Below w.heap.size w W → T.co[k]? = some (o, a, b) → ∀ r, bynE m T.ou (o, a, b) = r → Calls Tryz.prog 109 #[pv x t, .agg #[.int .i64 o, .int .i64 a, .int .i64 b]] W fun e w' => e = .returned (.bool r) ∧ Below W.heap.size W w') := by
    intro W k o a b hb hk r hr
    refine isBeyond_any x m t T o a b W (h.below hb) (ht.below hb) ?_ r hr
    have hk2 := (List.getElem?_eq_some_iff.1 hk).1
    have := hth k hk2
    have e : at_ T.co k = (o, a, b) := by unfold at_; rw [List.getD_eq_getElem?_getD, hk]; rfl
    rw [e] at this
    exact this
  obtain ⟨z, hz⟩ : ∃ z, T.co.any (bynE m T.ou) = z := ⟨_, rfl⟩
  have HR : Hid ((if z = true then 12 else 0) = r) := by rw [← hz]; exact hq
  have hC := ht.2.2.2.2.2.2
  have hCl := hC.1.1
  have CC := Lib.hid (fun W (hb : Below w.heap.size w W) => containsB_any t.co.a t.co.n t.co.c T.co (bynE m T.ou) (pv x t) W (hC.1.below hb) (by omega) (fun W' k o a b hb' => CE.out W' k o a b (keep_below hb hb')) z hz)
  clear CE hC hCl h ht hth hn hz hq
  obtain ⟨sw, la, cm, inp, ⟨sa, sn, sc⟩, ⟨ba, bn, bc⟩, ⟨ta, tn, tc⟩⟩ := x
  obtain ⟨pr, pe, de, ji, ⟨xa, xn, xc⟩, ⟨oa, on, oc⟩, ⟨ca, cn, cc⟩⟩ := t
  simp only [pv, Sl.v] at CC ⊢
  cases z
  all_goals
    go_enter Tryz.func51, Tryz.ntmps51
    go_wp2_with (refine (CC.out _ (below_alloc _ _)).mono ?_; rintro e w1 ⟨rfl, hb1⟩)
    go_ret
    exact ⟨by rw [← HR.out]; rfl, keep_below (below_alloc _ _) hb1⟩
set_option maxHeartbeats 2000000 in
set_option maxRecDepth 100000 in
theorem wrong_any (x : ImV) (m : ImP) (t : TaV) (T : TkP) (w : World) (h : x.Is w m) (ht : t.Is w T) (hm : imE m = true) (hT : T ∈ m.tasks) (hN : Nms w) (r : Int) (hq : wrE m T = r) :
    Calls Tryz.prog 30 #[pv x t] w fun e w' => e = .returned (.int .i64 r) ∧ Below w.heap.size w w' := by
  have hco := (tkE_parts ((tasksE_parts (imE_parts hm).2.2.2).2.2.1 T hT)).2.2.2
  have hcl : T.co.length ≤ 200 := by
    unfold codeE at hco
    simp only [Bool.and_eq_true] at hco
    have := inB_iff.1 hco.1; omega
  obtain ⟨r1, h1⟩ : ∃ r1, cE true T.co = r1 := ⟨_, rfl⟩
  obtain ⟨r2, h2⟩ : ∃ r2, wlE T = r2 := ⟨_, rfl⟩
  obtain ⟨r3, h3⟩ : ∃ r3, wpE m T = r3 := ⟨_, rfl⟩
  have C1 := Lib.hid (fun W (hb : Below w.heap.size w W) => wrongSteps_any x t T.co W (ht.2.2.2.2.2.2.below hb) (hN.below hb) r1 h1)
  have C2 := Lib.hid (fun W (hb : Below w.heap.size w W) (h0 : r1 = 0) => wrongLocks_any x t T W (ht.below hb) (h1.trans h0) (hN.below hb) r2 h2)
  have C3 := Lib.hid (fun W (hb : Below w.heap.size w W) (h0 : r1 = 0) (h0' : r2 = 0) => wrongPlaces_any x m t T W (h.below hb) (ht.below hb) (fun p hp ho => block_there hm hT (h1.trans h0) (by
    by_cases e : lks T.co T.co.length = T.bl
    · exact e
    · unfold wlE at h2; rw [if_neg e] at h2; omega) hp ho) (by omega) r3 h3)
  have HR : Hid ((if r1 = 0 then (if r2 = 0 then r3 else r2) else r1) = r) := by rw [← hq, ← h1, ← h2, ← h3]; rfl
  clear h1 h2 h3 hco hcl h ht hm hT hN hq
  obtain ⟨sw, la, cm, inp, ⟨sa, sn, sc⟩, ⟨ba, bn, bc⟩, ⟨ta, tn, tc⟩⟩ := x
  obtain ⟨pr, pe, de, ji, ⟨xa, xn, xc⟩, ⟨oa, on, oc⟩, ⟨ca, cn, cc⟩⟩ := t
  simp only [pv, Sl.v] at C1 C2 C3 ⊢
  have C0 := Lib.hid (cells_new w #[.int .i64 sw, .int .i64 la, .int .i64 cm, .int .i64 inp, .slice sa sn sc, .slice ba bn bc, .slice ta tn tc, .int .i64 pr, .int .i64 pe, .int .i64 de, .int .i64 ji, .slice xa xn xc, .slice oa on oc, .slice ca cn cc] 85)
  have B0 := Lib.hid (below_alloc w (.cells #[.int .i64 sw, .int .i64 la, .int .i64 cm, .int .i64 inp, .slice sa sn sc, .slice ba bn bc, .slice ta tn tc, .int .i64 pr, .int .i64 pe, .int .i64 de, .int .i64 ji, .slice xa xn xc, .slice oa on oc, .slice ca cn cc] 85))
  have i0 : ∀ w, (Instr.index 118 (.agg #[.func (.func 49) #[] #[], .func (.func 50) #[] #[], .func (.func 51) #[] #[]]) (.int .i64 0)).run Tryz.prog w = .ok (.func (.func 49) #[] #[]) w := fun _ => by kernel_rfl
  have i1 : ∀ w, (Instr.index 118 (.agg #[.func (.func 49) #[] #[], .func (.func 50) #[] #[], .func (.func 51) #[] #[]]) (.int .i64 1)).run Tryz.prog w = .ok (.func (.func 50) #[] #[]) w := fun _ => by kernel_rfl
  have i2 : ∀ w, (Instr.index 118 (.agg #[.func (.func 49) #[] #[], .func (.func 50) #[] #[], .func (.func 51) #[] #[]]) (.int .i64 2)).run Tryz.prog w = .ok (.func (.func 51) #[] #[]) w := fun _ => by kernel_rfl
  go_enter Tryz.func30, Tryz.ntmps30
  go_wp2
  generalize (w.alloc (.cells #[.int .i64 sw, .int .i64 la, .int .i64 cm, .int .i64 inp, .slice sa sn sc, .slice ba bn bc, .slice ta tn tc, .int .i64 pr, .int .i64 pe, .int .i64 de, .int .i64 ji, .slice xa xn xc, .slice oa on oc, .slice ca cn cc] 85)) = W0 at *
  go_loopw [7] (fun i wr => ∃ (k : Nat) (q : Int), k ≤ 3 ∧ q = (k : Int) ∧ i = .int .i64 q ∧ Hid (0 < k → r1 = 0) ∧ Hid (1 < k → r2 = 0) ∧ Hid (2 < k → r3 = 0) ∧ Below W0.heap.size W0 wr) (fun i _ => 3 - (intOf i).toNat)
  case atStart => exact ⟨0, 0, by omega, rfl, rfl, fun h => absurd h (by omega), fun h => absurd h (by omega), fun h => absurd h (by omega), Below.refl _ _⟩
  case round =>
    obtain ⟨k, q, hk, hq, rfl, H1, H2, H3, hbl⟩ := hrel
    have hbw := keep_below B0.out hbl
    have c0 := keep_cell hbl (C0.out 0 _ rfl)
    have c1 := keep_cell hbl (C0.out 1 _ rfl)
    have c2 := keep_cell hbl (C0.out 2 _ rfl)
    have c3 := keep_cell hbl (C0.out 3 _ rfl)
    have c4 := keep_cell hbl (C0.out 4 _ rfl)
    have c5 := keep_cell hbl (C0.out 5 _ rfl)
    have c6 := keep_cell hbl (C0.out 6 _ rfl)
    have c7 := keep_cell hbl (C0.out 7 _ rfl)
    have c8 := keep_cell hbl (C0.out 8 _ rfl)
    have c9 := keep_cell hbl (C0.out 9 _ rfl)
    have c10 := keep_cell hbl (C0.out 10 _ rfl)
    have c11 := keep_cell hbl (C0.out 11 _ rfl)
    have c12 := keep_cell hbl (C0.out 12 _ rfl)
    have c13 := keep_cell hbl (C0.out 13 _ rfl)
    rcases (show k = 0 ∨ k = 1 ∨ k = 2 ∨ k = 3 by omega) with rfl | rfl | rfl | rfl
    · obtain rfl : q = 0 := hq
      by_cases z1 : r1 = 0
      · have HZ := Lib.hid z1
        have e1 : (r1 == 0) = true := by simpa using z1
        have e2 : (r1 != 0) = false := by simpa using z1
        clear z1
        go_wp2_with (refine (C1.out _ hbw).mono ?_; rintro e w1 ⟨rfl, hb1⟩)
        go_roundw
        case rel => exact ⟨1, 1, by omega, rfl, by go_num, fun _ => HZ.out, fun h => absurd h (by omega), fun h => absurd h (by omega), keep_below hbl hb1⟩
        case measure => simp [intOf]
      · have HZ : Hid (r1 = r) := by have := HR.out; rw [if_neg z1] at this; exact this
        have e1 : (r1 == 0) = false := by simpa using z1
        have e2 : (r1 != 0) = true := by simpa using z1
        clear z1
        go_wp2_with (refine (C1.out _ hbw).mono ?_; rintro e w1 ⟨rfl, hb1⟩)
        go_ret
        exact ⟨by rw [HZ.out]; rfl, keep_below hbw hb1⟩
    · obtain rfl : q = 1 := hq
      have y1 := H1.out (by omega)
      by_cases z1 : r2 = 0
      · have HZ := Lib.hid z1
        have HY := Lib.hid y1
        have e1 : (r2 == 0) = true := by simpa using z1
        have e2 : (r2 != 0) = false := by simpa using z1
        clear z1 y1
        go_wp2_with (refine (C2.out _ hbw HY.out).mono ?_; rintro e w1 ⟨rfl, hb1⟩)
        go_roundw
        case rel => exact ⟨2, 2, by omega, rfl, by go_num, fun _ => HY.out, fun _ => HZ.out, fun h => absurd h (by omega), keep_below hbl hb1⟩
        case measure => simp [intOf]
      · have HZ : Hid (r2 = r) := by have := HR.out; rw [if_pos y1, if_neg z1] at this; exact this
        have HY := Lib.hid y1
        have e1 : (r2 == 0) = false := by simpa using z1
        have e2 : (r2 != 0) = true := by simpa using z1
        clear z1 y1
        go_wp2_with (refine (C2.out _ hbw HY.out).mono ?_; rintro e w1 ⟨rfl, hb1⟩)
        go_ret
        exact ⟨by rw [HZ.out]; rfl, keep_below hbw hb1⟩
    · obtain rfl : q = 2 := hq
      have y1 := H1.out (by omega)
      have y2 := H2.out (by omega)
      by_cases z1 : r3 = 0
      · have HZ := Lib.hid z1
        have HY := Lib.hid y1
        have HY2 := Lib.hid y2
        have e1 : (r3 == 0) = true := by simpa using z1
        have e2 : (r3 != 0) = false := by simpa using z1
        clear z1 y1 y2
        go_wp2_with (refine (C3.out _ hbw HY.out HY2.out).mono ?_; rintro e w1 ⟨rfl, hb1⟩)
        go_roundw
        case rel => exact ⟨3, 3, by omega, rfl, by go_num, fun _ => HY.out, fun _ => HY2.out, fun _ => HZ.out, keep_below hbl hb1⟩
        case measure => simp [intOf]
      · have HZ : Hid (r3 = r) := by have := HR.out; rw [if_pos y1, if_pos y2] at this; exact this
        have HY := Lib.hid y1
        have HY2 := Lib.hid y2
        have e1 : (r3 == 0) = false := by simpa using z1
        have e2 : (r3 != 0) = true := by simpa using z1
        clear z1 y1 y2
        go_wp2_with (refine (C3.out _ hbw HY.out HY2.out).mono ?_; rintro e w1 ⟨rfl, hb1⟩)
        go_ret
        exact ⟨by rw [HZ.out]; rfl, keep_below hbw hb1⟩
    · obtain rfl : q = 3 := hq
      have HZ : Hid (r = 0) := by have := HR.out; rw [if_pos (H1.out (by omega)), if_pos (H2.out (by omega)), H3.out (by omega)] at this; exact this.symm
      go_wp2
      go_ret
      exact ⟨by rw [HZ.out]; rfl, hbw⟩
end Go.Proofs.YthncbnalnfbpnaaGreatDoor
