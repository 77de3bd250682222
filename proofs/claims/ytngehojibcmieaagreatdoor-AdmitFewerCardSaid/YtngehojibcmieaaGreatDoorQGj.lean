/- What is proved here: contracts of image.rise, rightBlocks and rightCode. Conditions: rows are not too long; the table of names holds what its initialiser lays ('Nms'). the contract of image.outsApart. Conditions: rows are not too long, and places are 0 to 15. the contracts of image.rightTasks and image.Right. the contract of the law's Light. Conditions: rows are not too long. -/
import Derived.Test.YtngehojibcmieaaGreatDoorQGi
import Derived.Lib.Builder
set_option maxRecDepth 100000
set_option maxHeartbeats 8000000
section
section
namespace Go.Proofs.YtngehojibcmieaaGreatDoor
open Go.ChangeShapes Go.WideShapes Go.RowKit
theorem rise_step {A room p : Int} {l : List Int} {k : Nat} (h : l[k]? = some p) : riseE A room (l.drop k) = (decide (A < p) && (decide (p < room) && riseE p room (l.drop (k + 1)))) := by
 rw [take_cons_drop h]; rfl
theorem rise_any (a : Option Addr) (n c : Nat) (l : List Int) (room : Int) (w : World) (hr : Row w a n l) (hn : n ≤ 140737488355328) (r : Bool) (hq : riseE (-1) room l = r) :
  Calls Tryz.prog 131 #[.slice a n c, .int .i64 room] w fun e w' => e = .returned (.bool r) ∧ Below w.heap.size w w' := by
 have HL := Lib.hid hr.1
 have HQ := Lib.hid hq
 clear hq
 have hm : n ≤ 9223372036854775807 := by omega
 go_enter Tryz.func131, Tryz.ntmps131
 go_wp2
 go_loopw [5, 10] (fun x i wr => ∃ (k : Nat) (A : Int), k ≤ n ∧ i = .int .i64 k ∧ x = .int .i64 A ∧ Hid (riseE A room (l.drop k) = r) ∧ Below w.heap.size w wr) (fun _ i _ => n - (intOf i).toNat)
 case atStart => exact ⟨0, -1, by omega, rfl, rfl, HQ, Below.refl _ _⟩
 case round =>
  obtain ⟨k, A, hk, rfl, rfl, HS, hbl⟩ := hrel
  by_cases hlt : k < n
  ·obtain ⟨b1, o1, p, rfl, hB1, hx, hc1⟩ := (hr.below hbl).item hlt
   have HE := Lib.hid (rise_step (A := A) (room := room) hx)
   clear hx
   have i1 : (0 : Int) ≤ (k : Int) := by omega
   have i2 : (k : Int) < (n : Int) := by omega
   by_cases h1 : p ≤ A
   ·have HR : Hid (r = false) := by have := HS.out; rw [HE.out, decide_eq_false (p := A < p) (by omega)] at this; exact this.symm
    have d1 : decide (p ≤ A) = true := decide_eq_true h1
    go_wp2
    go_ret
    exact ⟨by rw [HR.out]; rfl, hbl⟩
   have d1 : decide (p ≤ A) = false := decide_eq_false h1
   by_cases h2 : room ≤ p
   ·have HR : Hid (r = false) := by have := HS.out; rw [HE.out, decide_eq_false (p := p < room) (by omega), Bool.false_and, Bool.and_false] at this; exact this.symm
    have d2 : decide (room ≤ p) = true := decide_eq_true h2
    go_wp2
    go_ret
    exact ⟨by rw [HR.out]; rfl, hbl⟩
   have d2 : decide (room ≤ p) = false := decide_eq_false h2
   have HT : Hid (riseE p room (l.drop (k + 1)) = r) := by have := HS.out; rw [HE.out, decide_eq_true (p := p < room) (by omega), decide_eq_true (p := A < p) (by omega)] at this; exact this
   go_wp2
   go_roundw
   case rel => exact ⟨k + 1, p, by omega, by go_num, rfl, HT, hbl⟩
   case measure => simp [intOf]; omega
  ·obtain rfl : k = n := by omega
   have HR : Hid (r = true) := by have := HS.out; rw [List.drop_of_length_le (by rw [HL.out]; exact Nat.le_refl _)] at this; exact this.symm
   go_wp2
   go_ret
   exact ⟨by rw [HR.out]; rfl, hbl⟩
theorem all_step {α : Type} {f : α → Bool} {l : List α} {k : Nat} {x : α} (h : l[k]? = some x) : (l.drop k).all f = (f x && (l.drop (k + 1)).all f) := by
 rw [take_cons_drop h]; rfl
theorem rightBlocks_any (a : Option Addr) (n c : Nat) (L : List (List Int)) (w : World) (hr : RowR w a n L) (r : Bool) (hq : blocksE L = r) :
  Calls Tryz.prog 88 #[.slice a n c] w fun e w' => e = .returned (.bool r) ∧ Below w.heap.size w w' := by
 have HL := Lib.hid hr.1
 by_cases h8 : n ≤ 8
 ·have HQ : Hid ((L.all fun x => inB x.length 1 8) = r) := by rw [← hq]; unfold blocksE; rw [← HL.out, decide_eq_true h8]; rfl
  clear hq
  go_enter Tryz.func88, Tryz.ntmps88
  go_wp2
  go_loopw [10] (fun i wr => ∃ k : Nat, k ≤ n ∧ i = .int .i64 k ∧ Hid (((L.drop k).all fun x => inB x.length 1 8) = r) ∧ Below w.heap.size w wr) (fun i _ => n - (intOf i).toNat)
  case atStart => exact ⟨0, by omega, rfl, HQ, Below.refl _ _⟩
  case round =>
   obtain ⟨k, hk, rfl, HS, hbl⟩ := hrel
   by_cases hlt : k < n
   ·obtain ⟨b1, o1, a2, n2, c2, l, rfl, hB1, hx, hc1, hr2, hn2⟩ := (hr.below hbl).item hlt
    have HE := Lib.hid (all_step (f := fun x => inB x.length 1 8) hx)
    have e2 := hr2.1
    have i1 : (0 : Int) ≤ (k : Int) := by omega
    have i2 : (k : Int) < (n : Int) := by omega
    obtain ⟨z, hz⟩ : ∃ z, z = inB n2 1 8 := ⟨_, rfl⟩
    have HS2 : Hid ((z && (L.drop (k + 1)).all fun x => inB x.length 1 8) = r) := by rw [hz, e2]; have := HS.out; rw [HE.out] at this; exact this
    have cw := fun W => inside_any n2 1 8 W
    rw [← hz] at cw
    have CW := Lib.hid cw
    clear hx hz e2 cw hr2
    cases z
    ·have HR : Hid (r = false) := HS2.out.symm
     go_wp2_with (refine (CW.out _).mono ?_; rintro e w' ⟨rfl, rfl⟩)
     go_ret
     exact ⟨by rw [HR.out]; rfl, hbl⟩
    ·go_wp2_with (refine (CW.out _).mono ?_; rintro e w' ⟨rfl, rfl⟩)
     go_roundw
     case rel => exact ⟨k + 1, by omega, by go_num, HS2, hbl⟩
     case measure => simp [intOf]; omega
   ·obtain rfl : k = n := by omega
    have HR : Hid (r = true) := by have := HS.out; rw [List.drop_of_length_le (by rw [HL.out]; exact Nat.le_refl _)] at this; exact this.symm
    go_wp2
    go_ret
    exact ⟨by rw [HR.out]; rfl, hbl⟩
 ·have HR : Hid (r = false) := by rw [← hq]; unfold blocksE; rw [← HL.out, decide_eq_false h8]; rfl
  clear hq
  go_enter Tryz.func88, Tryz.ntmps88
  go_wp2
  go_ret
  exact ⟨by rw [HR.out]; rfl, Below.refl _ _⟩
theorem notRight_any (o x y : Int) (w : World) (hN : Nms w) (r : Bool) (hq : right (o, x, y) = r) : Calls Tryz.prog 174 #[.agg #[.int .i64 o, .int .i64 x, .int .i64 y]] w fun e w' => e = .returned (.bool (!r)) ∧ Below w.heap.size w w' := by
 have c := fun W h => right_any o x y W h
 rw [hq] at c
 have C := Lib.hid c
 have HN : Hid (∀ o, Nms (w.alloc o)) := fun o => hN.below (below_alloc _ _)
 clear c hq hN
 go_enter Tryz.func174, Tryz.ntmps174
 go_wp2_with (refine (C.out _ (HN.out _)).mono ?_; rintro e w' ⟨rfl, hb⟩)
 go_ret
 exact ⟨rfl, (below_alloc _ _).trans (hb.mono (by simp))⟩
theorem indexNot_any (a : Option Addr) (n c : Nat) (L : List (Int × Int × Int)) (w : World) (hr : RowI w a n L) (hN : Nms w) (hn : n ≤ 1000000) :
  Calls Tryz.prog 195 #[.slice a n c, .func (.func 174) #[] #[]] w fun e w' => ∃ i : Int, e = .returned (.int .i64 i) ∧ decide (0 ≤ i) = !(L.all right) ∧ Below w.heap.size w w' := by
 have HL := Lib.hid hr.1
 go_enter Tryz.func195, Tryz.ntmps195
 go_wp2
 go_loopw [8] (fun i wr => ∃ k : Nat, k ≤ n ∧ i = .int .i64 k ∧ Hid (L.all right = (L.drop k).all right) ∧ Below w.heap.size w wr) (fun i _ => n - (intOf i).toNat)
 case atStart => exact ⟨0, by omega, rfl, rfl, Below.refl _ _⟩
 case round =>
  obtain ⟨k, hk, rfl, HA, hbl⟩ := hrel
  by_cases hlt : k < n
  ·obtain ⟨b1, o1, p1, p2, p3, rfl, hB1, hx, hc1, hc2, hc3⟩ := (hr.below hbl).at_ hlt
   have HX := Lib.hid (all_step (f := right) hx)
   clear hx
   have HN1 := Lib.hid (hN.below hbl)
   cases hv : right (p1, p2, p3)
   ·have HQ : Hid (L.all right = false) := by rw [HA.out, HX.out, hv]; rfl
    have ce := fun W h => notRight_any p1 p2 p3 W h _ hv
    have CE := Lib.hid ce
    clear ce hv HA HX
    go_wp2_with (refine (CE.out _ (by first | exact HN1.out | exact HN1.out.below (below_alloc _ _))).mono ?_; rintro e w2 ⟨rfl, hb2⟩)
    go_ret
    exact ⟨_, rfl, by rw [HQ.out]; simp, keep_below hbl hb2⟩
   ·have HQ : Hid (L.all right = (L.drop (k + 1)).all right) := by rw [HA.out, HX.out, hv]; rfl
    have ce := fun W h => notRight_any p1 p2 p3 W h _ hv
    have CE := Lib.hid ce
    clear ce hv HA HX
    go_wp2_with (refine (CE.out _ (by first | exact HN1.out | exact HN1.out.below (below_alloc _ _))).mono ?_; rintro e w2 ⟨rfl, hb2⟩)
    go_roundw
    case rel => exact ⟨k + 1, by omega, by go_num, HQ, keep_below hbl hb2⟩
    case measure => simp [intOf]; omega
  ·obtain rfl : k = n := by omega
   have HR : Hid (L.all right = true) := by rw [HA.out, List.drop_of_length_le (by rw [HL.out]; exact Nat.le_refl _)]; rfl
   go_wp2
   go_ret
   exact ⟨_, rfl, by rw [HR.out]; rfl, hbl⟩
theorem containsNot_any (a : Option Addr) (n c : Nat) (L : List (Int × Int × Int)) (w : World) (hr : RowI w a n L) (hN : Nms w) (hn : n ≤ 1000000) (r : Bool) (hq : L.all right = r) :
  Calls Tryz.prog 152 #[.slice a n c, .func (.func 174) #[] #[]] w fun e w' => e = .returned (.bool (!r)) ∧ Below w.heap.size w w' := by
 have C := Lib.hid (indexNot_any a n c L w hr hN hn)
 have HQ := Lib.hid hq
 clear hr hN hn hq
 go_enter Tryz.func152, Tryz.ntmps152
 go_wp2_with (refine C.out.mono ?_; rintro e w2 ⟨i, rfl, hi, hb2⟩)
 go_ret
 exact ⟨by rw [← HQ.out, ← hi]; rfl, hb2⟩
theorem rightCode_any (a : Option Addr) (n c : Nat) (L : List (Int × Int × Int)) (w : World) (hr : RowI w a n L) (hN : Nms w) (r : Bool) (hq : codeE L = r) :
  Calls Tryz.prog 132 #[.slice a n c] w fun e w' => e = .returned (.bool r) ∧ Below w.heap.size w w' := by
 have h1 := hr.1
 unfold codeE at hq
 rw [← h1] at hq
 rcases Bool.eq_false_or_eq_true (inB n 1 200) with h2 | h2
 ·rw [h2, Bool.true_and] at hq
  have C := Lib.hid (containsNot_any a n c L w hr hN (by have := inB_iff.1 h2; omega) _ hq)
  clear hr hN hq h1
  go_enter Tryz.func132, Tryz.ntmps132
  go_wp2_with (first | (refine (inside_any _ _ _ _).mono ?_; rintro e w' ⟨rfl, rfl⟩) | (refine C.out.mono ?_; rintro e w2 ⟨rfl, hb2⟩))
  go_ret
  exact ⟨by simp, hb2⟩
 ·rw [h2, Bool.false_and] at hq
  subst hq
  clear hr hN h1
  go_enter Tryz.func132, Tryz.ntmps132
  go_wp2_with (refine (inside_any _ _ _ _).mono ?_; rintro e w' ⟨rfl, rfl⟩)
  go_ret
  exact ⟨rfl, Below.refl _ _⟩
def takenV (sn : List Int) (j : Nat) : Value := .bool (sn.contains (j : Int))
theorem taken_set (sn : List Int) (q j : Nat) : (if j = q then Value.bool true else takenV sn j) = takenV ((q : Int) :: sn) j := by
 unfold takenV
 by_cases h : j = q
 ·subst h; simp
 ·have : ((j : Int) == (q : Int)) = false := by rw [beq_eq_false_iff_ne]; omega
  rw [if_neg h, List.contains_cons, this, Bool.false_or]
theorem apart_step {sn : List Int} {p : Int} {l m : List Int} {k : Nat} (h : l[k]? = some p) : apE sn (l.drop k ++ m) = (!sn.contains p && apE (p :: sn) (l.drop (k + 1) ++ m)) := by
 rw [take_cons_drop h]; rfl
theorem outs_step {L : List TkP} {T : TkP} {k : Nat} (h : L[k]? = some T) : outsT (L.drop k) = T.ou ++ outsT (L.drop (k + 1)) := by
 rw [take_cons_drop h]; rfl
theorem apart_any (a : Option Addr) (n c : Nat) (L : List TkP) (w : World) (hr : RowT w a n L) (hn : n ≤ 140737488355328) (hp : ∀ T ∈ L, ∀ p ∈ T.ou, 0 ≤ p ∧ p < 16) (r : Bool) (hq : apE [] (outsT L) = r) :
  Calls Tryz.prog 133 #[.slice a n c] w fun e w' => e = .returned (.bool r) ∧ Below w.heap.size w w' := by
 have HL := Lib.hid hr.1
 have HQ := Lib.hid hq
 have HP := Lib.hid hp
 clear hq hp
 have hm : n ≤ 9223372036854775807 := by omega
 have r0 : (w.alloc (.cells #[.bool false, .bool false, .bool false, .bool false, .bool false, .bool false, .bool false, .bool false, .bool false, .bool false, .bool false, .bool false, .bool false, .bool false, .bool false, .bool false] 221)).rowIs w.heap.size 221 16 (takenV []) := by
  have := World.rowIs_alloc w #[.bool false, .bool false, .bool false, .bool false, .bool false, .bool false, .bool false, .bool false, .bool false, .bool false, .bool false, .bool false, .bool false, .bool false, .bool false, .bool false] 221 (takenV []) (by intro i hi; simp at hi; rcases (show i = 0 ∨ i = 1 ∨ i = 2 ∨ i = 3 ∨ i = 4 ∨ i = 5 ∨ i = 6 ∨ i = 7 ∨ i = 8 ∨ i = 9 ∨ i = 10 ∨ i = 11 ∨ i = 12 ∨ i = 13 ∨ i = 14 ∨ i = 15 by omega) with rfl | rfl | rfl | rfl | rfl | rfl | rfl | rfl | rfl | rfl | rfl | rfl | rfl | rfl | rfl | rfl <;> rfl)
  exact this
 have R0 := Lib.hid r0
 have B0 := Lib.hid (below_alloc w (.cells #[.bool false, .bool false, .bool false, .bool false, .bool false, .bool false, .bool false, .bool false, .bool false, .bool false, .bool false, .bool false, .bool false, .bool false, .bool false, .bool false] 221))
 obtain ⟨N, hN⟩ : ∃ N, N = w.heap.size := ⟨_, rfl⟩
 clear r0
 go_enter Tryz.func133, Tryz.ntmps133
 go_wp2
 go_loopw [10] (fun i wr => ∃ (k : Nat) (sn : List Int), k ≤ n ∧ i = .int .i64 k ∧ Hid (apE sn (outsT (L.drop k)) = r) ∧ wr.rowIs w.heap.size 221 16 (takenV sn) ∧ Below w.heap.size w wr) (fun i _ => n - (intOf i).toNat)
 case atStart => exact ⟨0, [], by omega, rfl, HQ, R0.out, B0.out⟩
 case round =>
  obtain ⟨k, sn, hk, rfl, HS, hrow, hbl⟩ := hrel
  by_cases hlt : k < n
  ·obtain ⟨b1, o1, T, ba, bn, bc, oa, on, oc, ca, cn, cc, rfl, hB1, hx, _, ⟨ho, hom⟩, _, h0, h1, h2, h3, h4, h5, h6⟩ := hr.item hbl hlt
   have HE := Lib.hid (outs_step hx)
   have HT : Hid (∀ p ∈ T.ou, 0 ≤ p ∧ p < 16) := HP.out T (List.mem_of_getElem? hx)
   have HS2 : Hid (apE sn (T.ou ++ outsT (L.drop (k + 1))) = r) := by have := HS.out; rw [HE.out] at this; exact this
   have i1 : (0 : Int) ≤ (k : Int) := by omega
   have i2 : (k : Int) < (n : Int) := by omega
   have hon : on ≤ 9223372036854775807 := by omega
   have HO := Lib.hid ho
   have HOL := Lib.hid ho.1
   have hs := hbl.size
   have R1 := Lib.hid (hrow.alloc (.cells #[.int .i64 T.pr, .int .i64 T.pe, .int .i64 T.de, .int .i64 T.ji, .slice ba bn bc, .slice oa on oc, .slice ca cn cc] 59))
   have B1 := Lib.hid (hbl.alloc hbl.size (.cells #[.int .i64 T.pr, .int .i64 T.pe, .int .i64 T.de, .int .i64 T.ji, .slice ba bn bc, .slice oa on oc, .slice ca cn cc] 59))
   clear hx HS HE ho hrow hbl hr
   go_wp2
   go_loopw [17] (fun i wr => ∃ (q : Nat) (sn : List Int), q ≤ on ∧ i = .int .i64 q ∧ Hid (apE sn (T.ou.drop q ++ outsT (L.drop (k + 1))) = r) ∧ wr.rowIs w.heap.size 221 16 (takenV sn) ∧ Below w.heap.size w wr) (fun i _ => on - (intOf i).toNat)
   case atStart => exact ⟨0, sn, by omega, rfl, HS2, R1.out, B1.out⟩
   case round =>
    obtain ⟨q, sn, hq, rfl, HS, hrow, hbl⟩ := hrel
    by_cases hltq : q < on
    ·obtain ⟨b2, o2, p, rfl, hB2, hx, hc⟩ := HO.out.item hltq
     obtain ⟨hp0, hp1⟩ := HT.out p (List.mem_of_getElem? hx)
     obtain ⟨m, rfl⟩ : ∃ m : Nat, p = m := ⟨p.toNat, by omega⟩
     have hm1 : m < 16 := by omega
     have HE := Lib.hid (apart_step (sn := sn) (m := outsT (L.drop (k + 1))) hx)
     have hc1 := keep_cell hbl hc
     have hc2 := hrow.cell hm1
     have hf2 := hrow.frozen m
     have j1 : (0 : Int) ≤ (q : Int) := by omega
     have j2 : (q : Int) < (on : Int) := by omega
     have hlt2 := hrow.lt
     unfold takenV at hc2
     clear hx hc
     cases hv : sn.contains (m : Int)
     ·have HS3 : Hid (apE ((m : Int) :: sn) (T.ou.drop (q + 1) ++ outsT (L.drop (k + 1))) = r) := by have := HS.out; rw [HE.out, hv] at this; exact this
      have R2 := Lib.hid ((hrow.set m (.bool true)).congr (fun j _ => taken_set sn m j))
      have B2 := Lib.hid (hbl.setCell (p := ⟨w.heap.size, m, none⟩) (Nat.le_refl _) (.bool true))
      rw [hv] at hc2
      clear hv HS HE hrow hbl
      go_wp2
      go_roundw
      case rel => exact ⟨q + 1, _, by omega, by go_num, HS3, R2.out, B2.out⟩
      case measure => simp [intOf]; omega
     ·have HR : Hid (r = false) := by have := HS.out; rw [HE.out, hv] at this; exact this.symm
      rw [hv] at hc2
      clear hv HS HE hrow
      go_wp2
      go_ret
      exact ⟨by rw [HR.out]; rfl, hbl⟩
    ·obtain rfl : q = on := by omega
     have HS3 : Hid (apE sn (outsT (L.drop (k + 1))) = r) := by have := HS.out; rw [List.drop_of_length_le (by rw [HOL.out]; exact Nat.le_refl _)] at this; exact this
     go_wp2
     go_roundw
     case rel => exact ⟨k + 1, sn, by omega, by go_num, HS3, hrow, hbl⟩
     case measure => simp [intOf]; omega
  ·obtain rfl : k = n := by omega
   have HR : Hid (r = true) := by have := HS.out; rw [List.drop_of_length_le (by rw [HL.out]; exact Nat.le_refl _)] at this; exact this.symm
   go_wp2
   go_ret
   exact ⟨by rw [HR.out]; rfl, hbl⟩
def Two (w : World) (tb ib : Nat) (tc ic : List Value) (W : World) : Prop :=
 Below w.heap.size w W ∧ (∀ j v, tc[j]? = some v → W.cell? ⟨tb, j, none⟩ = some v) ∧ ∀ j v, ic[j]? = some v → W.cell? ⟨ib, j, none⟩ = some v
theorem Two.keep {w W W' : World} {tb ib : Nat} {tc ic : List Value} (h : Two w tb ib tc ic W) (hb : Below W.heap.size W W') : Two w tb ib tc ic W' :=
 ⟨keep_below h.1 hb, fun j v hj => keep_cell hb (h.2.1 j v hj), fun j v hj => keep_cell hb (h.2.2 j v hj)⟩
theorem cells_new (w : World) (cs : Array Value) (t : TypeId) (j : Nat) (v : Value) (h : cs.toList[j]? = some v) : (w.alloc (.cells cs t)).cell? ⟨w.heap.size, j, none⟩ = some v := by
 have := Lib.cell_of_heap (new_block w (.cells cs t)) j
 rw [this]
 simpa using h
theorem tasks_step {L : List TkP} {T : TkP} {k : Nat} {f : TkP → Bool} (h : L[k]? = some T) : (L.drop k).all f = (f T && (L.drop (k + 1)).all f) := all_step h
theorem rightTasks_any (sw la cm inp : Int) (s b t : Sl) (m : ImP) (w : World) (hs : s.n = m.safe.length) (hs16 : s.n ≤ 16) (hb8 : b.n = m.blocks.length) (hbm : b.n ≤ 8) (hr : RowT w t.a t.n m.tasks) (htm : t.n ≤ 140737488355328) (hN : Nms w) (r : Bool) (hq : tasksE m = r) :
  Calls Tryz.prog 89 #[.agg #[.int .i64 sw, .int .i64 la, .int .i64 cm, .int .i64 inp, .slice s.a s.n s.c, .slice b.a b.n b.c, .slice t.a t.n t.c]] w fun e w' => e = .returned (.bool r) ∧ Below w.heap.size w w' := by
 obtain ⟨sa, sn, sc⟩ := s
 obtain ⟨ba, bn, bc⟩ := b
 obtain ⟨ta, tn, tc⟩ := t
 simp only at hs hs16 hb8 hbm hr htm ⊢
 have HL := Lib.hid hr.1
 have hq' : (inB tn 1 8 && (m.tasks.all (tkE bn sn) && apE [] (outsT m.tasks))) = r := by rw [← hq]; unfold tasksE; rw [hb8, hs, hr.1]
 clear hq hs hb8
 have htm' : tn ≤ 9223372036854775807 := by omega
 have cw := fun W => inside_any tn 1 8 W
 obtain ⟨z, hz⟩ : ∃ z, z = inB tn 1 8 := ⟨_, rfl⟩
 rw [← hz] at hq' cw
 have CW := Lib.hid cw
 cases z
 ·have HR : Hid (r = false) := hq'.symm
  clear hq' cw hz hr
  go_enter Tryz.func89, Tryz.ntmps89
  go_wp2_with (refine (CW.out _).mono ?_; rintro e w' ⟨rfl, rfl⟩)
  go_ret
  exact ⟨by rw [HR.out]; rfl, below_alloc _ _⟩
 have hq2 : (m.tasks.all (tkE bn sn) && apE [] (outsT m.tasks)) = r := by simpa using hq'
 clear hq' cw
 have h18 := inB_iff.1 hz.symm
 have hn1 : 1 ≤ tn := by omega
 have hn8 : tn ≤ 8 := by omega
 have HQ := Lib.hid hq2
 have B0 := Lib.hid (below_alloc w (.cells #[.int .i64 sw, .int .i64 la, .int .i64 cm, .int .i64 inp, .slice sa sn sc, .slice ba bn bc, .slice ta tn tc] 26))
 have C0 := Lib.hid (cells_new w #[.int .i64 sw, .int .i64 la, .int .i64 cm, .int .i64 inp, .slice sa sn sc, .slice ba bn bc, .slice ta tn tc] 26)
 have hsz : (w.alloc (.cells #[.int .i64 sw, .int .i64 la, .int .i64 cm, .int .i64 inp, .slice sa sn sc, .slice ba bn bc, .slice ta tn tc] 26)).heap.size = w.heap.size + 1 := by simp
 have HN := Lib.hid hN
 clear hq2 hz h18 hN
 go_enter Tryz.func89, Tryz.ntmps89
 go_wp2_with (refine (CW.out _).mono ?_; rintro e w' ⟨rfl, rfl⟩)
 generalize (w.alloc (.cells #[.int .i64 sw, .int .i64 la, .int .i64 cm, .int .i64 inp, .slice sa sn sc, .slice ba bn bc, .slice ta tn tc] 26)) = W0 at *
 go_loopw [13] (fun i wr => ∃ k : Nat, k ≤ tn ∧ i = .int .i64 k ∧ Hid (((m.tasks.drop k).all (tkE bn sn) && apE [] (outsT m.tasks)) = r) ∧ Hid (∀ T ∈ m.tasks.take k, tkE bn sn T = true) ∧ Below W0.heap.size W0 wr) (fun i _ => tn - (intOf i).toNat)
 case atStart => exact ⟨0, by omega, rfl, HQ, (fun T hT => by simp at hT), Below.refl _ _⟩
 case round =>
  obtain ⟨k, hk, rfl, HS, HA, hbl⟩ := hrel
  have hblw := keep_below B0.out hbl
  have hsz2 := hbl.size
  by_cases hlt : k < tn
  ·obtain ⟨b1, o1, T, xa, xn, xc, oa, on, oc, ca, cn, cc, rfl, hB1, hx, ⟨hX, hXm⟩, ⟨hO, hOm⟩, ⟨hC, hCm⟩, h0, h1, h2, h3, h4, h5, h6⟩ := hr.item hblw hlt
   have HE := Lib.hid (tasks_step (f := tkE bn sn) hx)
   have HTK : Hid (∀ y, tkE bn sn T = true → y ∈ m.tasks.take (k + 1) → tkE bn sn y = true) := by
    intro y h9 hy
    rw [take_cat hx] at hy
    rcases List.mem_append.1 hy with hy | hy
    ·exact HA.out y hy
    ·simp at hy; rw [hy]; exact h9
   have i1 : (0 : Int) ≤ (k : Int) := by omega
   have i2 : (k : Int) < (tn : Int) := by omega
   have I1 : Hid (Two w wr.heap.size w.heap.size [.int .i64 T.pr, .int .i64 T.pe, .int .i64 T.de, .int .i64 T.ji, .slice xa xn xc, .slice oa on oc, .slice ca cn cc] [.int .i64 sw, .int .i64 la, .int .i64 cm, .int .i64 inp, .slice sa sn sc, .slice ba bn bc, .slice (some ⟨b1, o1, none⟩) tn tc] (wr.alloc (.cells #[.int .i64 T.pr, .int .i64 T.pe, .int .i64 T.de, .int .i64 T.ji, .slice xa xn xc, .slice oa on oc, .slice ca cn cc] 59))) :=
    ⟨hblw.alloc hblw.size _, cells_new wr _ _, fun j v hj => keep_cell (below_alloc _ _) (keep_cell hbl (C0.out j v hj))⟩
   obtain ⟨x1, e1⟩ : ∃ x, tkNumE T = x := ⟨_, rfl⟩
   obtain ⟨x2, e2⟩ : ∃ x, riseE (-1) bn T.bl = x := ⟨_, rfl⟩
   obtain ⟨x3, e3⟩ : ∃ x, riseE (-1) sn T.ou = x := ⟨_, rfl⟩
   obtain ⟨x4, e4⟩ : ∃ x, codeE T.co = x := ⟨_, rfl⟩
   have HS2 : Hid ((((x1 && (x2 && (x3 && x4))) && (m.tasks.drop (k + 1)).all (tkE bn sn)) && apE [] (outsT m.tasks)) = r) := by have := HS.out; rw [HE.out] at this; rw [← e1, ← e2, ← e3, ← e4]; exact this
   have HTQ : Hid ((x1 && (x2 && (x3 && x4))) = true → tkE bn sn T = true) := by rw [← e1, ← e2, ← e3, ← e4]; exact id
   have A1 := Lib.hid (fun W => rightTkNums_any T.pr T.pe T.de T.ji W x1 e1)
   have A2 := Lib.hid (fun W (h : Below w.heap.size w W) => rise_any xa xn xc T.bl bn W (hX.below h) hXm x2 e2)
   have A3 := Lib.hid (fun W (h : Below w.heap.size w W) => rise_any oa on oc T.ou sn W (hO.below h) hOm x3 e3)
   have A4 := Lib.hid (fun W (h : Below w.heap.size w W) => rightCode_any ca cn cc T.co W (hC.below h) (HN.out.below h) x4 e4)
   have A0 := Lib.hid (fun W => tnumbers_any T.pr T.pe T.de T.ji ⟨xa, xn, xc⟩ ⟨oa, on, oc⟩ ⟨ca, cn, cc⟩ W)
   clear hx HE HS e1 e2 e3 e4 hX hO hC hXm hOm hCm
   cases x1
   ·have HR : Hid (r = false) := HS2.out.symm
    go_wp2_with (first
     | (go_at_call 132; refine (A4.out _ J4.1).mono ?_; rintro e w5 ⟨rfl, hb5⟩; have J5 := J4.keep hb5)
     | (have mk := J3; clear mk; go_at_call 131; refine (A3.out _ J3.1).mono ?_; rintro e w4 ⟨rfl, hb4⟩; have J4 := J3.keep hb4; have d6 := J4.2.1 6 _ rfl)
     | (go_at_call 131; refine (A2.out _ J2.1).mono ?_; rintro e w3 ⟨rfl, hb3⟩; have J3 := J2.keep hb3; have d5 := J3.2.1 5 _ rfl; have g4 := J3.2.2 4 _ rfl)
     | (go_at_call 130; refine (A1.out _).mono ?_; rintro e w2 ⟨rfl, hb2⟩; have J2 := J1.keep hb2; have d4 := J2.2.1 4 _ rfl; have g5 := J2.2.2 5 _ rfl)
     | (go_at_call 105; refine (A0.out _).mono ?_; rintro e w1 ⟨rfl, hb1⟩; have J1 := I1.out.keep hb1))
    go_ret
    exact ⟨by rw [HR.out]; rfl, J2.1⟩
   cases x2
   ·have HR : Hid (r = false) := HS2.out.symm
    go_wp2_with (first
     | (go_at_call 132; refine (A4.out _ J4.1).mono ?_; rintro e w5 ⟨rfl, hb5⟩; have J5 := J4.keep hb5)
     | (have mk := J3; clear mk; go_at_call 131; refine (A3.out _ J3.1).mono ?_; rintro e w4 ⟨rfl, hb4⟩; have J4 := J3.keep hb4; have d6 := J4.2.1 6 _ rfl)
     | (go_at_call 131; refine (A2.out _ J2.1).mono ?_; rintro e w3 ⟨rfl, hb3⟩; have J3 := J2.keep hb3; have d5 := J3.2.1 5 _ rfl; have g4 := J3.2.2 4 _ rfl)
     | (go_at_call 130; refine (A1.out _).mono ?_; rintro e w2 ⟨rfl, hb2⟩; have J2 := J1.keep hb2; have d4 := J2.2.1 4 _ rfl; have g5 := J2.2.2 5 _ rfl)
     | (go_at_call 105; refine (A0.out _).mono ?_; rintro e w1 ⟨rfl, hb1⟩; have J1 := I1.out.keep hb1))
    go_ret
    exact ⟨by rw [HR.out]; rfl, J3.1⟩
   cases x3
   ·have HR : Hid (r = false) := HS2.out.symm
    go_wp2_with (first
     | (go_at_call 132; refine (A4.out _ J4.1).mono ?_; rintro e w5 ⟨rfl, hb5⟩; have J5 := J4.keep hb5)
     | (have mk := J3; clear mk; go_at_call 131; refine (A3.out _ J3.1).mono ?_; rintro e w4 ⟨rfl, hb4⟩; have J4 := J3.keep hb4; have d6 := J4.2.1 6 _ rfl)
     | (go_at_call 131; refine (A2.out _ J2.1).mono ?_; rintro e w3 ⟨rfl, hb3⟩; have J3 := J2.keep hb3; have d5 := J3.2.1 5 _ rfl; have g4 := J3.2.2 4 _ rfl)
     | (go_at_call 130; refine (A1.out _).mono ?_; rintro e w2 ⟨rfl, hb2⟩; have J2 := J1.keep hb2; have d4 := J2.2.1 4 _ rfl; have g5 := J2.2.2 5 _ rfl)
     | (go_at_call 105; refine (A0.out _).mono ?_; rintro e w1 ⟨rfl, hb1⟩; have J1 := I1.out.keep hb1))
    go_ret
    exact ⟨by rw [HR.out]; rfl, J4.1⟩
   cases x4
   ·have HR : Hid (r = false) := HS2.out.symm
    go_wp2_with (first
     | (go_at_call 132; refine (A4.out _ J4.1).mono ?_; rintro e w5 ⟨rfl, hb5⟩; have J5 := J4.keep hb5)
     | (have mk := J3; clear mk; go_at_call 131; refine (A3.out _ J3.1).mono ?_; rintro e w4 ⟨rfl, hb4⟩; have J4 := J3.keep hb4; have d6 := J4.2.1 6 _ rfl)
     | (go_at_call 131; refine (A2.out _ J2.1).mono ?_; rintro e w3 ⟨rfl, hb3⟩; have J3 := J2.keep hb3; have d5 := J3.2.1 5 _ rfl; have g4 := J3.2.2 4 _ rfl)
     | (go_at_call 130; refine (A1.out _).mono ?_; rintro e w2 ⟨rfl, hb2⟩; have J2 := J1.keep hb2; have d4 := J2.2.1 4 _ rfl; have g5 := J2.2.2 5 _ rfl)
     | (go_at_call 105; refine (A0.out _).mono ?_; rintro e w1 ⟨rfl, hb1⟩; have J1 := I1.out.keep hb1))
    go_ret
    exact ⟨by rw [HR.out]; rfl, J5.1⟩
   ·have HS3 : Hid (((m.tasks.drop (k + 1)).all (tkE bn sn) && apE [] (outsT m.tasks)) = r) := HS2.out
    have HA2 : Hid (∀ y ∈ m.tasks.take (k + 1), tkE bn sn y = true) := fun y hy => HTK.out y (HTQ.out rfl) hy
    have H1 := Lib.hid (fun W (h : Below wr.heap.size wr W) => keep_below hbl h)
    go_wp2_with (first
     | (go_at_call 132; refine (A4.out _ J4.1).mono ?_; rintro e w5 ⟨rfl, hb5⟩; have J5 := J4.keep hb5)
     | (have mk := J3; clear mk; go_at_call 131; refine (A3.out _ J3.1).mono ?_; rintro e w4 ⟨rfl, hb4⟩; have J4 := J3.keep hb4; have d6 := J4.2.1 6 _ rfl)
     | (go_at_call 131; refine (A2.out _ J2.1).mono ?_; rintro e w3 ⟨rfl, hb3⟩; have J3 := J2.keep hb3; have d5 := J3.2.1 5 _ rfl; have g4 := J3.2.2 4 _ rfl)
     | (go_at_call 130; refine (A1.out _).mono ?_; rintro e w2 ⟨rfl, hb2⟩; have J2 := J1.keep hb2; have d4 := J2.2.1 4 _ rfl; have g5 := J2.2.2 5 _ rfl)
     | (go_at_call 105; refine (A0.out _).mono ?_; rintro e w1 ⟨rfl, hb1⟩; have J1 := I1.out.keep hb1))
    go_roundw
    case rel => exact ⟨k + 1, by omega, by go_num, HS3, HA2, H1.out _ (((below_alloc _ _).trans (hb1.mono (by simp))) |>.trans (hb2.mono (by have := hb1.size; simp at this; omega)) |>.trans (hb3.mono (by have := hb1.size; have := hb2.size; simp at *; omega)) |>.trans (hb4.mono (by have := hb1.size; have := hb2.size; have := hb3.size; simp at *; omega)) |>.trans (hb5.mono (by have := hb1.size; have := hb2.size; have := hb3.size; have := hb4.size; simp at *; omega)))⟩
    case measure => simp [intOf]; omega
  ·obtain rfl : k = tn := by omega
   have HS3 : Hid (apE [] (outsT m.tasks) = r) := by have := HS.out; rw [List.drop_of_length_le (by rw [HL.out]; exact Nat.le_refl _)] at this; exact this
   have HA2 : Hid (∀ T ∈ m.tasks, ∀ p ∈ T.ou, 0 ≤ p ∧ p < 16) := by
    intro T hT p hp
    have h1 := HA.out T (by rw [List.take_of_length_le (by rw [HL.out]; exact Nat.le_refl _)]; exact hT)
    unfold tkE at h1
    simp only [Bool.and_eq_true] at h1
    have := riseE_mem h1.2.2.1 p hp
    omega
   have AP := Lib.hid (apart_any ta k tc m.tasks wr (hr.below hblw) htm HA2.out r HS3.out)
   have g6 := keep_cell hbl (C0.out 6 _ rfl)
   clear HS HA
   go_wp2_with (refine AP.out.mono ?_; rintro e w9 ⟨rfl, hb9⟩)
   go_ret
   exact ⟨rfl, keep_below hblw hb9⟩
theorem imRight_any (x : ImV) (m : ImP) (w : World) (h : x.Is w m) (hN : Nms w) (r : Bool) (hq : imE m = r) :
  Calls Tryz.prog 44 #[x.v] w fun e w' => e = .returned (.bool r) ∧ Below w.heap.size w w' := by
 obtain ⟨sw, la, cm, inp, ⟨sa, sn, sc⟩, ⟨ba, bn, bc⟩, ⟨ta, tn, tc⟩⟩ := x
 obtain ⟨h1, h2, h3, h4, ⟨hs, hsm⟩, ⟨hb, hbm⟩, ⟨ht, htm⟩⟩ := h
 simp only at h1 h2 h3 h4 hs hsm hb hbm ht htm
 have hq' : ((inB sw 0 100 && (inB la 1 100 && (inB cm 1 100 && inB inp 0 16))) && (decide (sn ≤ 16) && (blocksE m.blocks && tasksE m))) = r := by rw [← hq]; unfold imE numE; rw [h1, h2, h3, h4, hs.1]
 clear hq h1 h2 h3 h4
 obtain ⟨x1, e1⟩ : ∃ x, (inB sw 0 100 && (inB la 1 100 && (inB cm 1 100 && inB inp 0 16))) = x := ⟨_, rfl⟩
 obtain ⟨x3, e3⟩ : ∃ x, blocksE m.blocks = x := ⟨_, rfl⟩
 obtain ⟨x4, e4⟩ : ∃ x, tasksE m = x := ⟨_, rfl⟩
 have HS2 : Hid ((x1 && (decide (sn ≤ 16) && (x3 && x4))) = r) := by rw [← e1, ← e3, ← e4]; exact hq'
 have B0 := Lib.hid (below_alloc w (.cells #[.int .i64 sw, .int .i64 la, .int .i64 cm, .int .i64 inp, .slice sa sn sc, .slice ba bn bc, .slice ta tn tc] 26))
 have C0 := Lib.hid (cells_new w #[.int .i64 sw, .int .i64 la, .int .i64 cm, .int .i64 inp, .slice sa sn sc, .slice ba bn bc, .slice ta tn tc] 26)
 have A0 := Lib.hid (fun W => numbers_any sw la cm inp ⟨sa, sn, sc⟩ ⟨ba, bn, bc⟩ ⟨ta, tn, tc⟩ W)
 have A1 := Lib.hid (fun W => rightNums_any sw la cm inp W x1 e1)
 have A3 := Lib.hid (fun W (h : Below w.heap.size w W) => rightBlocks_any ba bn bc m.blocks W (hb.below h) x3 e3)
 have A4 := Lib.hid (fun W (h : Below w.heap.size w W) (h16 : sn ≤ 16) (h8 : bn ≤ 8) => rightTasks_any sw la cm inp ⟨sa, sn, sc⟩ ⟨ba, bn, bc⟩ ⟨ta, tn, tc⟩ m W hs.1 h16 hb.1 h8 (ht.below h) htm (hN.below h) x4 e4)
 have HB8 : Hid (x3 = true → bn ≤ 8) := by rw [← e3]; unfold blocksE; intro h; rw [Bool.and_eq_true, decide_eq_true_eq] at h; rw [hb.1]; exact h.1
 have I0 : Hid (Two w w.heap.size w.heap.size [.int .i64 sw, .int .i64 la, .int .i64 cm, .int .i64 inp, .slice sa sn sc, .slice ba bn bc, .slice ta tn tc] [.int .i64 sw, .int .i64 la, .int .i64 cm, .int .i64 inp, .slice sa sn sc, .slice ba bn bc, .slice ta tn tc] (w.alloc (.cells #[.int .i64 sw, .int .i64 la, .int .i64 cm, .int .i64 inp, .slice sa sn sc, .slice ba bn bc, .slice ta tn tc] 26))) := ⟨B0.out, C0.out, C0.out⟩
 clear e1 e3 e4 hq' hs hsm hb hbm ht htm hN B0 C0
 unfold ImV.v
 by_cases h16 : sn ≤ 16
 ·have d1 : decide (sn ≤ 16) = true := decide_eq_true h16
  have d2 : decide ((sn : Int) ≤ 16) = true := decide_eq_true (by omega)
  rw [d1] at HS2
  cases x1
  ·have HR : Hid (r = false) := HS2.out.symm
   go_enter Tryz.func44, Tryz.ntmps44
   go_wp2_with (first
    | (go_at_call 89; refine (A4.out _ J3.1 h16 h8).mono ?_; rintro e w4 ⟨rfl, hb4⟩; have J4 := J3.keep hb4)
    | (go_at_call 88; refine (A3.out _ J2.1).mono ?_; rintro e w3 ⟨rfl, hb3⟩; have J3 := J2.keep hb3; have c0 := J3.2.1 0 _ rfl; have c1 := J3.2.1 1 _ rfl; have c2 := J3.2.1 2 _ rfl; have c3 := J3.2.1 3 _ rfl; have c4 := J3.2.1 4 _ rfl; have c5 := J3.2.1 5 _ rfl; have c6 := J3.2.1 6 _ rfl)
    | (go_at_call 87; refine (A1.out _).mono ?_; rintro e w2 ⟨rfl, hb2⟩; have J2 := J1.keep hb2; have d4 := J2.2.1 4 _ rfl; have d5 := J2.2.2 5 _ rfl)
    | (go_at_call 59; refine (A0.out _).mono ?_; rintro e w1 ⟨rfl, hb1⟩; have J1 := I0.out.keep hb1))
   go_ret
   exact ⟨by rw [HR.out]; rfl, J2.1⟩
  cases x3
  ·have HR : Hid (r = false) := HS2.out.symm
   go_enter Tryz.func44, Tryz.ntmps44
   go_wp2_with (first
    | (go_at_call 89; refine (A4.out _ J3.1 h16 h8).mono ?_; rintro e w4 ⟨rfl, hb4⟩; have J4 := J3.keep hb4)
    | (go_at_call 88; refine (A3.out _ J2.1).mono ?_; rintro e w3 ⟨rfl, hb3⟩; have J3 := J2.keep hb3; have c0 := J3.2.1 0 _ rfl; have c1 := J3.2.1 1 _ rfl; have c2 := J3.2.1 2 _ rfl; have c3 := J3.2.1 3 _ rfl; have c4 := J3.2.1 4 _ rfl; have c5 := J3.2.1 5 _ rfl; have c6 := J3.2.1 6 _ rfl)
    | (go_at_call 87; refine (A1.out _).mono ?_; rintro e w2 ⟨rfl, hb2⟩; have J2 := J1.keep hb2; have d4 := J2.2.1 4 _ rfl; have d5 := J2.2.2 5 _ rfl)
    | (go_at_call 59; refine (A0.out _).mono ?_; rintro e w1 ⟨rfl, hb1⟩; have J1 := I0.out.keep hb1))
   go_ret
   exact ⟨by rw [HR.out]; rfl, J3.1⟩
  ·have HR : Hid (r = x4) := HS2.out.symm
   have h8 := HB8.out rfl
   go_enter Tryz.func44, Tryz.ntmps44
   go_wp2_with (first
    | (go_at_call 89; refine (A4.out _ J3.1 h16 h8).mono ?_; rintro e w4 ⟨rfl, hb4⟩; have J4 := J3.keep hb4)
    | (go_at_call 88; refine (A3.out _ J2.1).mono ?_; rintro e w3 ⟨rfl, hb3⟩; have J3 := J2.keep hb3; have c0 := J3.2.1 0 _ rfl; have c1 := J3.2.1 1 _ rfl; have c2 := J3.2.1 2 _ rfl; have c3 := J3.2.1 3 _ rfl; have c4 := J3.2.1 4 _ rfl; have c5 := J3.2.1 5 _ rfl; have c6 := J3.2.1 6 _ rfl)
    | (go_at_call 87; refine (A1.out _).mono ?_; rintro e w2 ⟨rfl, hb2⟩; have J2 := J1.keep hb2; have d4 := J2.2.1 4 _ rfl; have d5 := J2.2.2 5 _ rfl)
    | (go_at_call 59; refine (A0.out _).mono ?_; rintro e w1 ⟨rfl, hb1⟩; have J1 := I0.out.keep hb1))
   go_ret
   exact ⟨by rw [HR.out]; rfl, J4.1⟩
 ·have d1 : decide (sn ≤ 16) = false := decide_eq_false h16
  have d2 : decide ((sn : Int) ≤ 16) = false := decide_eq_false (by omega)
  rw [d1] at HS2
  have HR : Hid (r = false) := by have := HS2.out; rw [Bool.false_and, Bool.and_false] at this; exact this.symm
  clear A3 A4 HB8
  cases x1
  all_goals
   go_enter Tryz.func44, Tryz.ntmps44
   go_wp2_with (first
    | (go_at_call 89; refine (A4.out _ J3.1 h16 h8).mono ?_; rintro e w4 ⟨rfl, hb4⟩; have J4 := J3.keep hb4)
    | (go_at_call 88; refine (A3.out _ J2.1).mono ?_; rintro e w3 ⟨rfl, hb3⟩; have J3 := J2.keep hb3; have c0 := J3.2.1 0 _ rfl; have c1 := J3.2.1 1 _ rfl; have c2 := J3.2.1 2 _ rfl; have c3 := J3.2.1 3 _ rfl; have c4 := J3.2.1 4 _ rfl; have c5 := J3.2.1 5 _ rfl; have c6 := J3.2.1 6 _ rfl)
    | (go_at_call 87; refine (A1.out _).mono ?_; rintro e w2 ⟨rfl, hb2⟩; have J2 := J1.keep hb2; have d4 := J2.2.1 4 _ rfl; have d5 := J2.2.2 5 _ rfl)
    | (go_at_call 59; refine (A0.out _).mono ?_; rintro e w1 ⟨rfl, hb1⟩; have J1 := I0.out.keep hb1))
   go_ret
   exact ⟨by rw [HR.out]; rfl, J2.1⟩
def wtT (t : TkP) : Int := min (t.bl.length : Int) 100 + min (t.ou.length : Int) 100 + min (t.co.length : Int) 10000 / 20
theorem bulkB_snoc {L : List (List Int)} {l : List Int} {k : Nat} (h : L[k]? = some l) : bulkB (L.take (k + 1)) = bulkB (L.take k) + min (l.length : Int) 100 := by
 rw [take_cat h]; unfold bulkB; simp
theorem bulkT_snoc {L : List TkP} {t : TkP} {k : Nat} (h : L[k]? = some t) : bulkT (L.take (k + 1)) = bulkT (L.take k) + wtT t := by
 rw [take_cat h]; unfold bulkT wtT; simp
theorem bulkB_le (L : List (List Int)) : 0 ≤ bulkB L ∧ bulkB L ≤ 100 * L.length := by
 unfold bulkB
 induction L with
 | nil => simp
 | cons l L ih => simp only [List.map_cons, List.sum_cons, List.length_cons]; omega
theorem bulkT_le (L : List TkP) : 0 ≤ bulkT L ∧ bulkT L ≤ 700 * L.length := by
 unfold bulkT
 induction L with
 | nil => simp
 | cons l L ih => simp only [List.map_cons, List.sum_cons, List.length_cons]; omega
theorem light_any (x : ImV) (m : ImP) (w : World) (h : x.Is w m) (r : Int) (hq : lightE m = r) :
  Calls Tryz.prog 24 #[x.v] w fun e w' => e = .returned (.int .i64 r) ∧ Below w.heap.size w w' := by
 obtain ⟨sw, la, cm, inp, ⟨sa, sn, sc⟩, ⟨ba, bn, bc⟩, ⟨ta, tn, tc⟩⟩ := x
 obtain ⟨-, -, -, -, ⟨hs, hsm⟩, ⟨hb, hbm⟩, ⟨ht, htm⟩⟩ := h
 simp only at hs hsm hb hbm ht htm
 have HLB := Lib.hid hb.1
 have HLT := Lib.hid ht.1
 have hl : lightN m = (sn : Int) + bn + tn := by unfold lightN; rw [hs.1, hb.1, ht.1]
 have hq2 : (if 80 < (sn : Int) + bn + tn then (0 : Int) else if 200 < (sn : Int) + bn + tn + bulkB m.blocks + bulkT m.tasks then 0 else 1) = r := by rw [← hq, ← hl]; rfl
 have k1 : IntKind.i64.wrap ((sn : Int) + (bn : Int)) = (sn : Int) + (bn : Int) := IntWalk.i64_in _ (by omega)
 have k2 : IntKind.i64.wrap ((sn : Int) + (bn : Int) + (tn : Int)) = (sn : Int) + (bn : Int) + (tn : Int) := IntWalk.i64_in _ (by omega)
 have B0 := Lib.hid (below_alloc w (.cells #[.int .i64 sw, .int .i64 la, .int .i64 cm, .int .i64 inp, .slice sa sn sc, .slice ba bn bc, .slice ta tn tc] 26))
 have C0 := Lib.hid (cells_new w #[.int .i64 sw, .int .i64 la, .int .i64 cm, .int .i64 inp, .slice sa sn sc, .slice ba bn bc, .slice ta tn tc] 26)
 have hsz : (w.alloc (.cells #[.int .i64 sw, .int .i64 la, .int .i64 cm, .int .i64 inp, .slice sa sn sc, .slice ba bn bc, .slice ta tn tc] 26)).heap.size = w.heap.size + 1 := by simp
 clear hq hl
 simp only [ImV.v, Sl.v]
 by_cases h80 : 80 < (sn : Int) + bn + tn
 ·rw [if_pos h80] at hq2
  have d1 : decide (80 < (sn : Int) + (bn : Int) + (tn : Int)) = true := decide_eq_true h80
  go_enter Tryz.func24, Tryz.ntmps24
  go_wp2
  go_ret
  exact ⟨by rw [← hq2]; rfl, B0.out⟩
 rw [if_neg h80] at hq2
 have HQ := Lib.hid hq2
 have d1 : decide (80 < (sn : Int) + (bn : Int) + (tn : Int)) = false := decide_eq_false h80
 clear hq2
 go_enter Tryz.func24, Tryz.ntmps24
 go_wp2
 generalize (w.alloc (.cells #[.int .i64 sw, .int .i64 la, .int .i64 cm, .int .i64 inp, .slice sa sn sc, .slice ba bn bc, .slice ta tn tc] 26)) = W0 at *
 have HS0 : Hid ((sn : Int) + bn + tn + bulkB (m.blocks.take 0) = (sn : Int) + bn + tn) := by show _ + bulkB [] = _; unfold bulkB; simp
 have g5 := C0.out 5 _ rfl
 have g6 := C0.out 6 _ rfl
 go_loopw [3, 4] (fun x i wr => ∃ (k : Nat) (v : Int), k ≤ bn ∧ i = .int .i64 k ∧ x = .int .i64 v ∧ Hid ((sn : Int) + bn + tn + bulkB (m.blocks.take k) = v) ∧ Below W0.heap.size W0 wr) (fun _ i _ => bn - (intOf i).toNat)
 case atStart => exact ⟨0, _, by omega, rfl, rfl, HS0, Below.refl _ _⟩
 case round =>
  obtain ⟨k, v, hk, rfl, rfl, HS, hbl⟩ := hrel
  have hblw := keep_below B0.out hbl
  have e5 := keep_cell hbl g5
  have hk2 : 0 ≤ bulkB (m.blocks.take k) ∧ bulkB (m.blocks.take k) ≤ 8000 := by have := bulkB_le (m.blocks.take k); rw [List.length_take] at this; omega
  have hv := HS.out
  by_cases hlt : k < bn
  ·obtain ⟨b1, o1, xa, xn, xc, l, rfl, hB1, hx, hc, hrx, hxm⟩ := (hb.below hblw).item hlt
   have HE := Lib.hid (bulkB_snoc hx)
   have i1 : (0 : Int) ≤ (k : Int) := by omega
   have i2 : (k : Int) < (bn : Int) := by omega
   have hxl := hrx.1
   clear hx hrx
   go_wp2
   go_roundw
   case rel => exact ⟨k + 1, _, by omega, rfl, rfl, by rw [HE.out, ← hv]; exact (Int.add_assoc _ _ _).symm, hbl⟩
   case measure => simp [intOf]; omega
  ·obtain rfl : k = bn := by omega
   have HS1 : Hid ((sn : Int) + k + tn + bulkB m.blocks = v) := by have := HS.out; rw [List.take_of_length_le (by rw [HLB.out]; exact Nat.le_refl _)] at this; exact this
   have HQ2 : Hid ((if 200 < v + bulkT m.tasks then (0 : Int) else 1) = r) := by rw [← HS1.out]; exact HQ.out
   have HS2 : Hid (v + bulkT (m.tasks.take 0) = v) := by show _ + bulkT [] = _; unfold bulkT; simp
   have hv1 : 0 ≤ v ∧ v ≤ 9000 := by omega
   clear HS HS1 hk2 hv HQ
   go_wp2
   go_loopw [3, 5] (fun x i wr => ∃ (q : Nat) (u : Int), q ≤ tn ∧ i = .int .i64 q ∧ x = .int .i64 u ∧ Hid (v + bulkT (m.tasks.take q) = u) ∧ Below W0.heap.size W0 wr) (fun _ i _ => tn - (intOf i).toNat)
   case atStart => exact ⟨0, _, by omega, rfl, rfl, HS2, hbl⟩
   case round =>
    obtain ⟨q, u, hq, rfl, rfl, HS, hbl⟩ := hrel
    have hblw := keep_below B0.out hbl
    have e6 := keep_cell hbl g6
    have hk2 : 0 ≤ bulkT (m.tasks.take q) ∧ bulkT (m.tasks.take q) ≤ 60000 := by have := bulkT_le (m.tasks.take q); rw [List.length_take] at this; omega
    have hu := HS.out
    by_cases hltq : q < tn
    ·obtain ⟨b1, o1, T, xa, xn, xc, oa, on, oc, ca, cn, cc, rfl, hB1, hx, ⟨hX, hXm⟩, ⟨hO, hOm⟩, ⟨hC, hCm⟩, h0, h1, h2, h3, h4, h5, h6⟩ := ht.item hblw hltq
     have HE := Lib.hid (bulkT_snoc hx)
     have HWT : Hid (wtT T = min (xn : Int) 100 + min (on : Int) 100 + min (cn : Int) 10000 / 20) := by unfold wtT; rw [hX.1, hO.1, hC.1]; exact rfl
     have i1 : (0 : Int) ≤ (q : Int) := by omega
     have i2 : (q : Int) < (tn : Int) := by omega
     have B1 := Lib.hid (hbl.alloc hbl.size (.cells #[.int .i64 T.pr, .int .i64 T.pe, .int .i64 T.de, .int .i64 T.ji, .slice xa xn xc, .slice oa on oc, .slice ca cn cc] 59))
     clear hx hX hO hC
     go_wp2
     go_roundw
     case rel => exact ⟨q + 1, _, by omega, rfl, rfl, by rw [HE.out, HWT.out, ← hu]; show _ = _; omega, B1.out⟩
     case measure => simp [intOf]; omega
    ·obtain rfl : q = tn := by omega
     have HQ3 : Hid ((if 200 < u then (0 : Int) else 1) = r) := by have := HS.out; rw [List.take_of_length_le (by rw [HLT.out]; exact Nat.le_refl _)] at this; rw [← this]; exact HQ2.out
     by_cases h2 : 200 < u
     ·have d2 : decide (200 < u) = true := decide_eq_true h2
      have HR : Hid (r = 0) := by have := HQ3.out; rw [if_pos h2] at this; exact this.symm
      go_wp2
      go_ret
      exact ⟨by rw [HR.out]; rfl, hblw⟩
     ·have d2 : decide (200 < u) = false := decide_eq_false h2
      have HR : Hid (r = 1) := by have := HQ3.out; rw [if_neg h2] at this; exact this.symm
      go_wp2
      go_ret
      exact ⟨by rw [HR.out]; rfl, hblw⟩
end Go.Proofs.YtngehojibcmieaaGreatDoor
end
end
