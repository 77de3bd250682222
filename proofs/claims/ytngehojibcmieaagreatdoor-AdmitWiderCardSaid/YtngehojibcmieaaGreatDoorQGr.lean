/- What is proved here: contracts of cost.runnable and cost.reckon. Condition: the table of names holds what its initialiser lays (Nms). contracts of cost.Worst, cost.Best and cost.Straight. rows of pairs, and the contracts of Plain and of Same of the document. Conditions: the rows are not too long. the contract of cost.Sections. -/
import Derived.Test.YtngehojibcmieaaGreatDoorQGq
import Derived.Test.YtngehojibcmieaaGreatDoorQGh
import Derived.Test.YtngehojibcmieaaGreatDoorQGd
import Derived.Deep.RegionLaw
import Derived.Deep.AppendLies
import Derived.RegionTactic
import Derived.ChangeAlike
import Derived.WalkLawsBesides
set_option maxRecDepth 100000
set_option maxHeartbeats 8000000
section
section
namespace Go.Proofs.YtngehojibcmieaaGreatDoor
open Go.ChangeShapes Go.WideShapes Go.RowKit
def mrA (L : List (Int × Int × Int)) : List Int := if rE L = 0 then mL L else []
theorem runnable_any (a : Option Addr) (n c : Nat) (L : List (Int × Int × Int)) (w : World) (hr : RowI w a n L) (hN : Nms w) :
  Calls Tryz.prog 143 #[.slice a n c] w (GotL (mrA L) (rE L) w) := by
 have cl := locks_any a n c L w hr hN
 by_cases h1 : lE L = 0
 ·by_cases h2 : tE L = 0
  ·have hm : mE L = 0 := (wE_zero (lE_zero h1).1).1
   have h3 : rE L = 0 := rE_of h1 h2
   have HQ : Hid (mrA L = mL L) := by show _ = _; unfold mrA; rw [if_pos h3]
   have CS := Lib.hid (fun W (h : Below w.heap.size w W) => h2 ▸ stacks_any a n c L W (hr.below h) (hN.below h))
   have CM := Lib.hid (fun W (h : Below w.heap.size w W) => match_at (c := c) (show mA L = mL L by unfold mA; rw [if_pos hm]) hm W (hr.below h) (hN.below h))
   rw [h1] at cl
   rw [h3]
   have CL := Lib.hid cl
   clear cl hr hN h1 h2 hm h3
   go_enter Tryz.func143, Tryz.ntmps143
   go_wp2_with (first | (go_at_call 151; refine CL.out.mono ?_; rintro e w1 ⟨a1, n1, c1, rfl, hr1, hb1⟩) | (go_at_call 185; refine (CS.out _ (by assumption)).mono ?_; rintro e w2 ⟨a2, n2, c2, rfl, hr2, hb2⟩; have hb3 := keep_below hb1 hb2) | (go_at_call 186; refine (CM.out _ (by assumption)).mono ?_; rintro e w4 ⟨a4, n4, c4, rfl, hr4, hb4⟩))
   go_ret2
   exact ⟨_, _, _, rfl, by rw [HQ.out]; exact hr4, keep_below hb3 hb4⟩
  ·have h3 : rE L = tE L := by unfold rE; rw [if_pos h1]
   have HQ : Hid (mrA L = []) := by show _ = _; unfold mrA; rw [h3, if_neg h2]
   obtain ⟨x, hx⟩ : ∃ x, x = tE L := ⟨_, rfl⟩
   rw [h3, ← hx]
   rw [← hx] at h2
   have CS := Lib.hid (fun W (h : Below w.heap.size w W) => hx ▸ stacks_any a n c L W (hr.below h) (hN.below h))
   rw [h1] at cl
   have CL := Lib.hid cl
   have e1 : (x != 0) = true := by simpa using h2
   have e2 : (x == 0) = false := by simpa using h2
   clear cl hr hN h1 h2 h3 hx
   go_enter Tryz.func143, Tryz.ntmps143
   go_wp2_with (first | (go_at_call 151; refine CL.out.mono ?_; rintro e w1 ⟨a1, n1, c1, rfl, hr1, hb1⟩) | (go_at_call 185; refine (CS.out _ (by assumption)).mono ?_; rintro e w2 ⟨a2, n2, c2, rfl, hr2, hb2⟩; have hb3 := keep_below hb1 hb2))
   go_ret2
   exact ⟨_, _, _, rfl, by rw [HQ.out]; exact Row.nil _ _, hb3⟩
 ·have h3 : rE L = lE L := by unfold rE; rw [if_neg h1]
  have HQ : Hid (mrA L = []) := by show _ = _; unfold mrA; rw [h3, if_neg h1]
  obtain ⟨x, hx⟩ : ∃ x, x = lE L := ⟨_, rfl⟩
  rw [h3, ← hx]
  rw [← hx] at h1 cl
  have CL := Lib.hid cl
  have e1 : (x != 0) = true := by simpa using h1
  have e2 : (x == 0) = false := by simpa using h1
  clear cl hr hN h1 h3 hx
  go_enter Tryz.func143, Tryz.ntmps143
  go_wp2_with (first | (go_at_call 151; refine CL.out.mono ?_; rintro e w1 ⟨a1, n1, c1, rfl, hr1, hb1⟩))
  go_ret2
  exact ⟨_, _, _, rfl, by rw [HQ.out]; exact Row.nil _ _, hb1⟩
def wyL (m : Bool) (L : List (Int × Int × Int)) : List Int := (List.range L.length).map fun p => ((cut (ub m L p) : Nat) : Int)
theorem wyL_len (m : Bool) (L : List (Int × Int × Int)) : (wyL m L).length = L.length := by simp [wyL]
theorem wyL_at {m : Bool} {L : List (Int × Int × Int)} {p : Nat} (h : p < L.length) : (wyL m L).getD p 0 = ((cut (ub m L p) : Nat) : Int) := by simp [wyL, h]
def fwv (m : Bool) (L : List (Int × Int × Int)) (k : Nat) (j : Nat) : Value := if k ≤ j then .int .i64 ((cut (ub m L j) : Nat) : Int) else .int .i64 0
theorem fwv_step {m : Bool} {L : List (Int × Int × Int)} {k : Nat} {v : Int} (h : v = ((cut (ub m L k) : Nat) : Int)) (j : Nat) : (if j = k then Value.int .i64 v else fwv m L (k + 1) j) = fwv m L k j := by
 unfold fwv
 by_cases e : j = k
 ·subst e; rw [if_pos rfl, if_pos (Nat.le_refl _), h]
 ·rw [if_neg e]
  by_cases e2 : k ≤ j
  ·rw [if_pos (by omega), if_pos e2]
  ·rw [if_neg (by omega), if_neg e2]
theorem cut_wc (m : Bool) {L : List (Int × Int × Int)} {p : Nat} (h : p < L.length) : cut (wc m L p) = cut (ub m L p) := by
 unfold wc; rw [cut_wv, ← ub_eq m h]
def yA (m : Bool) (L : List (Int × Int × Int)) : List Int := if cE m L = 0 then wyL m L else []
def GotK (m : Bool) (L : List (Int × Int × Int)) (w : World) (e : Ending) (w' : World) : Prop :=
 ∃ a n c, e = .returned (.tuple #[.int .i64 (cW m L), .slice a n c, .int .i64 (cE m L)]) ∧ Row w' a n (yA m L) ∧ Below w.heap.size w w'
theorem reckon_err (m : Bool) (a : Option Addr) (n c B : Nat) (L : List (Int × Int × Int)) (w : World) (hr : RowI w a n L) (hN : Nms w) (h0 : rE L ≠ 0) :
  Calls Tryz.prog 99 #[.slice a n c, .func (.func 145) #[] #[.pointer (some ⟨B, 0, none⟩)]] w (GotK m L w) := by
 have cr := runnable_any a n c L w hr hN
 have h1 : cE m L = rE L := by rw [cE_eq, if_neg h0]
 have HQ : Hid (cW m L = 0) := by show _ = _; unfold cW; rw [h1, if_neg h0]
 have HY : Hid (yA m L = []) := by show _ = _; unfold yA; rw [h1, if_neg h0]
 unfold GotK
 obtain ⟨x, hx⟩ : ∃ x, x = rE L := ⟨_, rfl⟩
 rw [h1, ← hx]
 rw [← hx] at h0 cr
 have CR := Lib.hid cr
 have e1 : (x != 0) = true := by simpa using h0
 have e2 : (x == 0) = false := by simpa using h0
 clear cr hr hN h0 h1 hx
 go_enter Tryz.func99, Tryz.ntmps99
 go_wp2_with (first | (go_at_call 143; refine CR.out.mono ?_; rintro e w1 ⟨a1, n1, c1, rfl, hr1, hb1⟩))
 go_ret3
 exact ⟨_, _, _, by rw [HQ.out]; rfl, by rw [HY.out]; exact Row.nil _ _, hb1⟩
theorem reckon_ok (m : Bool) (a : Option Addr) (n c B : Nat) (L : List (Int × Int × Int)) (w : World) (hr : RowI w a n L) (hN : Nms w) (hB : w.cell? ⟨B, 0, none⟩ = some (.bool m)) (h0 : rE L = 0) :
  Calls Tryz.prog 99 #[.slice a n c, .func (.func 145) #[] #[.pointer (some ⟨B, 0, none⟩)]] w (GotK m L w) := by
 have cr := runnable_any a n c L w hr hN
 have hw : wE L = 0 := (lE_zero (rE_zero h0).1).1
 rw [h0, show mrA L = mL L by unfold mrA; rw [if_pos h0]] at cr
 have hln := wE_len hw
 rw [← hr.1] at hln
 have HL := Lib.hid hr.1
 have HW := Lib.hid hw
 have H0 := Lib.hid h0
 have CR := Lib.hid cr
 have HB := Lib.hid hB
 have hmk := run_make_row' (P := Tryz.prog) 22 3 (.int .i64 0) 8 Tryz.underlying22 int_info rfl .i64 .i64 n (by omega) (by omega)
 clear cr hN h0 hw hB
 go_enter Tryz.func99, Tryz.ntmps99
 go_wp2_with (first | (go_at_call 143; refine CR.out.mono ?_; rintro e w1 ⟨a1, n1, c1, rfl, hr1, hb1⟩))
 have rA : (w1.alloc (.cells (madeCells #[.int .i64 0] n) 3)).rowIs w1.heap.size 3 n (fun _ => .int .i64 0) := World.rowIs_made w1 _ n 3
 have hbw : Below w1.heap.size w1 (w1.alloc (.cells (madeCells #[.int .i64 0] n) 3)) := below_alloc _ _
 generalize (w1.alloc (.cells (madeCells #[.int .i64 0] n) 3)) = W at rA hbw ⊢
 clear hmk CR
 have hn0 : (0 : Int) < (n : Int) := by omega
 go_wp2
 go_loopw [10] (fun i wr => ∃ k : Nat, k ≤ n ∧ i = .int .i64 ((k : Int) - 1) ∧ wr.rowIs w1.heap.size 3 n (fwv m L k) ∧ Below w1.heap.size w1 wr) (fun i _ => (intOf i + 1).toNat)
 case atStart => exact ⟨n, by omega, by go_num, rA.congr (fun i hi => by unfold fwv; rw [if_neg (by omega)]), hbw⟩
 case round =>
  clear rA hbw
  obtain ⟨k, hk, rfl, rM, hbl⟩ := hrel
  cases k with
  | zero =>
   have R1 : Hid (Row wr (some ⟨w1.heap.size, 0, none⟩) n (wyL m L)) := row_of_is rM (by rw [wyL_len]; exact HL.out) (fun i hi => by unfold fwv; rw [if_pos (Nat.zero_le _), wyL_at (by rw [← HL.out]; exact hi)])
   have c0 := rM.cell (i := 0) (by omega)
   have e0 : fwv m L 0 0 = .int .i64 ((cut (ub m L 0) : Nat) : Int) := by unfold fwv; rw [if_pos (Nat.zero_le _)]
   rw [e0] at c0
   have hcu := cut_le (ub m L 0)
   have hbig : 1048576 < cut (ub m L 0) + 1 ↔ 1048576 < ub m L 0 + 1 := by unfold cut cap; omega
   have hcE := cE_eq m L
   rw [if_pos H0.out] at hcE
   obtain ⟨v, hv⟩ : ∃ v, v = cut (ub m L 0) := ⟨_, rfl⟩
   rw [← hv] at c0 hcu hbig
   unfold cap at hcu
   clear rM e0
   by_cases hlt : 1048576 < v + 1
   ·have hE : cE m L = 4 := by rw [hcE, if_pos (hbig.1 hlt)]
    have HE := Lib.hid hE
    have HQ : Hid (cW m L = 0) := by show _ = _; unfold cW; rw [hE]; rfl
    have HY : Hid (yA m L = []) := by show _ = _; unfold yA; rw [hE]; rfl
    have e5 : decide ((1048576 : Int) < (v : Int) + 1) = true := by simp; omega
    have e6 : decide ((1048576 : Nat) < v + 1) = true := by simp; omega
    clear hv hbig hE hcE hlt
    go_wp2
    go_ret3
    exact ⟨_, _, _, by rw [HE.out, HQ.out]; rfl, by rw [HY.out]; exact Row.nil _ _, keep_below hb1 hbl⟩
   ·have hE : cE m L = 0 := by rw [hcE, if_neg (fun h => hlt (hbig.2 h))]
    have hub : v = ub m L 0 := by rw [hv]; unfold cut cap at *; omega
    have HE := Lib.hid hE
    have HQ : Hid (cW m L = ((v + 1 : Nat) : Int)) := by show _ = _; unfold cW; rw [if_pos hE, hub]
    have HY : Hid (yA m L = wyL m L) := by show _ = _; unfold yA; rw [if_pos hE]
    have e5 : decide ((1048576 : Int) < (v : Int) + 1) = false := by simp; omega
    have e6 : decide ((1048576 : Nat) < v + 1) = false := by simp; omega
    clear hv hbig hE hub hcE hlt
    go_wp2
    go_ret3
    exact ⟨_, _, _, by rw [HE.out, HQ.out]; go_num, by rw [HY.out]; exact R1.out, keep_below hb1 hbl⟩
  | succ k =>
   have hpl : k < L.length := by rw [← HL.out]; omega
   have cw := way_any a a1 n c n1 c1 w1.heap.size B m L k wr (hr.below (keep_below hb1 hbl)) (hr1.below hbl) HW.out (by omega) (fun q h1 h2 => by
    have := rM.cell h2
    unfold fwv at this
    rw [if_pos (by omega)] at this; exact this) (keep_cell (keep_below hb1 hbl) HB.out)
   have hcv : min (1048577 : Int) ((wc m L k : Nat) : Int) = ((cut (ub m L k) : Nat) : Int) := by
    rw [← cut_wc m hpl]; unfold cut cap; omega
   obtain ⟨r, hrr⟩ : ∃ r, r = wc m L k := ⟨_, rfl⟩
   rw [← hrr] at cw hcv
   obtain ⟨v, hv⟩ : ∃ v : Int, v = ((cut (ub m L k) : Nat) : Int) := ⟨_, rfl⟩
   rw [← hv] at hcv
   have HV := Lib.hid hv
   have CW := Lib.hid cw
   clear hrr hv cw hpl
   have hkn : k < n := by omega
   go_wp2_with (first | (go_at_call 144; refine CW.out.mono ?_; rintro e w9 ⟨rfl, hb9⟩; have rM9 := keep_rowIs hb9 rM; have hbl9 := keep_below hbl hb9; have m1 := rM9.cell hkn; have m2 := rM9.frozen k; have hMl := rM9.lt))
   go_roundw
   case rel => exact ⟨k, by omega, by go_num, (rM9.set k (.int .i64 v)).congr (fun j _ => fwv_step HV.out j), hbl9.setCell (p := ⟨w1.heap.size, k, none⟩) (Nat.le_refl _) _⟩
   case measure => simp [intOf]
theorem reckon_any (m : Bool) (a : Option Addr) (n c B : Nat) (L : List (Int × Int × Int)) (w : World) (hr : RowI w a n L) (hN : Nms w) (hB : w.cell? ⟨B, 0, none⟩ = some (.bool m)) :
  Calls Tryz.prog 99 #[.slice a n c, .func (.func 145) #[] #[.pointer (some ⟨B, 0, none⟩)]] w (GotK m L w) := by
 by_cases h0 : rE L = 0
 ·exact reckon_ok m a n c B L w hr hN hB h0
 ·exact reckon_err m a n c B L w hr hN h0
theorem worst_any (a : Option Addr) (n c : Nat) (L : List (Int × Int × Int)) (w : World) (hr : RowI w a n L) (hN : Nms w) :
  Calls Tryz.prog 50 #[.slice a n c] w fun e w' => e = .returned (.tuple #[.int .i64 (cW true L), .int .i64 (cE true L)]) ∧ Below w.heap.size w w' := by
 have CB := Lib.hid (fun W => better_any true W)
 have CK := Lib.hid (fun W B (g : Below w.heap.size w W) (h : W.cell? ⟨B, 0, none⟩ = some (.bool true)) => reckon_any true a n c B L W (hr.below g) (hN.below g) h)
 clear hr hN
 go_enter Tryz.func50, Tryz.ntmps50
 go_wp2_with (first | (go_at_call 100; refine (CB.out _).mono ?_; rintro e w1 ⟨B, rfl, hB1, hB2, hb1⟩) | (go_at_call 99; refine (CK.out _ _ hb1 hB2).mono ?_; rintro e w2 ⟨a2, n2, c2, rfl, hr2, hb2⟩))
 go_ret2
 exact ⟨rfl, keep_below hb1 hb2⟩
def pairC (l : List (Int × Int)) : List Value := l.flatMap fun x => [.int .i64 x.1, .int .i64 x.2]
theorem pairC_snoc (l : List (Int × Int)) (x y : Int) : pairC (l ++ [(x, y)]) = pairC l ++ [.int .i64 x, .int .i64 y] := by simp [pairC]
theorem pairC_len (l : List (Int × Int)) : (pairC l).length = l.length * 2 := by
 induction l with
 | nil => rfl
 | cons x l ih => simp only [pairC, List.flatMap_cons, List.length_append, List.length_cons, List.length_nil] at ih ⊢; omega
def RowP (w : World) (a : Option Addr) (n : Nat) (l : List (Int × Int)) : Prop :=
 n = l.length ∧ (0 < n → ∃ b off, a = some ⟨b, off, none⟩ ∧ b < w.heap.size ∧ ∀ i, i < n → w.cell? ⟨b, off + i * 2, none⟩ = some (.int .i64 (l.getD i (0, 0)).1) ∧ w.cell? ⟨b, off + i * 2 + 1, none⟩ = some (.int .i64 (l.getD i (0, 0)).2))
theorem RowP.below {w w' : World} {a : Option Addr} {n : Nat} {l : List (Int × Int)} (h : RowP w a n l) (hb : Below w.heap.size w w') : RowP w' a n l := by
 refine ⟨h.1, fun hn => ?_⟩
 obtain ⟨b, off, e, hlt, hc⟩ := h.2 hn
 exact ⟨b, off, e, Nat.lt_of_lt_of_le hlt hb.size, fun i hi => ⟨keep_cell hb (hc i hi).1, keep_cell hb (hc i hi).2⟩⟩
theorem pairC_at (l : List (Int × Int)) (i : Nat) (h : i < l.length) : (pairC l)[i * 2]? = some (.int .i64 (l.getD i (0, 0)).1) ∧ (pairC l)[i * 2 + 1]? = some (.int .i64 (l.getD i (0, 0)).2) := by
 induction l generalizing i with
 | nil => simp at h
 | cons x l ih =>
  rcases i with _ | i
  ·simp [pairC]
  ·have := ih i (by simpa using h)
   have e : pairC (x :: l) = .int .i64 x.1 :: .int .i64 x.2 :: pairC l := rfl
   rw [e, show (i + 1) * 2 = i * 2 + 1 + 1 by omega, show i * 2 + 1 + 1 + 1 = (i * 2 + 1) + 1 + 1 by omega]
   simpa using this
theorem RowP.own {w : World} {base e : Nat} {v : Value} {m : Nat} {l : List (Int × Int)} (h : w.ownsRow base e 2 v m (pairC l)) : ∃ a c, v = .slice a m c ∧ RowP w a m l := by
 have hl := h.1
 rw [pairC_len] at hl
 have hm : m = l.length := by omega
 rcases h.2 with ⟨h1, h2⟩ | ⟨g, cap, cur, h1, h2, h3, h4⟩
 ·subst h2; exact ⟨none, 0, h1, hm, fun h => absurd h (by omega)⟩
 ·subst h1
  have hlt := (h.lt g rfl).2
  refine ⟨_, cap, rfl, hm, fun _ => ⟨g, 0, rfl, hlt, fun i hi => ?_⟩⟩
  obtain ⟨k1, k2⟩ := pairC_at l i (by omega)
  rw [show 0 + i * 2 = i * 2 by omega, h.cellAt (i * 2) (by omega), h.cellAt (i * 2 + 1) (by omega)]
  exact ⟨k1, k2⟩
theorem RowP.ownN {w : World} {base e : Nat} {v : Value} {m : Nat} {l : List (Int × Int)} (h : w.ownsRow base e 2 v m (pairC l)) : ∃ a c, v = .slice a m c ∧ RowP w a m l ∧ ∀ p, a = some p → base ≤ p.block ∧ p.block < w.heap.size := by
 obtain ⟨a, c, hv, hr⟩ := RowP.own h
 refine ⟨a, c, hv, hr, fun p hp => ?_⟩
 obtain ⟨b, o, x⟩ := p
 rcases h.2 with ⟨h1, h2⟩ | ⟨g, cap, cur, h1, h2, h3, h4⟩
 ·rw [h1, hp] at hv; simp at hv
 ·rw [h1, hp] at hv
  simp at hv
  have := h.lt g (by rw [h1]; rfl)
  rw [← hv.1.1]; exact this
theorem RowP.at_ {w : World} {a : Option Addr} {n k : Nat} {l : List (Int × Int)} (h : RowP w a n l) (hk : k < n) : ∃ b off x y, a = some ⟨b, off, none⟩ ∧ b < w.heap.size ∧ l[k]? = some (x, y) ∧
  w.cell? ⟨b, off + k * 2, none⟩ = some (.int .i64 x) ∧ w.cell? ⟨b, off + k * 2 + 1, none⟩ = some (.int .i64 y) := by
 obtain ⟨b, off, e, hlt, hc⟩ := h.2 (by omega)
 obtain ⟨h1, h2⟩ := hc k hk
 have hl : k < l.length := by have := h.1; omega
 refine ⟨b, off, (l.getD k (0, 0)).1, (l.getD k (0, 0)).2, e, hlt, ?_, h1, h2⟩
 simp [hl]
theorem sec_info : (Tryz.prog.info? 174).map (fun i => (i.zero, i.size, i.bytes)) = some (some (.agg #[.int .i64 0, .int .i64 0]), 2, 16) := by kernel_rfl
theorem parts_info {i : Option TypeInfo} {z : Value} {s b : Nat} (h : i.map (fun i => (i.zero, i.size, i.bytes)) = some (some z, s, b)) : ∃ j, i = some j ∧ j.zero = some z ∧ j.size = s ∧ j.bytes = b := by
 obtain ⟨j, hj, e⟩ := Option.map_eq_some_iff.1 h
 simp only [Prod.mk.injEq] at e
 exact ⟨j, hj, e.1, e.2.1, e.2.2⟩
def GotP (l : List (Int × Int)) (x : Int) (w : World) (e : Ending) (w' : World) : Prop :=
 ∃ a n c, e = .returned (.tuple #[.slice a n c, .int .i64 x]) ∧ RowP w' a n l ∧ Below w.heap.size w w' ∧ ∀ p, a = some p → w.heap.size ≤ p.block ∧ p.block < w'.heap.size
theorem RowP.nil (w : World) (a : Option Addr) : RowP w a 0 [] := ⟨rfl, fun h => absurd h (by omega)⟩
theorem lock_next {L : List (Int × Int × Int)} (hw : wE L = 0) {k : Nat} (h : (at_ L k).1 = 23) : k + 1 < L.length := by
 obtain ⟨d, _, h2, h3, _⟩ := (mE_zero (wE_zero hw).1).2.opn (p := k) (by unfold opn; rw [h]; rfl)
 omega
theorem sections_any (a : Option Addr) (n c : Nat) (L : List (Int × Int × Int)) (w : World) (hr : RowI w a n L) (hN : Nms w) :
  Calls Tryz.prog 110 #[.slice a n c] w (GotP (sA L) (cE true L) w) := by
 have CB := Lib.hid (fun W => better_any true W)
 have ck := (fun W B (g : Below w.heap.size w W) (h : W.cell? ⟨B, 0, none⟩ = some (.bool true)) => reckon_any true a n c B L W (hr.below g) (hN.below g) h)
 unfold GotP
 by_cases h0 : cE true L = 0
 ·have HS : Hid (sA L = sec L L.length) := by show _ = _; unfold sA; rw [if_pos h0]
  unfold GotK at ck
  rw [h0, show yA true L = wyL true L by unfold yA; rw [if_pos h0]] at ck
  have CK := Lib.hid ck
  have H0 := Lib.hid h0
  have hw : wE L = 0 := (lE_zero (rE_zero (cE_zero h0).1).1).1
  have hln := wE_len hw
  rw [← hr.1] at hln
  have hn2 := hln.2
  have HW := Lib.hid hw
  have HL := Lib.hid hr.1
  obtain ⟨i0, hi, hz0, hz1, hz2⟩ := parts_info sec_info
  clear hN ck h0 hw hln
  go_enter Tryz.func110, Tryz.ntmps110
  go_wp2_with (first | (go_at_call 100; refine (CB.out _).mono ?_; rintro e w1 ⟨B, rfl, hB1, hB2, hb1⟩) | (go_at_call 99; refine (CK.out _ _ hb1 hB2).mono ?_; rintro e w2 ⟨a2, n2, c2, rfl, hr2, hb2⟩; have hb3 := keep_below hb1 hb2))
  have HN2 : Hid (n2 = n) := by show _ = _; have := hr2.1; rw [wyL_len, ← HL.out] at this; exact this
  clear hb1 hb2 CB CK hB1 hB2
  go_loopw [7, 22] (fun s i wr => ∃ k : Nat, k ≤ n ∧ i = .int .i64 k ∧ wr.ownsRow w2.heap.size 174 2 s (sec L k).length (pairC (sec L k)) ∧ Below w2.heap.size w2 wr) (fun _ i _ => n - (intOf i).toNat)
  case atStart => exact ⟨0, by omega, rfl, World.ownsRow_nil _ _ _ _, Below.refl _ _⟩
  case round =>
   obtain ⟨k, hk, rfl, hown, hbl⟩ := hrel
   have hbs := hbl.size
   by_cases hlt : k < n
   ·obtain ⟨b1, o1, p1, p2, p3, rfl, hB1, hx, hc1, hc2, hc3⟩ := (hr.below (keep_below hb3 hbl)).at_ hlt
    have HX := Lib.hid (at_some hx)
    clear hx
    by_cases h23 : p1 = 23
    ·subst h23
     have hk1 : k + 1 < n := by rw [HL.out]; exact lock_next HW.out (by rw [HX.out])
     obtain ⟨b2, o2, ha2, hB2, hcs⟩ := (hr2.below hbl).2 (by rw [HN2.out]; omega)
     have d1 := hcs (k + 1) (by rw [HN2.out]; exact hk1)
     rw [wyL_at (by rw [← HL.out]; exact hk1)] at d1
     subst ha2
     obtain ⟨v, hv⟩ : ∃ v, v = cut (ub true L (k + 1)) := ⟨_, rfl⟩
     rw [← hv] at d1
     have hvb : v ≤ 1048577 := by rw [hv]; exact cut_le _
     have HE : Hid (sec L (k + 1) = sec L k ++ [(p2, (v : Int) + 1)]) := by show _ = _; rw [sec, if_pos (by rw [HX.out]), HX.out, ← hv]; rfl
     have i1 : (0 : Int) ≤ (k : Int) + 1 := by omega
     have i2 : (k : Int) + 1 < (n2 : Int) := by rw [HN2.out]; omega
     have w1' : IntKind.i64.wrap ((k : Int) + 1) = (k : Int) + 1 := IntWalk.i64_in _ (by omega)
     have w2' : IntKind.i64.wrap ((v : Int) + 1) = (v : Int) + 1 := IntWalk.i64_in _ (by omega)
     have gO : (((wr.alloc (.cells #[.int .i64 23, .int .i64 p2, .int .i64 p3] 103)).alloc (.cells #[.int .i64 p2, .int .i64 ((v : Int) + 1)] 174)).drew).ownsRow w2.heap.size 174 2 u7 (sec L k).length (pairC (sec L k)) := (hown.alloc _).alloc _
     have hnews : ∀ j u, ([.int .i64 p2, .int .i64 ((v : Int) + 1)] : List Value)[j]? = some u → (((wr.alloc (.cells #[.int .i64 23, .int .i64 p2, .int .i64 p3] 103)).alloc (.cells #[.int .i64 p2, .int .i64 ((v : Int) + 1)] 174)).drew).cell? ((⟨wr.heap.size + 1, 0, none⟩ : Addr).add j) = some u := by
      intro j u hj
      have hs1 : (wr.alloc (.cells #[.int .i64 23, .int .i64 p2, .int .i64 p3] 103)).heap.size = wr.heap.size + 1 := by simp
      rw [← hs1]
      exact World.news_of_block (new_block (wr.alloc (.cells #[.int .i64 23, .int .i64 p2, .int .i64 p3] 103)) (.cells #[.int .i64 p2, .int .i64 ((v : Int) + 1)] 174)) j u hj
     have hone : ∀ u ∈ ([.int .i64 p2, .int .i64 ((v : Int) + 1)] : List Value), u.oneCell' = true := by intro u hu; simp at hu; rcases hu with rfl | rfl <;> rfl
     have hsl := sec_len L k
     have h63 : (sec L k).length + 1 ≤ maxLen := by unfold maxLen; omega
     have hH : (((wr.alloc (.cells #[.int .i64 23, .int .i64 p2, .int .i64 p3] 103)).alloc (.cells #[.int .i64 p2, .int .i64 ((v : Int) + 1)] 174)).drew).heap.size = wr.heap.size + 2 := by simp [World.drew]
     have G1 : Below w2.heap.size w2 (((wr.alloc (.cells #[.int .i64 23, .int .i64 p2, .int .i64 p3] 103)).alloc (.cells #[.int .i64 p2, .int .i64 ((v : Int) + 1)] 174)).drew) := ((hbl.alloc hbs _).alloc (by simp; omega) _).drew
     have k0 := new_block wr (.cells #[.int .i64 23, .int .i64 p2, .int .i64 p3] 103)
     have c1 := (Lib.cell_of_heap k0 1).trans (rfl : _ = some (Value.int .i64 p2))
     have e1 := keep_cell (below_alloc wr (.cells #[.int .i64 23, .int .i64 p2, .int .i64 p3] 103)) d1
     clear hr hbl hv HX hcs k0
     obtain ⟨m, hm⟩ : ∃ m, m = (sec L k).length := ⟨_, rfl⟩
     obtain ⟨S, hS⟩ : ∃ S, S = sec L k := ⟨_, rfl⟩
     rw [← hm, ← hS] at gO
     rw [← hm] at h63 hsl
     have HM : Hid (m = S.length) := by show _ = _; rw [hm, hS]
     have HE2 : Hid (sec L (k + 1) = S ++ [(p2, (v : Int) + 1)]) := by show _ = _; rw [HE.out, hS]
     clear hm hS HE hown
     go_wp2_with fail
     go_region_law (refine step_append_lies _ rfl (.tmp 30) (.tmp 40) 170 rfl w2.heap.size 174 i0 (.agg #[.int .i64 0, .int .i64 0]) 2 16 Tryz.underlying170 hi hz0 hz1 hz2 rfl (by decide) u7 m (pairC S) (by simp [Act.eval]) gO ⟨wr.heap.size + 1, 0, none⟩ 1 1 [.int .i64 p2, .int .i64 ((v : Int) + 1)] (by simp [Act.eval]) rfl hnews hone (by omega) h63 (by omega) (by omega) _ hH ?_; intro g cap w4 hown3 hgrow hat hltg)
     all_goals
      have hb5 : Below w2.heap.size w2 w4 := G1.grown hgrow (by omega) (fun g hg => (gO.lt g hg).1)
      have hO5 : w4.ownsRow w2.heap.size 174 2 (.slice (some ⟨g, 0, none⟩) (m + 1) cap) (sec L (k + 1)).length (pairC (sec L (k + 1))) := by rw [HE2.out, pairC_snoc, List.length_append, ← HM.out]; exact hown3
      clear gO hown3 hnews hone hgrow hat G1
      go_wp2
      go_roundw
      case rel => exact ⟨k + 1, by omega, by go_num, hO5, hb5⟩
      case measure => simp [intOf]; omega
    ·have e23 : (p1 == 23) = false := by rw [beq_eq_false_iff_ne]; exact h23
     have hO5 : ((wr.alloc (.cells #[.int .i64 p1, .int .i64 p2, .int .i64 p3] 103))).ownsRow w2.heap.size 174 2 u7 (sec L (k + 1)).length (pairC (sec L (k + 1))) := by
      rw [sec, if_neg (by rw [HX.out]; exact h23)]; exact hown.alloc _
     have hb5 : Below w2.heap.size w2 (wr.alloc (.cells #[.int .i64 p1, .int .i64 p2, .int .i64 p3] 103)) := hbl.alloc hbs _
     clear h23 hown
     go_wp2
     go_roundw
     case rel => exact ⟨k + 1, by omega, by go_num, hO5, hb5⟩
     case measure => simp [intOf]; omega
   ·obtain rfl : k = n := by omega
    obtain ⟨a', c', rfl, hP, hN'⟩ := RowP.ownN hown
    have hNn := Lib.hid hN'
    have hb3s := hb3.size
    clear hN'
    have HP : Hid (RowP wr a' (sec L k).length (sA L)) := by show RowP _ _ _ _; rw [HS.out, ← HL.out]; exact hP
    clear hown hP
    go_wp2
    go_ret2
    exact ⟨_, _, _, by rw [H0.out]; rfl, HP.out, keep_below hb3 hbl, fun p hp => ⟨Nat.le_trans hb3s (hNn.out p hp).1, (hNn.out p hp).2⟩⟩
 ·have HS : Hid (sA L = []) := by show _ = _; unfold sA; rw [if_neg h0]
  unfold GotK at ck
  rw [show yA true L = [] by unfold yA; rw [if_neg h0]] at ck
  obtain ⟨x, hx⟩ : ∃ x, x = cE true L := ⟨_, rfl⟩
  rw [← hx] at ck h0 ⊢
  have e1 : (x != 0) = true := by simpa using h0
  have e2 : (x == 0) = false := by simpa using h0
  have CK := Lib.hid ck
  clear ck hr hN hx h0
  go_enter Tryz.func110, Tryz.ntmps110
  go_wp2_with (first | (go_at_call 100; refine (CB.out _).mono ?_; rintro e w1 ⟨B, rfl, hB1, hB2, hb1⟩) | (go_at_call 99; refine (CK.out _ _ hb1 hB2).mono ?_; rintro e w2 ⟨a2, n2, c2, rfl, hr2, hb2⟩; have hb3 := keep_below hb1 hb2))
  go_ret2
  exact ⟨_, _, _, rfl, by rw [HS.out]; exact RowP.nil _ _, hb3, fun p hp => by cases hp⟩
end Go.Proofs.YtngehojibcmieaaGreatDoor
end
end
