/- What is proved here: contracts of cost.runnable and cost.reckon. Condition: the table of names holds what its initialiser lays (Nms). -/
import Derived.Test.YtacgnofmccennaaGreatDoorCw2
import Derived.Test.YtacgnofmccennaaGreatDoorGm
import Derived.Test.YtacgnofmccennaaGreatDoorGt
namespace Go.Proofs.YtacgnofmccennaaGreatDoor
open Go.ChangeShapes Go.WideShapes Go.RowKit

/-- The matches of a row that can run, or nothing. -/
def mrA (L : List (Int × Int × Int)) : List Int := if rE L = 0 then mL L else []
theorem runnable_any (a : Option Addr) (n c : Nat) (L : List (Int × Int × Int)) (w : World) (hr : RowI w a n L) (hN : Nms w) :
    Calls Tryz.prog 61 #[.slice a n c] w (GotL (mrA L) (rE L) w) := by
  have cl := locks_any a n c L w hr hN
  by_cases h1 : lE L = 0
  · by_cases h2 : tE L = 0
    · have hm : mE L = 0 := (wE_zero (lE_zero h1).1).1
      have h3 : rE L = 0 := rE_of h1 h2
      have HQ : Hid (mrA L = mL L) := by show _ = _; unfold mrA; rw [if_pos h3]
      have CS := Lib.hid (fun W (h : Below w.heap.size w W) => h2 ▸ stacks_any a n c L W (hr.below h) (hN.below h))
      have CM := Lib.hid (fun W (h : Below w.heap.size w W) => match_at (c := c) (show mA L = mL L by unfold mA; rw [if_pos hm]) hm W (hr.below h) (hN.below h))
      rw [h1] at cl
      rw [h3]
      have CL := Lib.hid cl
      clear cl hr hN h1 h2 hm h3
      go_enter Tryz.func61, Tryz.ntmps61
      go_wp2_with (first | (go_at_call 16; refine CL.out.mono ?_; rintro e w1 ⟨a1, n1, c1, rfl, hr1, hb1⟩) | (go_at_call 17; refine (CS.out _ (by assumption)).mono ?_; rintro e w2 ⟨a2, n2, c2, rfl, hr2, hb2⟩; have hb3 := keep_below hb1 hb2) | (go_at_call 69; refine (CM.out _ (by assumption)).mono ?_; rintro e w4 ⟨a4, n4, c4, rfl, hr4, hb4⟩))
      go_ret2
      exact ⟨_, _, _, rfl, by rw [HQ.out]; exact hr4, keep_below hb3 hb4⟩
    · have h3 : rE L = tE L := by unfold rE; rw [if_pos h1]
      have HQ : Hid (mrA L = []) := by show _ = _; unfold mrA; rw [h3, if_neg h2]
      obtain ⟨x, hx⟩ : ∃ x, x = tE L := ⟨_, rfl⟩
      rw [h3, ← hx]
      rw [← hx] at h2
      have CS := Lib.hid (fun W (h : Below w.heap.size w W) => hx ▸ stacks_any a n c L W (hr.below h) (hN.below h))
      rw [h1] at cl
      have CL := Lib.hid cl
      have e1 : (x != 0) = true := by simpa using h2
      have e2 : (x == 0) = false := by simpa using h2
      clear cl hr hN h1 h2 h3 hx
      go_enter Tryz.func61, Tryz.ntmps61
      go_wp2_with (first | (go_at_call 16; refine CL.out.mono ?_; rintro e w1 ⟨a1, n1, c1, rfl, hr1, hb1⟩) | (go_at_call 17; refine (CS.out _ (by assumption)).mono ?_; rintro e w2 ⟨a2, n2, c2, rfl, hr2, hb2⟩; have hb3 := keep_below hb1 hb2))
      go_ret2
      exact ⟨_, _, _, rfl, by rw [HQ.out]; exact Row.nil _ _, hb3⟩
  · have h3 : rE L = lE L := by unfold rE; rw [if_neg h1]
    have HQ : Hid (mrA L = []) := by show _ = _; unfold mrA; rw [h3, if_neg h1]
    obtain ⟨x, hx⟩ : ∃ x, x = lE L := ⟨_, rfl⟩
    rw [h3, ← hx]
    rw [← hx] at h1 cl
    have CL := Lib.hid cl
    have e1 : (x != 0) = true := by simpa using h1
    have e2 : (x == 0) = false := by simpa using h1
    clear cl hr hN h1 h3 hx
    go_enter Tryz.func61, Tryz.ntmps61
    go_wp2_with (first | (go_at_call 16; refine CL.out.mono ?_; rintro e w1 ⟨a1, n1, c1, rfl, hr1, hb1⟩))
    go_ret2
    exact ⟨_, _, _, rfl, by rw [HQ.out]; exact Row.nil _ _, hb1⟩

/-- The steps from each place, cut off. -/
def wyL (m : Bool) (L : List (Int × Int × Int)) : List Int := (List.range L.length).map fun p => ((cut (ub m L p) : Nat) : Int)
theorem wyL_len (m : Bool) (L : List (Int × Int × Int)) : (wyL m L).length = L.length := by simp [wyL]
theorem wyL_at {m : Bool} {L : List (Int × Int × Int)} {p : Nat} (h : p < L.length) : (wyL m L).getD p 0 = ((cut (ub m L p) : Nat) : Int) := by simp [wyL, h]
/-- The cells, when those from a place on are laid. -/
def fwv (m : Bool) (L : List (Int × Int × Int)) (k : Nat) (j : Nat) : Value := if k ≤ j then .int .i64 ((cut (ub m L j) : Nat) : Int) else .int .i64 0
theorem fwv_step {m : Bool} {L : List (Int × Int × Int)} {k : Nat} {v : Int} (h : v = ((cut (ub m L k) : Nat) : Int)) (j : Nat) : (if j = k then Value.int .i64 v else fwv m L (k + 1) j) = fwv m L k j := by
  unfold fwv
  by_cases e : j = k
  · subst e; rw [if_pos rfl, if_pos (Nat.le_refl _), h]
  · rw [if_neg e]
    by_cases e2 : k ≤ j
    · rw [if_pos (by omega), if_pos e2]
    · rw [if_neg (by omega), if_neg e2]
theorem cut_wc (m : Bool) {L : List (Int × Int × Int)} {p : Nat} (h : p < L.length) : cut (wc m L p) = cut (ub m L p) := by
  unfold wc; rw [cut_wv, ← ub_eq m h]
/-- The row of the steps, or nothing. -/
def yA (m : Bool) (L : List (Int × Int × Int)) : List Int := if cE m L = 0 then wyL m L else []
/-- What reckon leaves. -/
def GotK (m : Bool) (L : List (Int × Int × Int)) (w : World) (e : Ending) (w' : World) : Prop :=
  ∃ a n c, e = .returned (.tuple #[.int .i64 (cW m L), .slice a n c, .int .i64 (cE m L)]) ∧ Row w' a n (yA m L) ∧ Below w.heap.size w w'
theorem reckon_err (m : Bool) (a : Option Addr) (n c B : Nat) (L : List (Int × Int × Int)) (w : World) (hr : RowI w a n L) (hN : Nms w) (h0 : rE L ≠ 0) :
    Calls Tryz.prog 20 #[.slice a n c, .func (.func 63) #[] #[.pointer (some ⟨B, 0, none⟩)]] w (GotK m L w) := by
  have cr := runnable_any a n c L w hr hN
  have h1 : cE m L = rE L := by rw [cE_eq, if_neg h0]
  have HQ : Hid (cW m L = 0) := by show _ = _; unfold cW; rw [h1, if_neg h0]
  have HY : Hid (yA m L = []) := by show _ = _; unfold yA; rw [h1, if_neg h0]
  unfold GotK
  obtain ⟨x, hx⟩ : ∃ x, x = rE L := ⟨_, rfl⟩
  rw [h1, ← hx]
  rw [← hx] at h0 cr
  have CR := Lib.hid cr
  have e1 : (x != 0) = true := by simpa using h0
  have e2 : (x == 0) = false := by simpa using h0
  clear cr hr hN h0 h1 hx
  go_enter Tryz.func20, Tryz.ntmps20
  go_wp2_with (first | (go_at_call 61; refine CR.out.mono ?_; rintro e w1 ⟨a1, n1, c1, rfl, hr1, hb1⟩))
  go_ret3
  exact ⟨_, _, _, by rw [HQ.out]; rfl, by rw [HY.out]; exact Row.nil _ _, hb1⟩
set_option maxHeartbeats 2000000 in
set_option maxRecDepth 100000 in
theorem reckon_ok (m : Bool) (a : Option Addr) (n c B : Nat) (L : List (Int × Int × Int)) (w : World) (hr : RowI w a n L) (hN : Nms w) (hB : w.cell? ⟨B, 0, none⟩ = some (.bool m)) (h0 : rE L = 0) :
    Calls Tryz.prog 20 #[.slice a n c, .func (.func 63) #[] #[.pointer (some ⟨B, 0, none⟩)]] w (GotK m L w) := by
  have cr := runnable_any a n c L w hr hN
  have hw : wE L = 0 := (lE_zero (rE_zero h0).1).1
  rw [h0, show mrA L = mL L by unfold mrA; rw [if_pos h0]] at cr
  have hln := wE_len hw
  rw [← hr.1] at hln
  have HL := Lib.hid hr.1
  have HW := Lib.hid hw
  have H0 := Lib.hid h0
  have CR := Lib.hid cr
  have HB := Lib.hid hB
  have hmk := run_make_row' (P := Tryz.prog) 39 3 (.int .i64 0) 8 Tryz.underlying39 int_info rfl .i64 .i64 n (by omega) (by omega)
  clear cr hN h0 hw hB
  go_enter Tryz.func20, Tryz.ntmps20
  go_wp2_with (first | (go_at_call 61; refine CR.out.mono ?_; rintro e w1 ⟨a1, n1, c1, rfl, hr1, hb1⟩))
  have rA : (w1.alloc (.cells (madeCells #[.int .i64 0] n) 3)).rowIs w1.heap.size 3 n (fun _ => .int .i64 0) := World.rowIs_made w1 _ n 3
  have hbw : Below w1.heap.size w1 (w1.alloc (.cells (madeCells #[.int .i64 0] n) 3)) := below_alloc _ _
  generalize (w1.alloc (.cells (madeCells #[.int .i64 0] n) 3)) = W at rA hbw ⊢
  clear hmk CR
  have hn0 : (0 : Int) < (n : Int) := by omega
  go_wp2
  go_loopw [10] (fun i wr => ∃ k : Nat, k ≤ n ∧ i = .int .i64 ((k : Int) - 1) ∧ wr.rowIs w1.heap.size 3 n (fwv m L k) ∧ Below w1.heap.size w1 wr) (fun i _ => (intOf i + 1).toNat)
  case atStart => exact ⟨n, by omega, by go_num, rA.congr (fun i hi => by unfold fwv; rw [if_neg (by omega)]), hbw⟩
  case round =>
    clear rA hbw
    obtain ⟨k, hk, rfl, rM, hbl⟩ := hrel
    cases k with
    | zero =>
      have R1 : Hid (Row wr (some ⟨w1.heap.size, 0, none⟩) n (wyL m L)) := row_of_is rM (by rw [wyL_len]; exact HL.out) (fun i hi => by unfold fwv; rw [if_pos (Nat.zero_le _), wyL_at (by rw [← HL.out]; exact hi)])
      have c0 := rM.cell (i := 0) (by omega)
      have e0 : fwv m L 0 0 = .int .i64 ((cut (ub m L 0) : Nat) : Int) := by unfold fwv; rw [if_pos (Nat.zero_le _)]
      rw [e0] at c0
      have hcu := cut_le (ub m L 0)
      have hbig : 1048576 < cut (ub m L 0) + 1 ↔ 1048576 < ub m L 0 + 1 := by unfold cut cap; omega
      have hcE := cE_eq m L
      rw [if_pos H0.out] at hcE
      obtain ⟨v, hv⟩ : ∃ v, v = cut (ub m L 0) := ⟨_, rfl⟩
      rw [← hv] at c0 hcu hbig
      unfold cap at hcu
      clear rM e0
      by_cases hlt : 1048576 < v + 1
      · have hE : cE m L = 4 := by rw [hcE, if_pos (hbig.1 hlt)]
        have HE := Lib.hid hE
        have HQ : Hid (cW m L = 0) := by show _ = _; unfold cW; rw [hE]; rfl
        have HY : Hid (yA m L = []) := by show _ = _; unfold yA; rw [hE]; rfl
        have e5 : decide ((1048576 : Int) < (v : Int) + 1) = true := by simp; omega
        have e6 : decide ((1048576 : Nat) < v + 1) = true := by simp; omega
        clear hv hbig hE hcE hlt
        go_wp2
        go_ret3
        exact ⟨_, _, _, by rw [HE.out, HQ.out]; rfl, by rw [HY.out]; exact Row.nil _ _, keep_below hb1 hbl⟩
      · have hE : cE m L = 0 := by rw [hcE, if_neg (fun h => hlt (hbig.2 h))]
        have hub : v = ub m L 0 := by rw [hv]; unfold cut cap at *; omega
        have HE := Lib.hid hE
        have HQ : Hid (cW m L = ((v + 1 : Nat) : Int)) := by show _ = _; unfold cW; rw [if_pos hE, hub]
        have HY : Hid (yA m L = wyL m L) := by show _ = _; unfold yA; rw [if_pos hE]
        have e5 : decide ((1048576 : Int) < (v : Int) + 1) = false := by simp; omega
        have e6 : decide ((1048576 : Nat) < v + 1) = false := by simp; omega
        clear hv hbig hE hub hcE hlt
        go_wp2
        go_ret3
        exact ⟨_, _, _, by rw [HE.out, HQ.out]; go_num, by rw [HY.out]; exact R1.out, keep_below hb1 hbl⟩
    | succ k =>
      have hpl : k < L.length := by rw [← HL.out]; omega
      have cw := way_any a a1 n c n1 c1 w1.heap.size B m L k wr (hr.below (keep_below hb1 hbl)) (hr1.below hbl) HW.out (by omega) (fun q h1 h2 => by
        have := rM.cell h2
        unfold fwv at this
        rw [if_pos (by omega)] at this; exact this) (keep_cell (keep_below hb1 hbl) HB.out)
      have hcv : min (1048577 : Int) ((wc m L k : Nat) : Int) = ((cut (ub m L k) : Nat) : Int) := by
        rw [← cut_wc m hpl]; unfold cut cap; omega
      obtain ⟨r, hrr⟩ : ∃ r, r = wc m L k := ⟨_, rfl⟩
      rw [← hrr] at cw hcv
      obtain ⟨v, hv⟩ : ∃ v : Int, v = ((cut (ub m L k) : Nat) : Int) := ⟨_, rfl⟩
      rw [← hv] at hcv
      have HV := Lib.hid hv
      have CW := Lib.hid cw
      clear hrr hv cw hpl
      have hkn : k < n := by omega
      go_wp2_with (first | (go_at_call 62; refine CW.out.mono ?_; rintro e w9 ⟨rfl, hb9⟩; have rM9 := keep_rowIs hb9 rM; have hbl9 := keep_below hbl hb9; have m1 := rM9.cell hkn; have m2 := rM9.frozen k; have hMl := rM9.lt))
      go_roundw
      case rel => exact ⟨k, by omega, by go_num, (rM9.set k (.int .i64 v)).congr (fun j _ => fwv_step HV.out j), hbl9.setCell (p := ⟨w1.heap.size, k, none⟩) (Nat.le_refl _) _⟩
      case measure => simp [intOf]
end Go.Proofs.YtacgnofmccennaaGreatDoor
