/- What is proved here: the contract of the document's Match for layer 6. Conditions: the row is not too long. -/
import Derived.Test.YtkkoekfdncoifaaDoorRm
namespace Go.Proofs.YtkkoekfdncoifaaDoor
open Go.ChangeShapes Go.WideShapes Go.RowKit

/-- The stack of open regions as cells, the last one last. -/
def skc (s : List Nat) : List Value := s.reverse.map fun t : Nat => .int .i64 (t : Int)
theorem skc_cons (t : Nat) (s : List Nat) : skc (t :: s) = skc s ++ [.int .i64 (t : Int)] := by simp [skc]
theorem skc_len (s : List Nat) : (skc s).length = s.length := by simp [skc]
theorem own_last {w : World} {base : Nat} {v : Value} {m : Nat} {xs : List Value} {x : Value} (h : w.ownsRow base 3 1 v (m + 1) (xs ++ [x])) :
    ∃ g cap, v = .slice (some ⟨g, 0, none⟩) (m + 1) cap ∧ base ≤ g ∧ m + 1 ≤ cap ∧ w.cell? ⟨g, m, none⟩ = some x := by
  have hl := h.1
  simp at hl
  rcases h.2 with ⟨_, h2⟩ | ⟨g, cap, cur, h1, h2, h3, h4, _, h6, h7⟩
  · omega
  · refine ⟨g, cap, h1, h2, h4, ?_⟩
    subst h1
    rw [h.cellAt m (by omega), List.getElem?_append_right (by omega)]
    simp [hl]
theorem own_slice {w : World} {base : Nat} {v : Value} {m : Nat} {xs : List Value} (h : w.ownsRow base 3 1 v m xs) : ∃ a c, v = .slice a m c := by
  rcases h.2 with ⟨h1, h2⟩ | ⟨g, cap, cur, h1, _⟩
  · subst h2; exact ⟨none, 0, h1⟩
  · exact ⟨_, _, h1⟩
theorem gd_nil {L : List (Int × Int × Int)} {k : Nat} (h : cls (at_ L k) = true) (hs : sk L k = []) : gd L k = false := by unfold gd; rw [h, hs]; rfl
theorem gd_cons {L : List (Int × Int × Int)} {k t : Nat} {s : List Nat} (h : cls (at_ L k) = true) (hs : sk L k = t :: s) : gd L k = clo (at_ L t) (at_ L k) := by unfold gd; rw [h, hs]; rfl
theorem sk_len {L : List (Int × Int × Int)} : ∀ {k : Nat}, (sk L k).length ≤ k
  | 0 => by simp [sk]
  | k + 1 => by
    have ih := sk_len (L := L) (k := k)
    cases ho : opn (at_ L k)
    · cases hc : cls (at_ L k)
      · rw [sk_oth ho hc]; omega
      · rw [sk_cls hc, List.length_tail]; omega
    · rw [sk_opn' ho, List.length_cons]; omega
theorem fmv_close2 {L : List (Int × Int × Int)} {k t : Nat} {s : List Nat} (h : cls (at_ L k) = true) (hs : sk L k = t :: s) (j : Nat) :
    (if j = t then Value.int .i64 (k : Int) else if j = k then Value.int .i64 (t : Int) else if j = k then Value.int .i64 (-1) else fmv L k j) = fmv L (k + 1) j := fmv_close h hs j

set_option maxHeartbeats 4000000 in
set_option maxRecDepth 100000 in
theorem matchR_any (a : Option Addr) (n c : Nat) (L : List (Int × Int × Int)) (w : World) (hr : RowI w a n L) (hn : n ≤ 1000000) :
    Calls Tryd.prog 23 #[.slice a n c] w (GotL (mA L) (mE L) w) := by
  obtain ⟨i0, hi, hz0, hz1, hz2⟩ := info_parts int_info
  have cb := canR_any a n c L w hr hn
  cases hc : can L
  · rw [hc] at cb
    have CB := Lib.hid cb
    have HE : Hid (mE L = 1) := by show _ = _; unfold mE; rw [hc]; rfl
    clear cb hc hr hi hz0 hz1 hz2
    go_enter Tryd.func23, Tryd.ntmps23
    go_wp2_with (go_at_call 38; refine CB.out.mono ?_; rintro e w1 ⟨rfl, hb1⟩)
    go_ret2
    refine ⟨none, 0, 0, by rw [HE.out]; rfl, ?_, hb1⟩
    unfold mA; rw [if_neg (by rw [HE.out]; decide)]; exact Row.nil _ _
  · rw [hc] at cb
    have CB := Lib.hid cb
    have hln := can_len hc
    rw [← hr.1] at hln
    obtain ⟨hn1, hn2⟩ := hln
    have HC := Lib.hid hc
    have HL := Lib.hid hr.1
    have hmk := run_make_row' (P := Tryd.prog) 32 3 (.int .i64 0) 8 Tryd.underlying32 int_info rfl .i64 .i64 n (by omega) (by omega)
    clear cb hc
    go_enter Tryd.func23, Tryd.ntmps23
    go_wp2_with (go_at_call 38; refine CB.out.mono ?_; rintro e w1 ⟨rfl, hb1⟩)
    have rA : (w1.alloc (.cells (madeCells #[.int .i64 0] n) 3)).rowIs w1.heap.size 3 n (fun _ => .int .i64 0) := World.rowIs_made w1 _ n 3
    have hbw := keep_below hb1 (below_alloc w1 (.cells (madeCells #[.int .i64 0] n) 3))
    have hA := hb1.size
    have hAs : w1.heap.size + 1 ≤ (w1.alloc (.cells (madeCells #[.int .i64 0] n) 3)).heap.size := by simp
    generalize (w1.alloc (.cells (madeCells #[.int .i64 0] n) 3)) = W at rA hbw hAs ⊢
    generalize w1.heap.size = A at rA hA hAs ⊢
    clear hmk hb1 CB
    go_loopw [5, 6] (fun v i wr => ∃ k : Nat, k ≤ n ∧ i = .int .i64 k ∧ wr.ownsRow (A + 1) 3 1 v (sk L k).length (skc (sk L k)) ∧ Hid (Good L k) ∧ wr.rowIs A 3 n (fmv L k) ∧ A + 1 ≤ wr.heap.size ∧ Below w.heap.size w wr) (fun _ i _ => n - (intOf i).toNat)
    case atStart => exact ⟨0, by omega, rfl, World.ownsRow_nil _ _ _ _, fun j hj => absurd hj (by omega), rA.congr (fun i hi => by simp [fmv]), hAs, hbw⟩
    case round =>
      clear rA hbw hAs
      obtain ⟨k, hk, rfl, hown, HG, rM, hAs, hbl⟩ := hrel
      by_cases hlt : k < n
      · obtain ⟨b1, o1, p1, p2, p3, rfl, hB1, hx, hc1, hc2, hc3⟩ := (hr.below hbl).at_ hlt
        have HX := Lib.hid (at_some hx)
        have hkL : k < L.length := by rw [← HL.out]; exact hlt
        clear hx
        have hbA : b1 ≠ A := by
          obtain ⟨x, y, e, h, _⟩ := hr.2 (by omega)
          cases e; omega
        have hAb : A ≠ b1 := Ne.symm hbA
        have m1 := rM.cell hlt
        have m2 := rM.frozen k
        have hMl := rM.lt
        have rM2 := rM.set k (.int .i64 (-1))
        have hO2 := ownsRow_setCell_below hown (a := ⟨A, k, none⟩) (by simp) (.int .i64 (-1))
        have G2 := hbl.setCell (p := ⟨A, k, none⟩) hA (.int .i64 (-1))
        have hsl := sk_len (L := L) (k := k)
        have co := fun W => opens_any p1 p2 p3 W
        have cc := fun W => closer_any p1 p2 p3 W
        have hsz : (wr.setCell ⟨A, k, none⟩ (.int .i64 (-1))).heap.size = wr.heap.size := by simp [World.setCell]
        rw [← HX.out] at co cc
        have HRC : Hid (∀ W, Below w.heap.size w W → W.cell? ⟨b1, o1 + k * 3, none⟩ = some (.int .i64 p1) ∧ W.cell? ⟨b1, o1 + k * 3 + 1, none⟩ = some (.int .i64 p2) ∧ W.cell? ⟨b1, o1 + k * 3 + 2, none⟩ = some (.int .i64 p3)) := by
          intro W hW
          obtain ⟨x, y, e, h, hcs⟩ := hr.2 (by omega)
          cases e
          obtain ⟨h1, h2, h3⟩ := hcs k hlt
          have e1 : L.getD k (0, 0, 0) = (p1, p2, p3) := HX.out
          rw [e1] at h1 h2 h3
          exact ⟨(hW.cell (p := ⟨b1, o1 + k * 3, none⟩) h).trans h1, (hW.cell (p := ⟨b1, o1 + k * 3 + 1, none⟩) h).trans h2, (hW.cell (p := ⟨b1, o1 + k * 3 + 2, none⟩) h).trans h3⟩
        cases ho : opn (at_ L k)
        · rw [ho] at co
          have CO := Lib.hid co
          cases hcl : cls (at_ L k)
          · rw [hcl] at cc
            have CC := Lib.hid cc
            have HS := Lib.hid (sk_oth ho hcl)
            have HG2 := Lib.hid (good_succ HG.out (gd_oth hcl))
            have HF := Lib.hid (fun j => fmv_step hcl j)
            clear co cc ho hcl HG HX hown rM hsl
            go_wp2_with fail
            refine (CO.out _).mono ?_
            rintro e w2 ⟨rfl, hb2⟩
            have G3 := keep_below G2 hb2
            obtain ⟨d1, d2, d3⟩ := HRC.out w2 G3
            have rM3 := keep_rowIs hb2 rM2
            have hO3 := own1_below hO2 hb2
            have hw2 := hb2.size
            rw [hsz] at hw2
            clear hb2 rM2 hO2 G2
            go_wp2_with fail
            refine (CC.out _).mono ?_
            rintro e w3 ⟨rfl, hb3⟩
            go_wp2
            go_roundw
            case rel => exact ⟨k + 1, by omega, by go_num, by rw [HS.out]; exact own1_below hO3 hb3, HG2, (keep_rowIs hb3 rM3).congr (fun j _ => HF.out j), by have := hb3.size; omega, keep_below G3 hb3⟩
            case measure => simp [intOf]; omega
          · rw [hcl] at cc
            have CC := Lib.hid cc
            cases hs : sk L k with
            | nil =>
              have HE := Lib.hid (mE_bad HC.out hkL (gd_nil hcl hs))
              rw [hs] at hO2
              clear co cc hs ho hcl HG HX hown rM
              go_wp2_with fail
              refine (CO.out _).mono ?_
              rintro e w2 ⟨rfl, hb2⟩
              have G3 := keep_below G2 hb2
              obtain ⟨d1, d2, d3⟩ := HRC.out w2 G3
              have rM3 := keep_rowIs hb2 rM2
              have hO3 := own1_below hO2 hb2
              have hw2 := hb2.size
              rw [hsz] at hw2
              clear hb2 rM2 hO2 G2
              go_wp2_with fail
              refine (CC.out _).mono ?_
              rintro e w4 ⟨rfl, hb4⟩
              have G4 := keep_below G3 hb4
              obtain ⟨a5, c5, rfl⟩ := own_slice hO3
              clear hO3 rM3
              go_wp2
              go_quiet (fail)
              go_wp2
              go_ret2
              refine ⟨none, 0, 0, by rw [HE.out]; rfl, ?_, G4.trans ⟨rfl, rfl, rfl, Nat.le_refl _, fun _ _ => rfl⟩⟩
              unfold mA; rw [if_neg (by rw [HE.out]; decide)]; exact Row.nil _ _
            | cons t s =>
              have hgd := gd_cons hcl hs
              have htk := sk_lt (l := L) (k := k) (t := t) (by rw [hs]; simp)
              have htn : t < n := by omega
              have HF := Lib.hid (fun j => fmv_close2 hcl hs j)
              have HS : Hid (sk L (k + 1) = s) := by show _ = _; rw [sk_cls hcl, hs, List.tail_cons]
              rw [hs, skc_cons, List.length_cons] at hO2
              rw [hs, List.length_cons] at hsl
              obtain ⟨m, hm⟩ : ∃ m, m = s.length := ⟨_, rfl⟩
              rw [← hm] at hO2 hsl
              have HM := Lib.hid hm
              obtain ⟨x2, y2, q1, q2, q3, hb2e, _, hy, _, _, _⟩ := hr.at_ htn
              simp only [Option.some.injEq, Addr.mk.injEq] at hb2e
              obtain ⟨rfl, rfl, _⟩ := hb2e
              have HY := Lib.hid (at_some hy)
              have HRT : Hid (∀ W, Below w.heap.size w W → W.cell? ⟨b1, o1 + t * 3, none⟩ = some (.int .i64 q1) ∧ W.cell? ⟨b1, o1 + t * 3 + 1, none⟩ = some (.int .i64 q2) ∧ W.cell? ⟨b1, o1 + t * 3 + 2, none⟩ = some (.int .i64 q3)) := by
                intro W hW
                obtain ⟨x, y, e, h, hcs⟩ := hr.2 (by omega)
                cases e
                obtain ⟨h1, h2, h3⟩ := hcs t htn
                have e1 : L.getD t (0, 0, 0) = (q1, q2, q3) := HY.out
                rw [e1] at h1 h2 h3
                exact ⟨(hW.cell (p := ⟨b1, o1 + t * 3, none⟩) h).trans h1, (hW.cell (p := ⟨b1, o1 + t * 3 + 1, none⟩) h).trans h2, (hW.cell (p := ⟨b1, o1 + t * 3 + 2, none⟩) h).trans h3⟩
              have cx := fun W => closesR_any q1 q2 q3 p1 p2 p3 W
              have ex : clo (q1, q2, q3) (p1, p2, p3) = gd L k := by rw [hgd, HX.out, HY.out]
              rw [ex] at cx
              have HG0 := Lib.hid HG.out
              clear co cc hs hy hm ho ex HG HX hown rM
              go_wp2_with fail
              refine (CO.out _).mono ?_
              rintro e w2 ⟨rfl, hb2⟩
              have G3 := keep_below G2 hb2
              obtain ⟨d1, d2, d3⟩ := HRC.out w2 G3
              have rM3 := keep_rowIs hb2 rM2
              have hO3 := own1_below hO2 hb2
              have hw2 := hb2.size
              rw [hsz] at hw2
              clear hb2 rM2 hO2 G2
              go_wp2_with fail
              refine (CC.out _).mono ?_
              rintro e w4 ⟨rfl, hb4⟩
              have G4 := keep_below G3 hb4
              have rM4 := keep_rowIs hb4 rM3
              have hO4 := own1_below hO3 hb4
              have hw4 : A + 1 ≤ w4.heap.size := by have := hb4.size; omega
              obtain ⟨f1, f2, f3⟩ := HRC.out w4 G4
              obtain ⟨f4, f5, f6⟩ := HRT.out w4 G4
              obtain ⟨g, cap, rfl, hg1, hg2, gcell⟩ := own_last hO4
              have hgA : g ≠ A := by omega
              have hAg : A ≠ g := by omega
              have hneg : ((m : Int) + 1 == 0) = false := by rw [beq_eq_false_iff_ne]; omega
              have hcap : m < cap := by omega
              have hi1 : (m : Int) < (m : Int) + 1 := by omega
              have hi2 : m < m + 1 := by omega
              clear hO3 rM3 hb4 G3 d1 d2 d3 hc1 hc2 hc3
              cases hv : gd L k
              · have HE := Lib.hid (mE_bad HC.out hkL hv)
                rw [hv] at cx
                have CX := Lib.hid cx
                clear cx hgd hv hcl
                have hwp1 : IntKind.i64.wrap ((m : Int) + 1 - 1) = (m : Int) := by rw [IntKind.wrap_i64]; omega
                have hwp2 : IntKind.i64.wrap (m : Int) = (m : Int) := by rw [IntKind.wrap_i64]; omega
                go_wp2
                go_region_held3 (fun W => W.cell? ⟨b1, o1 + k * 3, none⟩ = some (.int .i64 p1) ∧ W.cell? ⟨b1, o1 + k * 3 + 1, none⟩ = some (.int .i64 p2) ∧ W.cell? ⟨b1, o1 + k * 3 + 2, none⟩ = some (.int .i64 p3) ∧ W.cell? ⟨b1, o1 + t * 3, none⟩ = some (.int .i64 q1) ∧ W.cell? ⟨b1, o1 + t * 3 + 1, none⟩ = some (.int .i64 q2) ∧ W.cell? ⟨b1, o1 + t * 3 + 2, none⟩ = some (.int .i64 q3) ∧ W.cell? ⟨g, m, none⟩ = some (.int .i64 (t : Int)) ∧ Below w.heap.size w W ∧ W.rowIs A 3 n (fun j => if j = k then .int .i64 (-1) else fmv L k j) ∧ W.ownsRow (A + 1) 3 1 (.slice (some ⟨g, 0, none⟩) (m + 1) cap) (m + 1) (skc s ++ [.int .i64 (t : Int)]) ∧ A + 1 ≤ W.heap.size)
                  (first
                    | exact ⟨f1, f2, f3, f4, f5, f6, gcell, G4.drew, rM4.drew, hO4.drew, hw4⟩
                    | (go_split_ands; exact ⟨keep_cell hb9 (by assumption), keep_cell hb9 (by assumption), keep_cell hb9 (by assumption), keep_cell hb9 (by assumption), keep_cell hb9 (by assumption), keep_cell hb9 (by assumption), keep_cell hb9 (by assumption), keep_below (by assumption) hb9, keep_rowIs hb9 (by assumption), own1_below (by assumption) hb9, Nat.le_trans (by assumption) hb9.size⟩)
                    | (go_split_ands; exact ⟨by assumption, by assumption, by assumption, by assumption, by assumption, by assumption, by assumption, by assumption, by assumption, by assumption, by assumption⟩))
                  (first | (go_split_ands; go_at_call 41; refine (CX.out _).mono ?_; rintro e w9 ⟨rfl, hb9⟩))
                go_split_ands
                clear hwp1 hwp2
                go_wp2
                go_ret2
                refine ⟨none, 0, 0, by rw [HE.out]; rfl, ?_, by assumption⟩
                unfold mA; rw [if_neg (by rw [HE.out]; decide)]; exact Row.nil _ _
              · have HG2 := Lib.hid (good_succ HG0.out hv)
                rw [hv] at cx
                have CX := Lib.hid cx
                clear cx hgd hv hcl
                have hwp1 : IntKind.i64.wrap ((m : Int) + 1 - 1) = (m : Int) := by rw [IntKind.wrap_i64]; omega
                have hwp2 : IntKind.i64.wrap (m : Int) = (m : Int) := by rw [IntKind.wrap_i64]; omega
                go_wp2
                go_region_held3 (fun W => W.cell? ⟨b1, o1 + k * 3, none⟩ = some (.int .i64 p1) ∧ W.cell? ⟨b1, o1 + k * 3 + 1, none⟩ = some (.int .i64 p2) ∧ W.cell? ⟨b1, o1 + k * 3 + 2, none⟩ = some (.int .i64 p3) ∧ W.cell? ⟨b1, o1 + t * 3, none⟩ = some (.int .i64 q1) ∧ W.cell? ⟨b1, o1 + t * 3 + 1, none⟩ = some (.int .i64 q2) ∧ W.cell? ⟨b1, o1 + t * 3 + 2, none⟩ = some (.int .i64 q3) ∧ W.cell? ⟨g, m, none⟩ = some (.int .i64 (t : Int)) ∧ Below w.heap.size w W ∧ W.rowIs A 3 n (fun j => if j = k then .int .i64 (-1) else fmv L k j) ∧ W.ownsRow (A + 1) 3 1 (.slice (some ⟨g, 0, none⟩) (m + 1) cap) (m + 1) (skc s ++ [.int .i64 (t : Int)]) ∧ A + 1 ≤ W.heap.size)
                  (first
                    | exact ⟨f1, f2, f3, f4, f5, f6, gcell, G4.drew, rM4.drew, hO4.drew, hw4⟩
                    | (go_split_ands; exact ⟨keep_cell hb9 (by assumption), keep_cell hb9 (by assumption), keep_cell hb9 (by assumption), keep_cell hb9 (by assumption), keep_cell hb9 (by assumption), keep_cell hb9 (by assumption), keep_cell hb9 (by assumption), keep_below (by assumption) hb9, keep_rowIs hb9 (by assumption), own1_below (by assumption) hb9, Nat.le_trans (by assumption) hb9.size⟩)
                    | (go_split_ands; exact ⟨by assumption, by assumption, by assumption, by assumption, by assumption, by assumption, by assumption, by assumption, by assumption, by assumption, by assumption⟩))
                  (first | (go_split_ands; go_at_call 41; refine (CX.out _).mono ?_; rintro e w9 ⟨rfl, hb9⟩))
                go_split_ands
                clear hwp1 hwp2
                have G9 : Below w.heap.size w w9 := by assumption
                have rM9 : w9.rowIs A 3 n (fun j => if j = k then .int .i64 (-1) else fmv L k j) := by assumption
                have hO9 : w9.ownsRow (A + 1) 3 1 (.slice (some ⟨g, 0, none⟩) (m + 1) cap) (m + 1) (skc s ++ [.int .i64 (t : Int)]) := by assumption
                have g9 : w9.cell? ⟨g, m, none⟩ = some (.int .i64 (t : Int)) := by assumption
                have hA9 : A + 1 ≤ w9.heap.size := by assumption
                have m1 := rM9.cell hlt
                have m2 := rM9.frozen k
                have m3 := rM9.cell htn
                have m4 := rM9.frozen t
                have hMl9 := rM9.lt
                clear hO4 rM4 G4 hb9
                go_wp2
                go_roundw
                case rel =>
                  refine ⟨k + 1, by omega, by go_num, ?_, HG2, ((rM9.set k (.int .i64 (t : Int))).set t (.int .i64 (k : Int))).congr (fun j _ => HF.out j), by simpa [World.setCell] using hA9, (G9.setCell (p := ⟨A, k, none⟩) hA _).setCell (p := ⟨A, t, none⟩) hA _⟩
                  rw [HS.out, ← HM.out]
                  exact ownsRow_setCell_below (ownsRow_setCell_below (own_pop hO9) (a := ⟨A, k, none⟩) (by simp) _) (a := ⟨A, t, none⟩) (by simp) _
                case measure => simp [intOf]; omega
        · rw [ho] at co
          have CO := Lib.hid co
          have hcl := opn_cls ho
          rw [hcl] at cc
          have CC := Lib.hid cc
          have HS := Lib.hid (sk_opn' ho)
          have HG2 := Lib.hid (good_succ HG.out (gd_oth hcl))
          have HF := Lib.hid (fun j => fmv_step hcl j)
          clear co cc ho hcl HG HX hown rM
          go_wp2_with fail
          refine (CO.out _).mono ?_
          rintro e w2 ⟨rfl, hb2⟩
          have G3 := keep_below G2 hb2
          obtain ⟨d1, d2, d3⟩ := HRC.out w2 G3
          have rM3 := keep_rowIs hb2 rM2
          have hO3 := own1_below hO2 hb2
          have hw2 := hb2.size
          rw [hsz] at hw2
          clear hb2 rM2 hO2 G2
          go_wp2_with (at_builtin; refine wpList_append_own _ rfl _ _ 32 rfl (A + 1) 3 i0 (.int .i64 0) 1 8 Tryd.underlying32 hi hz0 hz1 hz2 rfl (by decide) _ _ _ rfl (hO3.alloc _) ⟨w2.heap.size, 0, none⟩ 1 1 [.int .i64 (k : Int)] rfl rfl ?c1 ?c2 ?c3 ?c4 ?c5 ?_)
          case c1 =>
            intro j t hj
            match j, hj with
            | 0, hj => simp at hj; subst hj; simp [Addr.add]
          case c2 => intro t ht; simp at ht; subst ht; rfl
          case c3 => unfold maxLen; omega
          case c4 => omega
          case c5 => simp; omega
          · intro v' w5 hown' hgrow _
            have hb5 : Below w.heap.size w w5 := (G3.alloc G3.size _).grown hgrow (by have := G3.size; simp; omega) (fun g hg => by have := (hO3.lt g hg).1; omega)
            have rM5 : w5.rowIs A 3 n (fun j => if j = k then .int .i64 (-1) else fmv L k j) := (rM3.alloc _).of_block (hgrow.block A (by have := rM3.lt; simp; omega) (fun e => by have := (hO3.lt A e.symm).1; omega))
            have hown2 : w5.ownsRow (A + 1) 3 1 v' (sk L (k + 1)).length (skc (sk L (k + 1))) := by
              rw [HS.out, skc_cons, List.length_cons]; exact hown'
            have hA5 : A + 1 ≤ w5.heap.size := by have := hgrow.size; simp at this; omega
            obtain ⟨d1, d2, d3⟩ := HRC.out w5 hb5
            clear hown' hgrow hO3 rM3 G3
            go_wp2_with fail
            refine (CC.out _).mono ?_
            rintro e w6 ⟨rfl, hb6⟩
            go_wp2
            go_roundw
            case rel => exact ⟨k + 1, by omega, by go_num, own1_below hown2 hb6, HG2, (keep_rowIs hb6 rM5).congr (fun j _ => HF.out j), by have := hb6.size; omega, keep_below hb5 hb6⟩
            case measure => simp [intOf]; omega
      · have hkn : k = n := by omega
        subst hkn
        cases hs : sk L k with
        | nil =>
          have HS : Hid (mE L = 0) := by
            refine mE_of HC.out ⟨?_, by rw [← HL.out]; exact hs⟩
            have := HG.out; rw [HL.out] at this; exact this
          have R1 : Hid (Row wr (some ⟨A, 0, none⟩) k (mA L)) := by
            unfold mA; rw [if_pos HS.out]
            exact row_of_is rM (by rw [mL_len]; exact HL.out) (fun i hi => by unfold fmv; rw [if_pos hi, mL_at (by rw [← HL.out]; exact hi), ← HL.out])
          rw [hs] at hown
          obtain ⟨a5, c5, rfl⟩ := own_slice hown
          clear rM HG hown hs
          go_wp2
          go_ret2
          exact ⟨_, _, _, by rw [HS.out]; rfl, R1, hbl⟩
        | cons t s =>
          have HE : Hid (mE L = 7) := mE_open HC.out (by rw [← HL.out, hs]; simp)
          rw [hs, List.length_cons] at hown
          obtain ⟨a5, c5, rfl⟩ := own_slice hown
          clear rM HG hown hs
          go_wp2
          go_ret2
          refine ⟨none, 0, 0, by rw [HE.out]; rfl, ?_, hbl⟩
          unfold mA; rw [if_neg (by rw [HE.out]; decide)]; exact Row.nil _ _
end Go.Proofs.YtkkoekfdncoifaaDoor
