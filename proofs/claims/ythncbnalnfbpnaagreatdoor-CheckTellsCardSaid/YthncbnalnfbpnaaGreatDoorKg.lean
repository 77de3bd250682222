/- What is proved here: the contract of the document's Stacks for layer 7. Conditions: the row is not too long. -/
import Derived.Test.YthncbnalnfbpnaaGreatDoorKf
import Derived.Test.YthncbnalnfbpnaaGreatDoorKd
import Derived.StillTailTactics
section
namespace Go.Proofs.YthncbnalnfbpnaaGreatDoor
open Go.ChangeShapes Go.WideShapes Go.RowKit Go.Maps

theorem bool_info : (Tryz.prog.info? 4).map (fun i => (i.zero, i.size, i.bytes)) = some (some (.bool false), 1, 1) := by kernel_rfl
/-- The cells of the three rows. -/
def fO (l : List (Int × Int × Int)) (k j : Nat) : Value := .string (bs (sp l k j).1)
def fM (l : List (Int × Int × Int)) (k j : Nat) : Value := .bool (sp l k j).2.1
def fC (l : List (Int × Int × Int)) (k j : Nat) : Value := .bool (sp l k j).2.2
theorem gd_append {a b : List UInt8} (ha : gdB a) (hb : gdB b) : gdB (a ++ b) := by
  intro c hc
  rcases List.mem_append.1 hc with h | h
  · exact ha c h
  · exact hb c h
/-- All stacks are of numbers and truths. -/
theorem sp_gd {l : List (Int × Int × Int)} : ∀ {k : Nat}, fe l k = 0 → ∀ j, gdB (sp l k j).1
  | 0, _, j => by
    unfold sp hand
    split <;> simp [gdB]
  | k + 1, h, j => by
    have h1 := fe_zero h (Nat.lt_succ_self k)
    have hb := bE_zero (er_zero h1.2).2.2.2
    have ih := sp_gd h1.1
    have hbh : gdB (bh (at_ l k).1 (at_ l k).2.1 (sp l k k).1) := by
      unfold bh
      refine gd_append (fun c hc => ih k c (List.mem_of_mem_take hc)) ?_
      exact (gv_good _ _ (fun c hc => ih k c (List.mem_of_mem_drop hc)) hb.2.1).1
    rw [sp]
    have gen : ∀ (m : List Nat) (f : Nat → List UInt8 × Bool × Bool), (∀ j, gdB (f j).1) → ∀ j, gdB (hands f m (bh (at_ l k).1 (at_ l k).2.1 (sp l k k).1) j).1 := by
      intro m
      induction m with
      | nil => intro f hf; exact hf
      | cons q m ih2 =>
        intro f hf
        refine ih2 (hand f q _) (fun j => ?_)
        unfold hand
        split
        · exact hbh
        · exact hf j
    exact gen _ _ ih j
theorem drop_gd {s : List UInt8} {m : Nat} (h : gdB s) : gdB (s.drop m) := fun c hc => h c (List.mem_of_mem_drop hc)
/-- The three rows, as they are made. -/
abbrev Z1 (n : Nat) : Obj := .cells (madeCells #[.string ⟨#[]⟩] n) 9
abbrev Z2 (n : Nat) : Obj := .cells ((madeCells #[.bool false] n).setIfInBounds 0 (.bool true)) 4
abbrev Z3 (n : Nat) : Obj := .cells (madeCells #[.bool false] n) 4
theorem rows_made (w : World) (n : Nat) (L : List (Int × Int × Int)) :
    (((w.alloc (Z1 n)).alloc (Z2 n)).alloc (Z3 n)).rowIs w.heap.size 9 n (fO L 0) ∧ (((w.alloc (Z1 n)).alloc (Z2 n)).alloc (Z3 n)).rowIs (w.heap.size + 1) 4 n (fM L 0) ∧ (((w.alloc (Z1 n)).alloc (Z2 n)).alloc (Z3 n)).rowIs (w.heap.size + 2) 4 n (fC L 0) := by
  have e1 : (w.alloc (Z1 n)).heap.size = w.heap.size + 1 := asz _ _
  have e2 : ((w.alloc (Z1 n)).alloc (Z2 n)).heap.size = w.heap.size + 2 := by rw [asz, asz]
  have r1 := ((World.rowIs_made w (.string ⟨#[]⟩) n 9).alloc (Z2 n)).alloc (Z3 n)
  have r2 : ((w.alloc (Z1 n)).alloc (Z2 n)).rowIs (w.alloc (Z1 n)).heap.size 4 n (fM L 0) := by
    refine ⟨_, Go.Deep.blk_alloc_new _ _, by simp [size_madeCells], fun i hi => ?_⟩
    rw [Array.getElem?_setIfInBounds]
    unfold fM sp hand
    by_cases e : i = 0
    · subst e; simp [size_madeCells, hi]
    · rw [if_neg (fun h => e h.symm), if_neg e]
      simp [madeCells, hi, Nat.mod_one]
  have r3 := World.rowIs_made ((w.alloc (Z1 n)).alloc (Z2 n)) (.bool false) n 4
  rw [e1] at r2
  rw [e2] at r3
  refine ⟨r1.congr (fun j _ => ?_), r2.alloc _, r3.congr (fun j _ => ?_)⟩
  · unfold fO sp hand
    split <;> rfl
  · unfold fC sp hand
    split <;> rfl
theorem three_rows {W : World} {n q O M Cb : Nat} {F : Nat → List UInt8 × Bool × Bool} {BH : List UInt8} {Z : ByteArray} {v : Bool} (hOM : O ≠ M) (hOC : O ≠ Cb) (hMC : M ≠ Cb) (hZ : Z = bs BH) (hv : v = ((F q).2.2 || ((F q).2.1 && (F q).1 != BH)))
    (rO : W.rowIs O 9 n (fun j => .string (bs (F j).1))) (rM : W.rowIs M 4 n (fun j => .bool (F j).2.1)) (rC : W.rowIs Cb 4 n (fun j => .bool (F j).2.2)) :
    (((W.setCell ⟨Cb, q, none⟩ (.bool v)).setCell ⟨M, q, none⟩ (.bool true)).setCell ⟨O, q, none⟩ (.string Z)).rowIs O 9 n (fun j => .string (bs (hand F q BH j).1)) ∧
    (((W.setCell ⟨Cb, q, none⟩ (.bool v)).setCell ⟨M, q, none⟩ (.bool true)).setCell ⟨O, q, none⟩ (.string Z)).rowIs M 4 n (fun j => .bool (hand F q BH j).2.1) ∧
    (((W.setCell ⟨Cb, q, none⟩ (.bool v)).setCell ⟨M, q, none⟩ (.bool true)).setCell ⟨O, q, none⟩ (.string Z)).rowIs Cb 4 n (fun j => .bool (hand F q BH j).2.2) := by
  refine ⟨(((rO.setOther (a := ⟨Cb, q, none⟩) hOC _).setOther (a := ⟨M, q, none⟩) hOM _).set q _).congr (fun j _ => ?_), (((rM.setOther (a := ⟨Cb, q, none⟩) hMC _).set q _).setOther (a := ⟨O, q, none⟩) (Ne.symm hOM) _).congr (fun j _ => ?_), (((rC.set q _).setOther (a := ⟨M, q, none⟩) (Ne.symm hMC) _).setOther (a := ⟨O, q, none⟩) (Ne.symm hOC) _).congr (fun j _ => ?_)⟩
  all_goals
    unfold hand
    by_cases e : j = q
    · first | (rw [if_pos e, if_pos e, hZ]) | (rw [if_pos e, if_pos e, hv]) | rw [if_pos e, if_pos e] | rw [if_pos e]
    · first | rw [if_neg e, if_neg e] | rw [if_neg e]
theorem still_skip {P : Program} {ops : Array Oper} {w : World} {Q : Act → Prop} {a : Act} {o : Oper} {rest : List Oper} (h : Region.wanted o (yielded ops a.tmps) = false) (k : wpStill P ops w Q rest (a.put o.dst undef)) : wpStill P ops w Q (o :: rest) a :=
  wpStill_step (fun K hK => by rw [if_neg (by simp [h])]; exact hK _ k)
theorem still_skip2 {P : Program} {ops : Array Oper} {w : World} {Q : Act → Prop} {a : Act} {o : Oper} {rest : List Oper} {u : Value} (hu : u = undef) (h : Region.wanted o (yielded ops a.tmps) = false) (k : wpStill P ops w Q rest (a.put o.dst u)) : wpStill P ops w Q (o :: rest) a := by
  subst hu; exact still_skip h k
set_option maxHeartbeats 8000000 in
set_option maxRecDepth 100000 in
theorem stacksR_any (a : Option Addr) (n c : Nat) (L : List (Int × Int × Int)) (w : World) (hr : RowI w a n L) (hn : n ≤ 1000000) :
    Calls Tryz.prog 134 #[.slice a n c] w (GotT (tA L) (tE L) w) := by
  have cw := wholeR_any a n c L w hr hn
  by_cases h0 : wE L = 0
  · rw [h0] at cw
    have hm0 := (wE_zero h0).1
    have hln := can_len (mE_zero hm0).1
    rw [← hr.1] at hln
    have cm := fun W (h : Below w.heap.size w W) => matchR_any a n c L W (hr.below h) hn
    unfold GotL mA at cm
    rw [if_pos hm0, hm0] at cm
    have HW := Lib.hid h0
    have HL := Lib.hid hr.1
    have C := Lib.hid cw
    have CM := Lib.hid cm
    have hmk1 := run_make_row' (P := Tryz.prog) 90 9 (.string ⟨#[]⟩) 16 Tryz.underlying90 str_info rfl .i64 .i64 n (by omega) (by omega)
    have hmk2 := run_make_row' (P := Tryz.prog) 145 4 (.bool false) 1 Tryz.underlying145 bool_info rfl .i64 .i64 n (by omega) (by omega)
    obtain ⟨RP, hRP⟩ : ∃ RP, RP = tA L := ⟨_, rfl⟩
    obtain ⟨RE, hRE⟩ : ∃ RE, RE = tE L := ⟨_, rfl⟩
    rw [← hRP, ← hRE]
    have HRP := Lib.hid hRP
    have HRE := Lib.hid hRE
    have hn0 : 0 < n := by omega
    have HZ : Hid (∀ W : World, (((W.alloc (.cells (madeCells #[.string ⟨#[]⟩] n) 9)).alloc (.cells (madeCells #[.bool false] n) 4)).alloc (.cells (madeCells #[.bool false] n) 4)).cell? ⟨W.heap.size + 1, 0, none⟩ = some (.bool false) ∧ (((W.alloc (.cells (madeCells #[.string ⟨#[]⟩] n) 9)).alloc (.cells (madeCells #[.bool false] n) 4)).alloc (.cells (madeCells #[.bool false] n) 4)).frozen? ⟨W.heap.size + 1, 0, none⟩ = false) := by
      intro W
      have r2 := (World.rowIs_made (W.alloc (.cells (madeCells #[.string ⟨#[]⟩] n) 9)) (.bool false) n 4).alloc (.cells (madeCells #[.bool false] n) 4)
      rw [asz] at r2
      exact ⟨r2.cell hn0, r2.frozen 0⟩
    clear cw cm h0 hm0 hRP hRE
    go_enter Tryz.func134, Tryz.ntmps134
    go_wp2_with (first | (go_at_call 54; refine C.out.mono ?_; rintro e w1 ⟨rfl, hb1⟩) | (go_at_call 43; refine (CM.out _ hb1).mono ?_; rintro e w2 ⟨a1, n1, c1, rfl, hr1, hb2⟩; obtain ⟨z1, z2⟩ := HZ.out w2))
    have hbb := keep_below hb1 hb2
    obtain ⟨rO0, rM0, rC0⟩ := rows_made w2 n L
    have B3 : Below w2.heap.size w2 (((w2.alloc (Z1 n)).alloc (Z2 n)).alloc (Z3 n)) := keep_below (keep_below (below_alloc _ _) (below_alloc _ _)) (below_alloc _ _)
    generalize (((w2.alloc (Z1 n)).alloc (Z2 n)).alloc (Z3 n)) = W3 at rO0 rM0 rC0 B3 ⊢
    obtain ⟨O, hO⟩ : ∃ O, O = w2.heap.size := ⟨_, rfl⟩
    obtain ⟨M, hM⟩ : ∃ M, M = w2.heap.size + 1 := ⟨_, rfl⟩
    obtain ⟨Cb, hCb⟩ : ∃ Cb, Cb = w2.heap.size + 2 := ⟨_, rfl⟩
    rw [← hO] at rO0
    rw [← hM] at rM0
    rw [← hCb] at rC0
    have hOM : O ≠ M := by omega
    have hOC : O ≠ Cb := by omega
    have hMC : M ≠ Cb := by omega
    have lO : w2.heap.size ≤ O := by omega
    have lM : w2.heap.size ≤ M := by omega
    have lC : w2.heap.size ≤ Cb := by omega
    rw [← hCb, ← hM, ← hO]
    clear hO hM hCb z1 z2 HZ hmk1 hmk2 C CM hb1 hb2
    go_loopw [10] (fun i wr => ∃ k : Nat, k ≤ n ∧ i = .int .i64 k ∧ Hid (fe L k = 0) ∧ wr.rowIs O 9 n (fO L k) ∧ wr.rowIs M 4 n (fM L k) ∧ wr.rowIs Cb 4 n (fC L k) ∧ Below w2.heap.size w2 wr) (fun i _ => n - (intOf i).toNat)
    case atStart => exact ⟨0, by omega, rfl, rfl, rO0, rM0, rC0, B3⟩
    case round =>
      clear rO0 rM0 rC0 B3
      obtain ⟨k, hk, rfl, HFe, rO, rM, rC, hbl⟩ := hrel
      have hbw := keep_below hbb hbl
      by_cases hlt : k < n
      · obtain ⟨b1, o1, p1, p2, p3, rfl, hB1, hx, hc1, hc2, hc3⟩ := (hr.below hbw).at_ hlt
        have HX := Lib.hid (at_some hx)
        clear hx
        have HK : Hid (k < L.length) := by show _ < _; rw [← HL.out]; exact hlt
        have dO := rO.cell hlt
        have dM := rM.cell hlt
        have dC := rC.cell hlt
        unfold fO at dO
        unfold fM at dM
        unfold fC at dC
        have HSf : Hid ((sp L k k).1 = sf L k) := rfl
        have HSl := Lib.hid (sp_len HFe.out k)
        have HGd := Lib.hid (sp_gd HFe.out k)
        rw [HSf.out] at HSl HGd
        obtain ⟨S, hS⟩ : ∃ S, S = bs (sf L k) := ⟨_, rfl⟩
        rw [HSf.out, ← hS] at dO
        have HS := Lib.hid hS
        have HrO := Lib.hid rO
        have HrM := Lib.hid rM
        have HrC := Lib.hid rC
        have f1 : (0 : Int) ≤ (k : Int) := by omega
        have f2 : (k : Int) < (n : Int) := by omega
        clear hS rO rM rC
        cases hh : (sp L k k).2.1
        · rw [hh] at dM
          have HQ := Lib.hid (tE_err HW.out HFe.out (by rw [er_8 hh]; decide) HK.out)
          rw [er_8 hh] at HQ
          clear hh
          go_wp2
          go_ret2
          exact ⟨none, 0, 0, by rw [HRE.out, HQ.out]; rfl, by rw [HRP.out]; unfold tA; rw [HQ.out, if_neg (by decide)]; exact RowS.nil _ _, hbw⟩
        · rw [hh] at dM
          cases hd : (sp L k k).2.2
          case true =>
            rw [hd] at dC
            have HQ := Lib.hid (tE_err HW.out HFe.out (by rw [er_10 hh hd]; decide) HK.out)
            rw [er_10 hh hd] at HQ
            clear hh hd
            go_wp2
            go_quiet (fail)
            go_wp2
            go_ret2
            exact ⟨none, 0, 0, by rw [HRE.out, HQ.out]; rfl, by rw [HRP.out]; unfold tA; rw [HQ.out, if_neg (by decide)]; exact RowS.nil _ _, hbw.trans ⟨rfl, rfl, rfl, Nat.le_refl _, fun _ _ => rfl⟩⟩
          case false =>
            rw [hd] at dC
            have HH := Lib.hid hh
            have HD := Lib.hid hd
            clear hh hd
            by_cases h22 : p1 = 22
            · obtain ⟨t, ht1, ht2⟩ := mt_next HW.out HK.out (show (at_ L k).1 = 22 by rw [HX.out]; exact h22)
              have htn : t < n := by omega
              obtain ⟨b4, o4, rfl, hB4, hcs⟩ := (hr1.below hbl).2 (by have := hr1.1; rw [mL_len, ← HL.out] at this; omega)
              have hn1 : n1 = n := by have := hr1.1; rw [mL_len, ← HL.out] at this; exact this
              have dm := hcs k (by omega)
              rw [mL_at HK.out, ht1] at dm
              have dB := HrO.out.cell (i := t) htn
              unfold fO at dB
              rw [sp_stable (Nat.le_of_lt ht2)] at dB
              have hne := ne_texts (sf L k) (sf L t)
              rw [← HS.out] at hne
              have HT := Lib.hid ht1
              obtain ⟨T, hT⟩ : ∃ T, T = bs (sf L t) := ⟨_, rfl⟩
              rw [show (sp L t t).1 = sf L t from rfl, ← hT] at dB
              rw [← hT] at hne
              have f6 : (k : Int) < (n1 : Int) := by omega
              have f3 : (0 : Int) ≤ (t : Int) := by omega
              have f4 : (t : Int) < (n : Int) := by omega
              clear hT ht1 hcs hn1
              subst h22
              cases hz : (sf L k != sf L t)
              · rw [hz] at hne
                have hne2 : (S.toList == T.toList) = true := by simpa using hne
                have HER : Hid (er L k = bE 22 p2 (sf L k)) := by
                  show _ = _
                  have := er_b HH.out HD.out (by intro _; rw [HT.out]; simpa using hz)
                  rw [HX.out] at this; exact this
                clear hz HT HH HD
                go_wp2
                go_quiet (fail)
                have rOx : (wr.drewN nq).rowIs O 9 n (fO L k) := HrO.out
                have rMx : (wr.drewN nq).rowIs M 4 n (fM L k) := HrM.out
                have rCx : (wr.drewN nq).rowIs Cb 4 n (fC L k) := HrC.out
                have WB : Below w2.heap.size w2 (wr.drewN nq) := hbl.trans ⟨rfl, rfl, rfl, Nat.le_refl _, fun _ _ => rfl⟩
                have x0 : (wr.drewN nq).cell? ⟨b1, o1 + k * 3, none⟩ = some (.int .i64 22) := hc1
                have x1 : (wr.drewN nq).cell? ⟨b1, o1 + k * 3 + 1, none⟩ = some (.int .i64 p2) := hc2
                have x2 : (wr.drewN nq).cell? ⟨b1, o1 + k * 3 + 2, none⟩ = some (.int .i64 p3) := hc3
                have xO : (wr.drewN nq).cell? ⟨O, k, none⟩ = some (.string S) := dO
                clear HrO HrM HrC dO dM dC hc1 hc2 hc3 hbl hbw dm dB f1 f2 f3 f4 f6 hne hne2 htn ht2 hB4
                generalize wr.drewN nq = WX at rOx rMx rCx WB x0 x1 x2 xO ⊢
                have HrO := Lib.hid rOx
                have HrM := Lib.hid rMx
                have HrC := Lib.hid rCx
                clear rOx rMx rCx
                have hri := can_right (mE_zero (wE_zero HW.out).1).1 HK.out
                rw [HX.out] at hri
                have hti : tkI (22, p2, p3) = tk 22 := by unfold tkI; rw [hri]; rfl
                have ct := fun W => takesR_any 22 p2 p3 W
                rw [hti] at ct
                have htl := tk_len 22
                have sT := bs_size (tk 22)
                have sS := bs_size (sf L k)
                rw [← HS.out] at sS
                have hsl := HSl.out
                obtain ⟨T, hT⟩ : ∃ T, T = bs (tk 22) := ⟨_, rfl⟩
                rw [← hT] at ct sT
                have CT := Lib.hid ct
                clear ct hti
                by_cases hls : (sf L k).length < (tk 22).length
                · have hE : bE 22 p2 (sf L k) = 9 := by unfold bE; rw [if_pos hls]
                  have HQ : Hid (tE L = 9) := by
                    show _ = _
                    have h1 : er L k = 9 := by rw [HER.out, hE]
                    rw [tE_err HW.out HFe.out (by rw [h1]; decide) HK.out, h1]
                  have hw : IntKind.i64.wrap ((S.size : Int) - (T.size : Int)) = (S.size : Int) - (T.size : Int) := IntWalk.i64_in _ (by omega)
                  have hd0 : decide ((S.size : Int) - (T.size : Int) < 0) = true := by rw [decide_eq_true_iff]; omega
                  have hd1 : (S.size : Int) - (T.size : Int) < 0 := by omega
                  clear hE hls sT sS htl hsl hri hT
                  go_wp2_with fail
                  go_region_held3 (fun W => W.cell? ⟨O, k, none⟩ = some (.string S) ∧ W.cell? ⟨b1, o1 + k * 3, none⟩ = some (.int .i64 22) ∧ W.cell? ⟨b1, o1 + k * 3 + 1, none⟩ = some (.int .i64 p2) ∧ W.cell? ⟨b1, o1 + k * 3 + 2, none⟩ = some (.int .i64 p3)) (first | exact ⟨xO, x0, x1, x2⟩ | exact ⟨keep_cell hb4 xO, keep_cell hb4 x0, keep_cell hb4 x1, keep_cell hb4 x2⟩ | assumption | go_keep) (first | (go_at_call 147; refine (CT.out _).mono ?_; rintro e w4 ⟨rfl, hb4⟩))
                  go_wp2
                  go_ret2
                  exact ⟨none, 0, 0, by rw [HRE.out, HQ.out]; rfl, by rw [HRP.out]; unfold tA; rw [HQ.out, if_neg (by decide)]; exact RowS.nil _ _, keep_below hbb (keep_below WB.drew hb4)⟩
                · obtain ⟨m, hm⟩ : ∃ m, m = (sf L k).length - (tk 22).length := ⟨_, rfl⟩
                  have eB : bh 22 p2 (sf L k) = (sf L k).take m ++ gv 22 p2 ((sf L k).drop m) := by unfold bh; rw [hm]
                  have eK : S.extract m S.size = bs ((sf L k).drop m) := by rw [HS.out, bs_extract, bs_size, List.take_length]
                  have eL : S.extract 0 m = bs ((sf L k).take m) := by rw [HS.out, bs_extract, List.drop_zero]
                  have lK : ((sf L k).drop m).length ≤ 16 := by rw [List.length_drop]; omega
                  have lL : ((sf L k).take m).length ≤ 16 := by rw [List.length_take]; omega
                  have hml : m + (tk 22).length = (sf L k).length := by omega
                  have hfit : bE 22 p2 (sf L k) = (if fit ((sf L k).drop m) (tk 22) = true then (if 16 < (bh 22 p2 (sf L k)).length then 9 else 0) else 10) := by unfold bE; rw [if_neg hls, hm]
                  have hgd := drop_gd (m := m) HGd.out
                  have cf := fun W => fitsR_any ((sf L k).drop m) (tk 22) (by omega) W
                  rw [fitR_good hgd, ← hT] at cf
                  have cg := fun W => givesR_any 22 p2 p3 ((sf L k).drop m) hgd (by omega) W
                  have lG := gv_len 22 p2 ((sf L k).drop m)
                  have sG := bs_size (gv 22 p2 ((sf L k).drop m))
                  have sX := bs_size ((sf L k).take m)
                  have eC := bs_append ((sf L k).take m) (gv 22 p2 ((sf L k).drop m))
                  rw [← eB] at eC
                  obtain ⟨K, hK⟩ : ∃ K, K = bs ((sf L k).drop m) := ⟨_, rfl⟩
                  rw [← hK] at eK cf cg
                  have hw : IntKind.i64.wrap ((S.size : Int) - (T.size : Int)) = (m : Int) := by rw [IntWalk.i64_in _ (by omega)]; omega
                  have hd0 : decide ((m : Int) < 0) = false := by rw [decide_eq_false_iff_not]; omega
                  have g1 : (0 : Int) ≤ (m : Int) := by omega
                  have g2 : (m : Int) ≤ (S.size : Int) := by omega
                  have HM' := Lib.hid hfit
                  cases hf : fit ((sf L k).drop m) (tk 22)
                  · have HQ : Hid (tE L = 10) := by
                      show _ = _
                      have h1 : er L k = 10 := by rw [HER.out, HM'.out, hf]; rfl
                      rw [tE_err HW.out HFe.out (by rw [h1]; decide) HK.out, h1]
                    rw [hf] at cf
                    have CF := Lib.hid cf
                    clear cf cg hf hfit HM' hgd eB eC lG sG sX lK lL hml hls sT sS htl hsl hri hT hK hm eL
                    go_wp2_with fail
                    go_region_held3 (fun W => W.cell? ⟨O, k, none⟩ = some (.string S) ∧ W.cell? ⟨b1, o1 + k * 3, none⟩ = some (.int .i64 22) ∧ W.cell? ⟨b1, o1 + k * 3 + 1, none⟩ = some (.int .i64 p2) ∧ W.cell? ⟨b1, o1 + k * 3 + 2, none⟩ = some (.int .i64 p3)) (first | exact ⟨xO, x0, x1, x2⟩ | exact ⟨keep_cell hb4 xO, keep_cell hb4 x0, keep_cell hb4 x1, keep_cell hb4 x2⟩ | assumption | go_keep) (first | (go_at_call 147; refine (CT.out _).mono ?_; rintro e w4 ⟨rfl, hb4⟩))
                    have yO := keep_cell hb4 xO
                    have y0 := keep_cell hb4 x0
                    have y1 := keep_cell hb4 x1
                    have y2 := keep_cell hb4 x2
                    go_wp2_with (first | (go_at_call 147; refine (CT.out _).mono ?_; rintro e w5 ⟨rfl, hb5⟩) | (go_at_call 148; refine (CF.out _).mono ?_; rintro e w6 ⟨rfl, hb6⟩))
                    go_ret2
                    exact ⟨none, 0, 0, by rw [HRE.out, HQ.out]; rfl, by rw [HRP.out]; unfold tA; rw [HQ.out, if_neg (by decide)]; exact RowS.nil _ _, keep_below hbb (keep_below (keep_below (keep_below WB.drew hb4) hb5) hb6)⟩
                  · rw [hf] at cf
                    have hgi : gvI (22, p2, p3) ((sf L k).drop m) = gv 22 p2 ((sf L k).drop m) := by unfold gvI; rw [hri, hf]; simp
                    rw [hgi] at cg
                    obtain ⟨X, hX⟩ : ∃ X, X = bs ((sf L k).take m) := ⟨_, rfl⟩
                    obtain ⟨Y, hY⟩ : ∃ Y, Y = bs (gv 22 p2 ((sf L k).drop m)) := ⟨_, rfl⟩
                    obtain ⟨Z, hZ⟩ : ∃ Z, Z = bs (bh 22 p2 (sf L k)) := ⟨_, rfl⟩
                    have sZ := bs_size (bh 22 p2 (sf L k))
                    rw [← hX] at eL sX eC
                    rw [← hY] at cg sG eC
                    rw [← hZ] at eC sZ
                    have hcat : ¬ (9223372036854775807 < X.size + Y.size) := by omega
                    have hzz : Z.size ≤ 1000 := by
                      have := congrArg ByteArray.size eC
                      rw [ByteArray.size_append] at this
                      omega
                    have hE16 : bE 22 p2 (sf L k) = if 16 < Z.size then 9 else 0 := by rw [HM'.out, hf, sZ]; rfl
                    have HE16 := Lib.hid hE16
                    have HZ := Lib.hid hZ
                    have CF := Lib.hid cf
                    have CG := Lib.hid cg
                    clear cf cg hf hfit HM' hgd eB lG sG sX lK lL hml hls sT sS htl hsl hri hT hK hm hX hY hZ hgi sZ hE16
                    go_wp2_with fail
                    go_region_held3 (fun W => W.cell? ⟨O, k, none⟩ = some (.string S) ∧ W.cell? ⟨b1, o1 + k * 3, none⟩ = some (.int .i64 22) ∧ W.cell? ⟨b1, o1 + k * 3 + 1, none⟩ = some (.int .i64 p2) ∧ W.cell? ⟨b1, o1 + k * 3 + 2, none⟩ = some (.int .i64 p3)) (first | exact ⟨xO, x0, x1, x2⟩ | exact ⟨keep_cell hb4 xO, keep_cell hb4 x0, keep_cell hb4 x1, keep_cell hb4 x2⟩ | assumption | go_keep) (first | (go_at_call 147; refine (CT.out _).mono ?_; rintro e w4 ⟨rfl, hb4⟩))
                    have yO := keep_cell hb4 xO
                    have y0 := keep_cell hb4 x0
                    have y1 := keep_cell hb4 x1
                    have y2 := keep_cell hb4 x2
                    go_wp2_with (first | (go_at_call 147; refine (CT.out _).mono ?_; rintro e w5 ⟨rfl, hb5⟩) | (go_at_call 148; refine (CF.out _).mono ?_; rintro e w6 ⟨rfl, hb6⟩))
                    have vO := keep_cell hb6 (keep_cell hb5 yO)
                    have v0 := keep_cell hb6 (keep_cell hb5 y0)
                    have v1 := keep_cell hb6 (keep_cell hb5 y1)
                    have v2 := keep_cell hb6 (keep_cell hb5 y2)
                    have B6 := keep_below (keep_below (keep_below WB.drew hb4) hb5) hb6
                    have X6 : Below WX.heap.size WX w6 := keep_below (keep_below ((Below.refl _ _).drew.trans hb4) hb5) hb6
                    clear yO y0 y1 y2 xO x0 x1 x2 hb4 hb5 hb6
                    go_region_held3 (fun W => W.cell? ⟨O, k, none⟩ = some (.string S) ∧ W.cell? ⟨b1, o1 + k * 3, none⟩ = some (.int .i64 22) ∧ W.cell? ⟨b1, o1 + k * 3 + 1, none⟩ = some (.int .i64 p2) ∧ W.cell? ⟨b1, o1 + k * 3 + 2, none⟩ = some (.int .i64 p3)) (first | exact ⟨vO, v0, v1, v2⟩ | exact ⟨keep_cell hb7 vO, keep_cell hb7 v0, keep_cell hb7 v1, keep_cell hb7 v2⟩ | assumption | go_keep) (first | (go_at_call 149; refine (CG.out _).mono ?_; rintro e w7 ⟨rfl, hb7⟩))
                    have B7 := keep_below B6.drew hb7
                    have X7 : Below WX.heap.size WX w7 := keep_below X6.drew hb7
                    clear vO v0 v1 v2 hb7 B6 X6 CF CG CT eK eL eC
                    by_cases h16 : 16 < Z.size
                    · have h16' : decide ((16 : Int) < (Z.size : Int)) = true := by rw [decide_eq_true_iff]; omega
                      have HQ : Hid (tE L = 9) := by
                        show _ = _
                        have h1 : er L k = 9 := by rw [HER.out, HE16.out, if_pos h16]
                        rw [tE_err HW.out HFe.out (by rw [h1]; decide) HK.out, h1]
                      go_wp2
                      go_ret2
                      exact ⟨none, 0, 0, by rw [HRE.out, HQ.out]; rfl, by rw [HRP.out]; unfold tA; rw [HQ.out, if_neg (by decide)]; exact RowS.nil _ _, keep_below hbb B7⟩
                    · have h16' : decide ((16 : Int) < (Z.size : Int)) = false := by rw [decide_eq_false_iff_not]; omega
                      have HFe2 : Hid (fe L (k + 1) = 0) := by show _ = _; rw [fe_succ HFe.out, HER.out, HE16.out, if_neg h16]
                      have HSP : Hid (sp L (k + 1) = hands (sp L k) (nx L k) (bh 22 p2 (sf L k))) := by show _ = _; rw [sp, HX.out]; rfl
                      have HCN := Lib.hid (fun W (h : Below w.heap.size w W) => nextsR_any (some ⟨b1, o1, none⟩) n c L k hlt HW.out W (hr.below h))
                      obtain ⟨BH, hBH⟩ : ∃ BH, BH = bh 22 p2 (sf L k) := ⟨_, rfl⟩
                      rw [← hBH] at HSP HZ
                      clear hBH
                      go_wp2_with (go_at_call 150; refine (HCN.out w7 (keep_below hbb B7)).mono ?_; rintro e w8 ⟨an, nn, cn, rfl, hrn, hfr, hb8⟩)
                      have B8 := keep_below B7 hb8
                      have X8 := keep_below X7 hb8
                      have rO8 : w8.rowIs O 9 n (fun j => .string (bs (hands (sp L k) ((nx L k).take 0) BH j).1)) := keep_row X8 HrO.out
                      have rM8 : w8.rowIs M 4 n (fun j => .bool (hands (sp L k) ((nx L k).take 0) BH j).2.1) := keep_row X8 HrM.out
                      have rC8 : w8.rowIs Cb 4 n (fun j => .bool (hands (sp L k) ((nx L k).take 0) BH j).2.2) := keep_row X8 HrC.out
                      have hO7 : O < w7.heap.size := Nat.lt_of_lt_of_le HrO.out.lt X7.size
                      have hM7 : M < w7.heap.size := Nat.lt_of_lt_of_le HrM.out.lt X7.size
                      have hC7 : Cb < w7.heap.size := Nat.lt_of_lt_of_le HrC.out.lt X7.size
                      have hnn : nn = (nx L k).length := by have := hrn.1; rw [List.length_map] at this; exact this
                      have hn2 : nn ≤ 2 := by rw [hnn]; exact nx_len L k
                      have HNN := Lib.hid hnn
                      have HRN := Lib.hid hrn
                      have HFR : Hid (∀ g, an = some g → O < g.block ∧ M < g.block ∧ Cb < g.block) := fun g hg => ⟨Nat.lt_of_lt_of_le hO7 (hfr g hg), Nat.lt_of_lt_of_le hM7 (hfr g hg), Nat.lt_of_lt_of_le hC7 (hfr g hg)⟩
                      clear hb8 B7 X7 X8 HrO HrM HrC hO7 hM7 hC7 hnn hrn hfr HCN h16' h16 hzz hcat
                      go_loopw [15] (fun i wq => ∃ t : Nat, t ≤ nn ∧ i = .int .i64 t ∧ wq.rowIs O 9 n (fun j => .string (bs (hands (sp L k) ((nx L k).take t) BH j).1)) ∧ wq.rowIs M 4 n (fun j => .bool (hands (sp L k) ((nx L k).take t) BH j).2.1) ∧ wq.rowIs Cb 4 n (fun j => .bool (hands (sp L k) ((nx L k).take t) BH j).2.2) ∧ Hid (∀ (p : Addr) v, p.block ≠ O → p.block ≠ M → p.block ≠ Cb → w8.cell? p = some v → wq.cell? p = some v) ∧ Below w2.heap.size w2 wq) (fun i _ => nn - (intOf i).toNat)
                      case atStart => exact ⟨0, by omega, rfl, rO8, rM8, rC8, fun _ _ _ _ _ h => h, B8⟩
                      case round =>
                        clear rO8 rM8 rC8 B8
                        obtain ⟨t, htn, rfl, rOq, rMq, rCq, HKq, WBq⟩ := hrel
                        by_cases htl : t < nn
                        · obtain ⟨bn, on, rfl, hBn, hcn⟩ := HRN.out.2 (by omega)
                          have htl2 : t < (nx L k).length := by rw [← HNN.out]; exact htl
                          have hq := nx_lt HW.out HK.out (List.getElem_mem htl2)
                          rw [← HL.out] at hq
                          have dq := hcn t htl
                          have hbn := HFR.out _ rfl
                          replace dq := HKq.out ⟨bn, on + t, none⟩ _ (by have := hbn.1; simp only at this ⊢; omega) (by have := hbn.2.1; simp only at this ⊢; omega) (by have := hbn.2.2; simp only at this ⊢; omega) dq
                          have e9 : ((nx L k).map (fun q : Nat => (q : Int))).getD t 0 = ((nx L k)[t] : Nat) := by
                            rw [List.getD_eq_getElem?_getD, List.getElem?_map, List.getElem?_eq_getElem htl2]; rfl
                          rw [e9] at dq
                          have HTK := Lib.hid (take_more htl2)
                          generalize (nx L k)[t] = q at hq dq HTK
                          obtain ⟨F, hF⟩ : ∃ F, F = hands (sp L k) ((nx L k).take t) BH := ⟨_, rfl⟩
                          rw [← hF] at rOq rMq rCq
                          have HF := Lib.hid hF
                          have cO := rOq.cell hq
                          have cM := rMq.cell hq
                          have cC := rCq.cell hq
                          have zO := rOq.frozen q
                          have zM := rMq.frozen q
                          have zC := rCq.frozen q
                          have tO := rOq.lt
                          have tM := rMq.lt
                          have tC := rCq.lt
                          have f6 : (0 : Int) ≤ (q : Int) := by omega
                          have f7 : (q : Int) < (n : Int) := by omega
                          have f8 : (0 : Int) ≤ (t : Int) := by omega
                          have f9 : (t : Int) < (nn : Int) := by omega
                          have hne := ne_texts (F q).1 BH
                          rw [← HZ.out] at hne
                          have HRO := Lib.hid rOq
                          have HRM := Lib.hid rMq
                          have HRC := Lib.hid rCq
                          have nO : bn ≠ O := Nat.ne_of_gt hbn.1
                          have nM : bn ≠ M := Nat.ne_of_gt hbn.2.1
                          have nC : bn ≠ Cb := Nat.ne_of_gt hbn.2.2
                          clear hcn e9 htl2 hF rOq rMq rCq hBn hbn
                          go_wp2_with fail
                          cases hcl : (F q).2.2
                          · rw [hcl] at cC
                            cases hso : (F q).2.1
                            · rw [hso] at cM
                              have hv : false = ((F q).2.2 || ((F q).2.1 && (F q).1 != BH)) := by rw [hcl, hso]; rfl
                              obtain ⟨z, hz⟩ : ∃ z, z = false := ⟨_, rfl⟩
                              rw [← hz] at cM
                              have HZ2 := Lib.hid hz
                              have HV := Lib.hid hv
                              clear hcl hso hz hv hne
                              go_still_tail 33, (by kernel_rfl)
                              refine still_skip ?hh ?_
                              case hh => (have hz := HZ2.out; subst hz; first | kernel_rfl | rfl)
                              simp only [Act.put, List.setIfInBounds_toArray, List.set_cons_succ, List.set_cons_zero]
                              refine still_skip ?hh ?_
                              case hh => (have hz := HZ2.out; subst hz; first | kernel_rfl | rfl)
                              simp only [Act.put, List.setIfInBounds_toArray, List.set_cons_succ, List.set_cons_zero]
                              refine still_skip ?hh ?_
                              case hh => (have hz := HZ2.out; subst hz; first | kernel_rfl | rfl)
                              simp only [Act.put, List.setIfInBounds_toArray, List.set_cons_succ, List.set_cons_zero]
                              refine still_skip ?hh ?_
                              case hh => (have hz := HZ2.out; subst hz; first | kernel_rfl | rfl)
                              simp only [Act.put, List.setIfInBounds_toArray, List.set_cons_succ, List.set_cons_zero]
                              refine still_skip ?hh ?_
                              case hh => (have hz := HZ2.out; subst hz; first | kernel_rfl | rfl)
                              simp only [Act.put, List.setIfInBounds_toArray, List.set_cons_succ, List.set_cons_zero]
                              refine still_skip ?hh ?_
                              case hh => (have hz := HZ2.out; subst hz; first | kernel_rfl | rfl)
                              simp only [Act.put, List.setIfInBounds_toArray, List.set_cons_succ, List.set_cons_zero]
                              refine still_skip ?hh ?_
                              case hh => (have hz := HZ2.out; subst hz; first | kernel_rfl | rfl)
                              simp only [Act.put, List.setIfInBounds_toArray, List.set_cons_succ, List.set_cons_zero]
                              refine still_skip ?hh ?_
                              case hh => (have hz := HZ2.out; subst hz; first | kernel_rfl | rfl)
                              simp only [Act.put, List.setIfInBounds_toArray, List.set_cons_succ, List.set_cons_zero]
                              refine still_skip ?hh ?_
                              case hh => (have hz := HZ2.out; subst hz; first | kernel_rfl | rfl)
                              simp only [Act.put, List.setIfInBounds_toArray, List.set_cons_succ, List.set_cons_zero]
                              obtain rfl : z = false := HZ2.out
                              clear HZ2
                              repeat still_step
                              try refine wpStill_nil ?_
                              change wpList _ _ _ _ _ wr.drew
                              have RO9 : wr.drew.rowIs O 9 n (fun j => .string (bs (F j).1)) := HRO.out
                              have RM9 : wr.drew.rowIs M 4 n (fun j => .bool (F j).2.1) := HRM.out
                              have RC9 : wr.drew.rowIs Cb 4 n (fun j => .bool (F j).2.2) := HRC.out
                              have K9 : Hid (∀ (p : Addr) v, p.block ≠ O → p.block ≠ M → p.block ≠ Cb → w8.cell? p = some v → wr.drew.cell? p = some v) := HKq
                              have B9 : Below w2.heap.size w2 wr.drew := WBq.drew
                              have q9 : wr.drew.cell? ⟨bn, on + t, none⟩ = some (.int .i64 (q : Nat)) := dq
                              clear HRO HRM HRC HKq WBq dq cO cM cC zO zM zC tO tM tC
                              generalize wr.drew = W9 at RO9 RM9 RC9 K9 B9 q9 ⊢
                              have cC := RC9.cell hq
                              have zC := RC9.frozen q
                              have tC := RC9.lt
                              have m1 := (RM9.setOther (a := ⟨Cb, q, none⟩) hMC (.bool false)).cell hq
                              have m2 := (RM9.setOther (a := ⟨Cb, q, none⟩) hMC (.bool false)).frozen q
                              have m3 := (RM9.setOther (a := ⟨Cb, q, none⟩) hMC (.bool false)).lt
                              have s1 := ((RO9.setOther (a := ⟨Cb, q, none⟩) hOC (.bool false)).setOther (a := ⟨M, q, none⟩) hOM (.bool true)).cell hq
                              have s2 := ((RO9.setOther (a := ⟨Cb, q, none⟩) hOC (.bool false)).setOther (a := ⟨M, q, none⟩) hOM (.bool true)).frozen q
                              have s3 := ((RO9.setOther (a := ⟨Cb, q, none⟩) hOC (.bool false)).setOther (a := ⟨M, q, none⟩) hOM (.bool true)).lt
                              have n1' := keep_set (v := .bool false) (q := ⟨Cb, q, none⟩) (p := ⟨bn, on + t, none⟩) nC q9
                              have n2' := keep_set (v := .bool true) (q := ⟨M, q, none⟩) (p := ⟨bn, on + t, none⟩) nM n1'
                              have T3 := Lib.hid (three_rows (q := q) hOM hOC hMC HZ.out HV.out RO9 RM9 RC9)
                              have K10 : Hid (∀ (p : Addr) v', p.block ≠ O → p.block ≠ M → p.block ≠ Cb → w8.cell? p = some v' → (((W9.setCell ⟨Cb, q, none⟩ (.bool false)).setCell ⟨M, q, none⟩ (.bool true)).setCell ⟨O, q, none⟩ (.string Z)).cell? p = some v') :=
                                fun p v' h1 h2 h3 h4 => keep_set h1 (keep_set h2 (keep_set h3 (K9.out p v' h1 h2 h3 h4)))
                              have B10 : Below w2.heap.size w2 (((W9.setCell ⟨Cb, q, none⟩ (.bool false)).setCell ⟨M, q, none⟩ (.bool true)).setCell ⟨O, q, none⟩ (.string Z)) := ((B9.setCell (p := ⟨Cb, q, none⟩) lC _).setCell (p := ⟨M, q, none⟩) lM _).setCell (p := ⟨O, q, none⟩) lO _
                              clear RO9 RM9 RC9 K9 B9
                              go_wp2
                              rw [HF.out, ← hands_snoc, ← HTK.out] at T3
                              go_roundw
                              case rel => exact ⟨t + 1, by omega, by go_num, T3.out.1, T3.out.2.1, T3.out.2.2, K10, B10⟩
                              case measure => simp [intOf]; omega
                            · rw [hso] at cM
                              have hv : ((F q).1 != BH) = ((F q).2.2 || ((F q).2.1 && (F q).1 != BH)) := by rw [hcl, hso]; rfl
                              obtain ⟨vv, hvv⟩ : ∃ vv, vv = ((F q).1 != BH) := ⟨_, rfl⟩
                              rw [← hvv] at hne hv
                              obtain ⟨OT, hOT⟩ : ∃ OT, OT = bs (F q).1 := ⟨_, rfl⟩
                              rw [← hOT] at cO hne
                              have HV : Hid (vv = ((F q).2.2 || ((F q).2.1 && (F q).1 != BH))) := by show _ = _; rw [hcl, hso, hvv]; rfl
                              clear hcl hso hv hvv hOT
                              go_still_tail 33, (by kernel_rfl)
                              change wpList _ _ _ _ _ wr.drew
                              have RO9 : wr.drew.rowIs O 9 n (fun j => .string (bs (F j).1)) := HRO.out
                              have RM9 : wr.drew.rowIs M 4 n (fun j => .bool (F j).2.1) := HRM.out
                              have RC9 : wr.drew.rowIs Cb 4 n (fun j => .bool (F j).2.2) := HRC.out
                              have K9 : Hid (∀ (p : Addr) v, p.block ≠ O → p.block ≠ M → p.block ≠ Cb → w8.cell? p = some v → wr.drew.cell? p = some v) := HKq
                              have B9 : Below w2.heap.size w2 wr.drew := WBq.drew
                              have q9 : wr.drew.cell? ⟨bn, on + t, none⟩ = some (.int .i64 (q : Nat)) := dq
                              clear HRO HRM HRC HKq WBq dq cO cM cC zO zM zC tO tM tC
                              generalize wr.drew = W9 at RO9 RM9 RC9 K9 B9 q9 ⊢
                              have cC := RC9.cell hq
                              have zC := RC9.frozen q
                              have tC := RC9.lt
                              have m1 := (RM9.setOther (a := ⟨Cb, q, none⟩) hMC (.bool vv)).cell hq
                              have m2 := (RM9.setOther (a := ⟨Cb, q, none⟩) hMC (.bool vv)).frozen q
                              have m3 := (RM9.setOther (a := ⟨Cb, q, none⟩) hMC (.bool vv)).lt
                              have s1 := ((RO9.setOther (a := ⟨Cb, q, none⟩) hOC (.bool vv)).setOther (a := ⟨M, q, none⟩) hOM (.bool true)).cell hq
                              have s2 := ((RO9.setOther (a := ⟨Cb, q, none⟩) hOC (.bool vv)).setOther (a := ⟨M, q, none⟩) hOM (.bool true)).frozen q
                              have s3 := ((RO9.setOther (a := ⟨Cb, q, none⟩) hOC (.bool vv)).setOther (a := ⟨M, q, none⟩) hOM (.bool true)).lt
                              have n1' := keep_set (v := .bool vv) (q := ⟨Cb, q, none⟩) (p := ⟨bn, on + t, none⟩) nC q9
                              have n2' := keep_set (v := .bool true) (q := ⟨M, q, none⟩) (p := ⟨bn, on + t, none⟩) nM n1'
                              have T3 := Lib.hid (three_rows (q := q) hOM hOC hMC HZ.out HV.out RO9 RM9 RC9)
                              have K10 : Hid (∀ (p : Addr) v', p.block ≠ O → p.block ≠ M → p.block ≠ Cb → w8.cell? p = some v' → (((W9.setCell ⟨Cb, q, none⟩ (.bool vv)).setCell ⟨M, q, none⟩ (.bool true)).setCell ⟨O, q, none⟩ (.string Z)).cell? p = some v') :=
                                fun p v' h1 h2 h3 h4 => keep_set h1 (keep_set h2 (keep_set h3 (K9.out p v' h1 h2 h3 h4)))
                              have B10 : Below w2.heap.size w2 (((W9.setCell ⟨Cb, q, none⟩ (.bool vv)).setCell ⟨M, q, none⟩ (.bool true)).setCell ⟨O, q, none⟩ (.string Z)) := ((B9.setCell (p := ⟨Cb, q, none⟩) lC _).setCell (p := ⟨M, q, none⟩) lM _).setCell (p := ⟨O, q, none⟩) lO _
                              clear RO9 RM9 RC9 K9 B9
                              go_wp2
                              rw [HF.out, ← hands_snoc, ← HTK.out] at T3
                              go_roundw
                              case rel => exact ⟨t + 1, by omega, by go_num, T3.out.1, T3.out.2.1, T3.out.2.2, K10, B10⟩
                              case measure => simp [intOf]; omega
                          · rw [hcl] at cC
                            have hv : true = ((F q).2.2 || ((F q).2.1 && (F q).1 != BH)) := by rw [hcl]; rfl
                            obtain ⟨z, hz⟩ : ∃ z, z = true := ⟨_, rfl⟩
                            rw [← hz] at cC
                            have HZ2 := Lib.hid hz
                            have HV := Lib.hid hv
                            clear hcl hz hv hne
                            go_still_tail 33, (by kernel_rfl)
                            refine still_skip ?hh ?_
                            case hh => (have hz := HZ2.out; subst hz; first | kernel_rfl | rfl)
                            simp only [Act.put, List.setIfInBounds_toArray, List.set_cons_succ, List.set_cons_zero]
                            refine still_skip ?hh ?_
                            case hh => (have hz := HZ2.out; subst hz; first | kernel_rfl | rfl)
                            simp only [Act.put, List.setIfInBounds_toArray, List.set_cons_succ, List.set_cons_zero]
                            refine still_skip ?hh ?_
                            case hh => (have hz := HZ2.out; subst hz; first | kernel_rfl | rfl)
                            simp only [Act.put, List.setIfInBounds_toArray, List.set_cons_succ, List.set_cons_zero]
                            refine still_skip ?hh ?_
                            case hh => (have hz := HZ2.out; subst hz; first | kernel_rfl | rfl)
                            simp only [Act.put, List.setIfInBounds_toArray, List.set_cons_succ, List.set_cons_zero]
                            refine still_skip ?hh ?_
                            case hh => (have hz := HZ2.out; subst hz; first | kernel_rfl | rfl)
                            simp only [Act.put, List.setIfInBounds_toArray, List.set_cons_succ, List.set_cons_zero]
                            refine still_skip ?hh ?_
                            case hh => (have hz := HZ2.out; subst hz; first | kernel_rfl | rfl)
                            simp only [Act.put, List.setIfInBounds_toArray, List.set_cons_succ, List.set_cons_zero]
                            refine still_skip ?hh ?_
                            case hh => (have hz := HZ2.out; subst hz; first | kernel_rfl | rfl)
                            simp only [Act.put, List.setIfInBounds_toArray, List.set_cons_succ, List.set_cons_zero]
                            obtain ⟨uu, huu⟩ : ∃ uu : Value, uu = undef := ⟨_, rfl⟩
                            have HU := Lib.hid huu
                            clear huu
                            refine still_skip2 HU.out ?hh ?_
                            case hh => (have hz := HZ2.out; subst hz; first | kernel_rfl | rfl)
                            simp only [Act.put, List.setIfInBounds_toArray, List.set_cons_succ, List.set_cons_zero]
                            refine still_skip ?hh ?_
                            case hh => (have hz := HZ2.out; have hu := HU.out; subst hz; subst hu; first | kernel_rfl | rfl)
                            simp only [Act.put, List.setIfInBounds_toArray, List.set_cons_succ, List.set_cons_zero]
                            refine still_skip ?hh ?_
                            case hh => (have hz := HZ2.out; have hu := HU.out; subst hz; subst hu; first | kernel_rfl | rfl)
                            simp only [Act.put, List.setIfInBounds_toArray, List.set_cons_succ, List.set_cons_zero]
                            refine still_skip ?hh ?_
                            case hh => (have hz := HZ2.out; have hu := HU.out; subst hz; subst hu; first | kernel_rfl | rfl)
                            simp only [Act.put, List.setIfInBounds_toArray, List.set_cons_succ, List.set_cons_zero]
                            refine still_skip ?hh ?_
                            case hh => (have hz := HZ2.out; have hu := HU.out; subst hz; subst hu; first | kernel_rfl | rfl)
                            simp only [Act.put, List.setIfInBounds_toArray, List.set_cons_succ, List.set_cons_zero]
                            refine still_skip ?hh ?_
                            case hh => (have hz := HZ2.out; have hu := HU.out; subst hz; subst hu; first | kernel_rfl | rfl)
                            simp only [Act.put, List.setIfInBounds_toArray, List.set_cons_succ, List.set_cons_zero]
                            refine still_skip ?hh ?_
                            case hh => (have hz := HZ2.out; have hu := HU.out; subst hz; subst hu; first | kernel_rfl | rfl)
                            simp only [Act.put, List.setIfInBounds_toArray, List.set_cons_succ, List.set_cons_zero]
                            refine still_skip ?hh ?_
                            case hh => (have hz := HZ2.out; have hu := HU.out; subst hz; subst hu; first | kernel_rfl | rfl)
                            simp only [Act.put, List.setIfInBounds_toArray, List.set_cons_succ, List.set_cons_zero]
                            refine still_skip ?hh ?_
                            case hh => (have hz := HZ2.out; have hu := HU.out; subst hz; subst hu; first | kernel_rfl | rfl)
                            simp only [Act.put, List.setIfInBounds_toArray, List.set_cons_succ, List.set_cons_zero]
                            refine still_skip ?hh ?_
                            case hh => (have hz := HZ2.out; have hu := HU.out; subst hz; subst hu; first | kernel_rfl | rfl)
                            simp only [Act.put, List.setIfInBounds_toArray, List.set_cons_succ, List.set_cons_zero]
                            refine still_skip ?hh ?_
                            case hh => (have hz := HZ2.out; subst hz; first | kernel_rfl | rfl)
                            simp only [Act.put, List.setIfInBounds_toArray, List.set_cons_succ, List.set_cons_zero]
                            obtain rfl : z = true := HZ2.out
                            clear HZ2
                            repeat still_step
                            try refine wpStill_nil ?_
                            change wpList _ _ _ _ _ wr.drew
                            have RO9 : wr.drew.rowIs O 9 n (fun j => .string (bs (F j).1)) := HRO.out
                            have RM9 : wr.drew.rowIs M 4 n (fun j => .bool (F j).2.1) := HRM.out
                            have RC9 : wr.drew.rowIs Cb 4 n (fun j => .bool (F j).2.2) := HRC.out
                            have K9 : Hid (∀ (p : Addr) v, p.block ≠ O → p.block ≠ M → p.block ≠ Cb → w8.cell? p = some v → wr.drew.cell? p = some v) := HKq
                            have B9 : Below w2.heap.size w2 wr.drew := WBq.drew
                            have q9 : wr.drew.cell? ⟨bn, on + t, none⟩ = some (.int .i64 (q : Nat)) := dq
                            clear HRO HRM HRC HKq WBq dq cO cM cC zO zM zC tO tM tC
                            generalize wr.drew = W9 at RO9 RM9 RC9 K9 B9 q9 ⊢
                            have cC := RC9.cell hq
                            have zC := RC9.frozen q
                            have tC := RC9.lt
                            have m1 := (RM9.setOther (a := ⟨Cb, q, none⟩) hMC (.bool true)).cell hq
                            have m2 := (RM9.setOther (a := ⟨Cb, q, none⟩) hMC (.bool true)).frozen q
                            have m3 := (RM9.setOther (a := ⟨Cb, q, none⟩) hMC (.bool true)).lt
                            have s1 := ((RO9.setOther (a := ⟨Cb, q, none⟩) hOC (.bool true)).setOther (a := ⟨M, q, none⟩) hOM (.bool true)).cell hq
                            have s2 := ((RO9.setOther (a := ⟨Cb, q, none⟩) hOC (.bool true)).setOther (a := ⟨M, q, none⟩) hOM (.bool true)).frozen q
                            have s3 := ((RO9.setOther (a := ⟨Cb, q, none⟩) hOC (.bool true)).setOther (a := ⟨M, q, none⟩) hOM (.bool true)).lt
                            have n1' := keep_set (v := .bool true) (q := ⟨Cb, q, none⟩) (p := ⟨bn, on + t, none⟩) nC q9
                            have n2' := keep_set (v := .bool true) (q := ⟨M, q, none⟩) (p := ⟨bn, on + t, none⟩) nM n1'
                            have T3 := Lib.hid (three_rows (q := q) hOM hOC hMC HZ.out HV.out RO9 RM9 RC9)
                            have K10 : Hid (∀ (p : Addr) v', p.block ≠ O → p.block ≠ M → p.block ≠ Cb → w8.cell? p = some v' → (((W9.setCell ⟨Cb, q, none⟩ (.bool true)).setCell ⟨M, q, none⟩ (.bool true)).setCell ⟨O, q, none⟩ (.string Z)).cell? p = some v') :=
                              fun p v' h1 h2 h3 h4 => keep_set h1 (keep_set h2 (keep_set h3 (K9.out p v' h1 h2 h3 h4)))
                            have B10 : Below w2.heap.size w2 (((W9.setCell ⟨Cb, q, none⟩ (.bool true)).setCell ⟨M, q, none⟩ (.bool true)).setCell ⟨O, q, none⟩ (.string Z)) := ((B9.setCell (p := ⟨Cb, q, none⟩) lC _).setCell (p := ⟨M, q, none⟩) lM _).setCell (p := ⟨O, q, none⟩) lO _
                            clear RO9 RM9 RC9 K9 B9
                            go_wp2
                            rw [HF.out, ← hands_snoc, ← HTK.out] at T3
                            go_roundw
                            case rel => exact ⟨t + 1, by omega, by go_num, T3.out.1, T3.out.2.1, T3.out.2.2, K10, B10⟩
                            case measure => simp [intOf]; omega
                        · have htt : (nx L k).take t = nx L k := List.take_of_length_le (by rw [← HNN.out]; omega)
                          rw [htt, ← HSP.out] at rOq rMq rCq
                          have HrOq := Lib.hid rOq
                          have HrMq := Lib.hid rMq
                          have HrCq := Lib.hid rCq
                          clear htt rOq rMq rCq
                          go_wp2
                          go_roundw
                          case rel => exact ⟨k + 1, by omega, by go_num, HFe2, HrOq, HrMq, HrCq, WBq⟩
                          case measure => simp [intOf]; omega
              · rw [hz] at hne
                have hne2 : (S.toList == T.toList) = false := by simpa using hne
                have e10 : er L k = 10 := er_n HH.out HD.out (by rw [HX.out]) (by rw [HT.out]; simpa using hz)
                have HQ := Lib.hid (tE_err HW.out HFe.out (by rw [e10]; decide) HK.out)
                rw [e10] at HQ
                clear hz HT HH HD e10
                go_wp2
                go_quiet (fail)
                go_wp2
                go_ret2
                exact ⟨none, 0, 0, by rw [HRE.out, HQ.out]; rfl, by rw [HRP.out]; unfold tA; rw [HQ.out, if_neg (by decide)]; exact RowS.nil _ _, hbw.trans ⟨rfl, rfl, rfl, Nat.le_refl _, fun _ _ => rfl⟩⟩
            · have HER : Hid (er L k = bE p1 p2 (sf L k)) := by
                show _ = _
                have := er_b HH.out HD.out (by rw [HX.out]; intro e; exact absurd e h22)
                rw [HX.out] at this; exact this
              have e22 : (p1 == 22) = false := by simpa using h22
              clear HH HD h22
              go_wp2
              go_quiet (fail)
              have rOx : (wr.drewN nq).rowIs O 9 n (fO L k) := HrO.out
              have rMx : (wr.drewN nq).rowIs M 4 n (fM L k) := HrM.out
              have rCx : (wr.drewN nq).rowIs Cb 4 n (fC L k) := HrC.out
              have WB : Below w2.heap.size w2 (wr.drewN nq) := hbl.trans ⟨rfl, rfl, rfl, Nat.le_refl _, fun _ _ => rfl⟩
              have x0 : (wr.drewN nq).cell? ⟨b1, o1 + k * 3, none⟩ = some (.int .i64 p1) := hc1
              have x1 : (wr.drewN nq).cell? ⟨b1, o1 + k * 3 + 1, none⟩ = some (.int .i64 p2) := hc2
              have x2 : (wr.drewN nq).cell? ⟨b1, o1 + k * 3 + 2, none⟩ = some (.int .i64 p3) := hc3
              have xO : (wr.drewN nq).cell? ⟨O, k, none⟩ = some (.string S) := dO
              clear HrO HrM HrC dO dM dC hc1 hc2 hc3 hbl hbw e22 f1 f2
              generalize wr.drewN nq = WX at rOx rMx rCx WB x0 x1 x2 xO ⊢
              have HrO := Lib.hid rOx
              have HrM := Lib.hid rMx
              have HrC := Lib.hid rCx
              clear rOx rMx rCx
              have hri := can_right (mE_zero (wE_zero HW.out).1).1 HK.out
              rw [HX.out] at hri
              have hti : tkI (p1, p2, p3) = tk p1 := by unfold tkI; rw [hri]; rfl
              have ct := fun W => takesR_any p1 p2 p3 W
              rw [hti] at ct
              have htl := tk_len p1
              have sT := bs_size (tk p1)
              have sS := bs_size (sf L k)
              rw [← HS.out] at sS
              have hsl := HSl.out
              obtain ⟨T, hT⟩ : ∃ T, T = bs (tk p1) := ⟨_, rfl⟩
              rw [← hT] at ct sT
              have CT := Lib.hid ct
              clear ct hti
              by_cases hls : (sf L k).length < (tk p1).length
              · have hE : bE p1 p2 (sf L k) = 9 := by unfold bE; rw [if_pos hls]
                have HQ : Hid (tE L = 9) := by
                  show _ = _
                  have h1 : er L k = 9 := by rw [HER.out, hE]
                  rw [tE_err HW.out HFe.out (by rw [h1]; decide) HK.out, h1]
                have hw : IntKind.i64.wrap ((S.size : Int) - (T.size : Int)) = (S.size : Int) - (T.size : Int) := IntWalk.i64_in _ (by omega)
                have hd0 : decide ((S.size : Int) - (T.size : Int) < 0) = true := by rw [decide_eq_true_iff]; omega
                have hd1 : (S.size : Int) - (T.size : Int) < 0 := by omega
                clear hE hls sT sS htl hsl hri hT
                go_wp2_with fail
                go_region_held3 (fun W => W.cell? ⟨O, k, none⟩ = some (.string S) ∧ W.cell? ⟨b1, o1 + k * 3, none⟩ = some (.int .i64 p1) ∧ W.cell? ⟨b1, o1 + k * 3 + 1, none⟩ = some (.int .i64 p2) ∧ W.cell? ⟨b1, o1 + k * 3 + 2, none⟩ = some (.int .i64 p3)) (first | exact ⟨xO, x0, x1, x2⟩ | exact ⟨keep_cell hb4 xO, keep_cell hb4 x0, keep_cell hb4 x1, keep_cell hb4 x2⟩ | assumption | go_keep) (first | (go_at_call 147; refine (CT.out _).mono ?_; rintro e w4 ⟨rfl, hb4⟩))
                go_wp2
                go_ret2
                exact ⟨none, 0, 0, by rw [HRE.out, HQ.out]; rfl, by rw [HRP.out]; unfold tA; rw [HQ.out, if_neg (by decide)]; exact RowS.nil _ _, keep_below hbb (keep_below WB.drew hb4)⟩
              · obtain ⟨m, hm⟩ : ∃ m, m = (sf L k).length - (tk p1).length := ⟨_, rfl⟩
                have eB : bh p1 p2 (sf L k) = (sf L k).take m ++ gv p1 p2 ((sf L k).drop m) := by unfold bh; rw [hm]
                have eK : S.extract m S.size = bs ((sf L k).drop m) := by rw [HS.out, bs_extract, bs_size, List.take_length]
                have eL : S.extract 0 m = bs ((sf L k).take m) := by rw [HS.out, bs_extract, List.drop_zero]
                have lK : ((sf L k).drop m).length ≤ 16 := by rw [List.length_drop]; omega
                have lL : ((sf L k).take m).length ≤ 16 := by rw [List.length_take]; omega
                have hml : m + (tk p1).length = (sf L k).length := by omega
                have hfit : bE p1 p2 (sf L k) = (if fit ((sf L k).drop m) (tk p1) = true then (if 16 < (bh p1 p2 (sf L k)).length then 9 else 0) else 10) := by unfold bE; rw [if_neg hls, hm]
                have hgd := drop_gd (m := m) HGd.out
                have cf := fun W => fitsR_any ((sf L k).drop m) (tk p1) (by omega) W
                rw [fitR_good hgd, ← hT] at cf
                have cg := fun W => givesR_any p1 p2 p3 ((sf L k).drop m) hgd (by omega) W
                have lG := gv_len p1 p2 ((sf L k).drop m)
                have sG := bs_size (gv p1 p2 ((sf L k).drop m))
                have sX := bs_size ((sf L k).take m)
                have eC := bs_append ((sf L k).take m) (gv p1 p2 ((sf L k).drop m))
                rw [← eB] at eC
                obtain ⟨K, hK⟩ : ∃ K, K = bs ((sf L k).drop m) := ⟨_, rfl⟩
                rw [← hK] at eK cf cg
                have hw : IntKind.i64.wrap ((S.size : Int) - (T.size : Int)) = (m : Int) := by rw [IntWalk.i64_in _ (by omega)]; omega
                have hd0 : decide ((m : Int) < 0) = false := by rw [decide_eq_false_iff_not]; omega
                have g1 : (0 : Int) ≤ (m : Int) := by omega
                have g2 : (m : Int) ≤ (S.size : Int) := by omega
                have HM' := Lib.hid hfit
                cases hf : fit ((sf L k).drop m) (tk p1)
                · have HQ : Hid (tE L = 10) := by
                    show _ = _
                    have h1 : er L k = 10 := by rw [HER.out, HM'.out, hf]; rfl
                    rw [tE_err HW.out HFe.out (by rw [h1]; decide) HK.out, h1]
                  rw [hf] at cf
                  have CF := Lib.hid cf
                  clear cf cg hf hfit HM' hgd eB eC lG sG sX lK lL hml hls sT sS htl hsl hri hT hK hm eL
                  go_wp2_with fail
                  go_region_held3 (fun W => W.cell? ⟨O, k, none⟩ = some (.string S) ∧ W.cell? ⟨b1, o1 + k * 3, none⟩ = some (.int .i64 p1) ∧ W.cell? ⟨b1, o1 + k * 3 + 1, none⟩ = some (.int .i64 p2) ∧ W.cell? ⟨b1, o1 + k * 3 + 2, none⟩ = some (.int .i64 p3)) (first | exact ⟨xO, x0, x1, x2⟩ | exact ⟨keep_cell hb4 xO, keep_cell hb4 x0, keep_cell hb4 x1, keep_cell hb4 x2⟩ | assumption | go_keep) (first | (go_at_call 147; refine (CT.out _).mono ?_; rintro e w4 ⟨rfl, hb4⟩))
                  have yO := keep_cell hb4 xO
                  have y0 := keep_cell hb4 x0
                  have y1 := keep_cell hb4 x1
                  have y2 := keep_cell hb4 x2
                  go_wp2_with (first | (go_at_call 147; refine (CT.out _).mono ?_; rintro e w5 ⟨rfl, hb5⟩) | (go_at_call 148; refine (CF.out _).mono ?_; rintro e w6 ⟨rfl, hb6⟩))
                  go_ret2
                  exact ⟨none, 0, 0, by rw [HRE.out, HQ.out]; rfl, by rw [HRP.out]; unfold tA; rw [HQ.out, if_neg (by decide)]; exact RowS.nil _ _, keep_below hbb (keep_below (keep_below (keep_below WB.drew hb4) hb5) hb6)⟩
                · rw [hf] at cf
                  have hgi : gvI (p1, p2, p3) ((sf L k).drop m) = gv p1 p2 ((sf L k).drop m) := by unfold gvI; rw [hri, hf]; simp
                  rw [hgi] at cg
                  obtain ⟨X, hX⟩ : ∃ X, X = bs ((sf L k).take m) := ⟨_, rfl⟩
                  obtain ⟨Y, hY⟩ : ∃ Y, Y = bs (gv p1 p2 ((sf L k).drop m)) := ⟨_, rfl⟩
                  obtain ⟨Z, hZ⟩ : ∃ Z, Z = bs (bh p1 p2 (sf L k)) := ⟨_, rfl⟩
                  have sZ := bs_size (bh p1 p2 (sf L k))
                  rw [← hX] at eL sX eC
                  rw [← hY] at cg sG eC
                  rw [← hZ] at eC sZ
                  have hcat : ¬ (9223372036854775807 < X.size + Y.size) := by omega
                  have hzz : Z.size ≤ 1000 := by
                    have := congrArg ByteArray.size eC
                    rw [ByteArray.size_append] at this
                    omega
                  have hE16 : bE p1 p2 (sf L k) = if 16 < Z.size then 9 else 0 := by rw [HM'.out, hf, sZ]; rfl
                  have HE16 := Lib.hid hE16
                  have HZ := Lib.hid hZ
                  have CF := Lib.hid cf
                  have CG := Lib.hid cg
                  clear cf cg hf hfit HM' hgd eB lG sG sX lK lL hml hls sT sS htl hsl hri hT hK hm hX hY hZ hgi sZ hE16
                  go_wp2_with fail
                  go_region_held3 (fun W => W.cell? ⟨O, k, none⟩ = some (.string S) ∧ W.cell? ⟨b1, o1 + k * 3, none⟩ = some (.int .i64 p1) ∧ W.cell? ⟨b1, o1 + k * 3 + 1, none⟩ = some (.int .i64 p2) ∧ W.cell? ⟨b1, o1 + k * 3 + 2, none⟩ = some (.int .i64 p3)) (first | exact ⟨xO, x0, x1, x2⟩ | exact ⟨keep_cell hb4 xO, keep_cell hb4 x0, keep_cell hb4 x1, keep_cell hb4 x2⟩ | assumption | go_keep) (first | (go_at_call 147; refine (CT.out _).mono ?_; rintro e w4 ⟨rfl, hb4⟩))
                  have yO := keep_cell hb4 xO
                  have y0 := keep_cell hb4 x0
                  have y1 := keep_cell hb4 x1
                  have y2 := keep_cell hb4 x2
                  go_wp2_with (first | (go_at_call 147; refine (CT.out _).mono ?_; rintro e w5 ⟨rfl, hb5⟩) | (go_at_call 148; refine (CF.out _).mono ?_; rintro e w6 ⟨rfl, hb6⟩))
                  have vO := keep_cell hb6 (keep_cell hb5 yO)
                  have v0 := keep_cell hb6 (keep_cell hb5 y0)
                  have v1 := keep_cell hb6 (keep_cell hb5 y1)
                  have v2 := keep_cell hb6 (keep_cell hb5 y2)
                  have B6 := keep_below (keep_below (keep_below WB.drew hb4) hb5) hb6
                  have X6 : Below WX.heap.size WX w6 := keep_below (keep_below ((Below.refl _ _).drew.trans hb4) hb5) hb6
                  clear yO y0 y1 y2 xO x0 x1 x2 hb4 hb5 hb6
                  go_region_held3 (fun W => W.cell? ⟨O, k, none⟩ = some (.string S) ∧ W.cell? ⟨b1, o1 + k * 3, none⟩ = some (.int .i64 p1) ∧ W.cell? ⟨b1, o1 + k * 3 + 1, none⟩ = some (.int .i64 p2) ∧ W.cell? ⟨b1, o1 + k * 3 + 2, none⟩ = some (.int .i64 p3)) (first | exact ⟨vO, v0, v1, v2⟩ | exact ⟨keep_cell hb7 vO, keep_cell hb7 v0, keep_cell hb7 v1, keep_cell hb7 v2⟩ | assumption | go_keep) (first | (go_at_call 149; refine (CG.out _).mono ?_; rintro e w7 ⟨rfl, hb7⟩))
                  have B7 := keep_below B6.drew hb7
                  have X7 : Below WX.heap.size WX w7 := keep_below X6.drew hb7
                  clear vO v0 v1 v2 hb7 B6 X6 CF CG CT eK eL eC
                  by_cases h16 : 16 < Z.size
                  · have h16' : decide ((16 : Int) < (Z.size : Int)) = true := by rw [decide_eq_true_iff]; omega
                    have HQ : Hid (tE L = 9) := by
                      show _ = _
                      have h1 : er L k = 9 := by rw [HER.out, HE16.out, if_pos h16]
                      rw [tE_err HW.out HFe.out (by rw [h1]; decide) HK.out, h1]
                    go_wp2
                    go_ret2
                    exact ⟨none, 0, 0, by rw [HRE.out, HQ.out]; rfl, by rw [HRP.out]; unfold tA; rw [HQ.out, if_neg (by decide)]; exact RowS.nil _ _, keep_below hbb B7⟩
                  · have h16' : decide ((16 : Int) < (Z.size : Int)) = false := by rw [decide_eq_false_iff_not]; omega
                    have HFe2 : Hid (fe L (k + 1) = 0) := by show _ = _; rw [fe_succ HFe.out, HER.out, HE16.out, if_neg h16]
                    have HSP : Hid (sp L (k + 1) = hands (sp L k) (nx L k) (bh p1 p2 (sf L k))) := by show _ = _; rw [sp, HX.out]; rfl
                    have HCN := Lib.hid (fun W (h : Below w.heap.size w W) => nextsR_any (some ⟨b1, o1, none⟩) n c L k hlt HW.out W (hr.below h))
                    obtain ⟨BH, hBH⟩ : ∃ BH, BH = bh p1 p2 (sf L k) := ⟨_, rfl⟩
                    rw [← hBH] at HSP HZ
                    clear hBH
                    go_wp2_with (go_at_call 150; refine (HCN.out w7 (keep_below hbb B7)).mono ?_; rintro e w8 ⟨an, nn, cn, rfl, hrn, hfr, hb8⟩)
                    have B8 := keep_below B7 hb8
                    have X8 := keep_below X7 hb8
                    have rO8 : w8.rowIs O 9 n (fun j => .string (bs (hands (sp L k) ((nx L k).take 0) BH j).1)) := keep_row X8 HrO.out
                    have rM8 : w8.rowIs M 4 n (fun j => .bool (hands (sp L k) ((nx L k).take 0) BH j).2.1) := keep_row X8 HrM.out
                    have rC8 : w8.rowIs Cb 4 n (fun j => .bool (hands (sp L k) ((nx L k).take 0) BH j).2.2) := keep_row X8 HrC.out
                    have hO7 : O < w7.heap.size := Nat.lt_of_lt_of_le HrO.out.lt X7.size
                    have hM7 : M < w7.heap.size := Nat.lt_of_lt_of_le HrM.out.lt X7.size
                    have hC7 : Cb < w7.heap.size := Nat.lt_of_lt_of_le HrC.out.lt X7.size
                    have hnn : nn = (nx L k).length := by have := hrn.1; rw [List.length_map] at this; exact this
                    have hn2 : nn ≤ 2 := by rw [hnn]; exact nx_len L k
                    have HNN := Lib.hid hnn
                    have HRN := Lib.hid hrn
                    have HFR : Hid (∀ g, an = some g → O < g.block ∧ M < g.block ∧ Cb < g.block) := fun g hg => ⟨Nat.lt_of_lt_of_le hO7 (hfr g hg), Nat.lt_of_lt_of_le hM7 (hfr g hg), Nat.lt_of_lt_of_le hC7 (hfr g hg)⟩
                    clear hb8 B7 X7 X8 HrO HrM HrC hO7 hM7 hC7 hnn hrn hfr HCN h16' h16 hzz hcat
                    go_loopw [15] (fun i wq => ∃ t : Nat, t ≤ nn ∧ i = .int .i64 t ∧ wq.rowIs O 9 n (fun j => .string (bs (hands (sp L k) ((nx L k).take t) BH j).1)) ∧ wq.rowIs M 4 n (fun j => .bool (hands (sp L k) ((nx L k).take t) BH j).2.1) ∧ wq.rowIs Cb 4 n (fun j => .bool (hands (sp L k) ((nx L k).take t) BH j).2.2) ∧ Hid (∀ (p : Addr) v, p.block ≠ O → p.block ≠ M → p.block ≠ Cb → w8.cell? p = some v → wq.cell? p = some v) ∧ Below w2.heap.size w2 wq) (fun i _ => nn - (intOf i).toNat)
                    case atStart => exact ⟨0, by omega, rfl, rO8, rM8, rC8, fun _ _ _ _ _ h => h, B8⟩
                    case round =>
                      clear rO8 rM8 rC8 B8
                      obtain ⟨t, htn, rfl, rOq, rMq, rCq, HKq, WBq⟩ := hrel
                      by_cases htl : t < nn
                      · obtain ⟨bn, on, rfl, hBn, hcn⟩ := HRN.out.2 (by omega)
                        have htl2 : t < (nx L k).length := by rw [← HNN.out]; exact htl
                        have hq := nx_lt HW.out HK.out (List.getElem_mem htl2)
                        rw [← HL.out] at hq
                        have dq := hcn t htl
                        have hbn := HFR.out _ rfl
                        replace dq := HKq.out ⟨bn, on + t, none⟩ _ (by have := hbn.1; simp only at this ⊢; omega) (by have := hbn.2.1; simp only at this ⊢; omega) (by have := hbn.2.2; simp only at this ⊢; omega) dq
                        have e9 : ((nx L k).map (fun q : Nat => (q : Int))).getD t 0 = ((nx L k)[t] : Nat) := by
                          rw [List.getD_eq_getElem?_getD, List.getElem?_map, List.getElem?_eq_getElem htl2]; rfl
                        rw [e9] at dq
                        have HTK := Lib.hid (take_more htl2)
                        generalize (nx L k)[t] = q at hq dq HTK
                        obtain ⟨F, hF⟩ : ∃ F, F = hands (sp L k) ((nx L k).take t) BH := ⟨_, rfl⟩
                        rw [← hF] at rOq rMq rCq
                        have HF := Lib.hid hF
                        have cO := rOq.cell hq
                        have cM := rMq.cell hq
                        have cC := rCq.cell hq
                        have zO := rOq.frozen q
                        have zM := rMq.frozen q
                        have zC := rCq.frozen q
                        have tO := rOq.lt
                        have tM := rMq.lt
                        have tC := rCq.lt
                        have f6 : (0 : Int) ≤ (q : Int) := by omega
                        have f7 : (q : Int) < (n : Int) := by omega
                        have f8 : (0 : Int) ≤ (t : Int) := by omega
                        have f9 : (t : Int) < (nn : Int) := by omega
                        have hne := ne_texts (F q).1 BH
                        rw [← HZ.out] at hne
                        have HRO := Lib.hid rOq
                        have HRM := Lib.hid rMq
                        have HRC := Lib.hid rCq
                        have nO : bn ≠ O := Nat.ne_of_gt hbn.1
                        have nM : bn ≠ M := Nat.ne_of_gt hbn.2.1
                        have nC : bn ≠ Cb := Nat.ne_of_gt hbn.2.2
                        clear hcn e9 htl2 hF rOq rMq rCq hBn hbn
                        go_wp2_with fail
                        cases hcl : (F q).2.2
                        · rw [hcl] at cC
                          cases hso : (F q).2.1
                          · rw [hso] at cM
                            have hv : false = ((F q).2.2 || ((F q).2.1 && (F q).1 != BH)) := by rw [hcl, hso]; rfl
                            obtain ⟨z, hz⟩ : ∃ z, z = false := ⟨_, rfl⟩
                            rw [← hz] at cM
                            have HZ2 := Lib.hid hz
                            have HV := Lib.hid hv
                            clear hcl hso hz hv hne
                            go_still_tail 33, (by kernel_rfl)
                            refine still_skip ?hh ?_
                            case hh => (have hz := HZ2.out; subst hz; first | kernel_rfl | rfl)
                            simp only [Act.put, List.setIfInBounds_toArray, List.set_cons_succ, List.set_cons_zero]
                            refine still_skip ?hh ?_
                            case hh => (have hz := HZ2.out; subst hz; first | kernel_rfl | rfl)
                            simp only [Act.put, List.setIfInBounds_toArray, List.set_cons_succ, List.set_cons_zero]
                            refine still_skip ?hh ?_
                            case hh => (have hz := HZ2.out; subst hz; first | kernel_rfl | rfl)
                            simp only [Act.put, List.setIfInBounds_toArray, List.set_cons_succ, List.set_cons_zero]
                            refine still_skip ?hh ?_
                            case hh => (have hz := HZ2.out; subst hz; first | kernel_rfl | rfl)
                            simp only [Act.put, List.setIfInBounds_toArray, List.set_cons_succ, List.set_cons_zero]
                            refine still_skip ?hh ?_
                            case hh => (have hz := HZ2.out; subst hz; first | kernel_rfl | rfl)
                            simp only [Act.put, List.setIfInBounds_toArray, List.set_cons_succ, List.set_cons_zero]
                            refine still_skip ?hh ?_
                            case hh => (have hz := HZ2.out; subst hz; first | kernel_rfl | rfl)
                            simp only [Act.put, List.setIfInBounds_toArray, List.set_cons_succ, List.set_cons_zero]
                            refine still_skip ?hh ?_
                            case hh => (have hz := HZ2.out; subst hz; first | kernel_rfl | rfl)
                            simp only [Act.put, List.setIfInBounds_toArray, List.set_cons_succ, List.set_cons_zero]
                            refine still_skip ?hh ?_
                            case hh => (have hz := HZ2.out; subst hz; first | kernel_rfl | rfl)
                            simp only [Act.put, List.setIfInBounds_toArray, List.set_cons_succ, List.set_cons_zero]
                            refine still_skip ?hh ?_
                            case hh => (have hz := HZ2.out; subst hz; first | kernel_rfl | rfl)
                            simp only [Act.put, List.setIfInBounds_toArray, List.set_cons_succ, List.set_cons_zero]
                            obtain rfl : z = false := HZ2.out
                            clear HZ2
                            repeat still_step
                            try refine wpStill_nil ?_
                            change wpList _ _ _ _ _ wr.drew
                            have RO9 : wr.drew.rowIs O 9 n (fun j => .string (bs (F j).1)) := HRO.out
                            have RM9 : wr.drew.rowIs M 4 n (fun j => .bool (F j).2.1) := HRM.out
                            have RC9 : wr.drew.rowIs Cb 4 n (fun j => .bool (F j).2.2) := HRC.out
                            have K9 : Hid (∀ (p : Addr) v, p.block ≠ O → p.block ≠ M → p.block ≠ Cb → w8.cell? p = some v → wr.drew.cell? p = some v) := HKq
                            have B9 : Below w2.heap.size w2 wr.drew := WBq.drew
                            have q9 : wr.drew.cell? ⟨bn, on + t, none⟩ = some (.int .i64 (q : Nat)) := dq
                            clear HRO HRM HRC HKq WBq dq cO cM cC zO zM zC tO tM tC
                            generalize wr.drew = W9 at RO9 RM9 RC9 K9 B9 q9 ⊢
                            have cC := RC9.cell hq
                            have zC := RC9.frozen q
                            have tC := RC9.lt
                            have m1 := (RM9.setOther (a := ⟨Cb, q, none⟩) hMC (.bool false)).cell hq
                            have m2 := (RM9.setOther (a := ⟨Cb, q, none⟩) hMC (.bool false)).frozen q
                            have m3 := (RM9.setOther (a := ⟨Cb, q, none⟩) hMC (.bool false)).lt
                            have s1 := ((RO9.setOther (a := ⟨Cb, q, none⟩) hOC (.bool false)).setOther (a := ⟨M, q, none⟩) hOM (.bool true)).cell hq
                            have s2 := ((RO9.setOther (a := ⟨Cb, q, none⟩) hOC (.bool false)).setOther (a := ⟨M, q, none⟩) hOM (.bool true)).frozen q
                            have s3 := ((RO9.setOther (a := ⟨Cb, q, none⟩) hOC (.bool false)).setOther (a := ⟨M, q, none⟩) hOM (.bool true)).lt
                            have n1' := keep_set (v := .bool false) (q := ⟨Cb, q, none⟩) (p := ⟨bn, on + t, none⟩) nC q9
                            have n2' := keep_set (v := .bool true) (q := ⟨M, q, none⟩) (p := ⟨bn, on + t, none⟩) nM n1'
                            have T3 := Lib.hid (three_rows (q := q) hOM hOC hMC HZ.out HV.out RO9 RM9 RC9)
                            have K10 : Hid (∀ (p : Addr) v', p.block ≠ O → p.block ≠ M → p.block ≠ Cb → w8.cell? p = some v' → (((W9.setCell ⟨Cb, q, none⟩ (.bool false)).setCell ⟨M, q, none⟩ (.bool true)).setCell ⟨O, q, none⟩ (.string Z)).cell? p = some v') :=
                              fun p v' h1 h2 h3 h4 => keep_set h1 (keep_set h2 (keep_set h3 (K9.out p v' h1 h2 h3 h4)))
                            have B10 : Below w2.heap.size w2 (((W9.setCell ⟨Cb, q, none⟩ (.bool false)).setCell ⟨M, q, none⟩ (.bool true)).setCell ⟨O, q, none⟩ (.string Z)) := ((B9.setCell (p := ⟨Cb, q, none⟩) lC _).setCell (p := ⟨M, q, none⟩) lM _).setCell (p := ⟨O, q, none⟩) lO _
                            clear RO9 RM9 RC9 K9 B9
                            go_wp2
                            rw [HF.out, ← hands_snoc, ← HTK.out] at T3
                            go_roundw
                            case rel => exact ⟨t + 1, by omega, by go_num, T3.out.1, T3.out.2.1, T3.out.2.2, K10, B10⟩
                            case measure => simp [intOf]; omega
                          · rw [hso] at cM
                            have hv : ((F q).1 != BH) = ((F q).2.2 || ((F q).2.1 && (F q).1 != BH)) := by rw [hcl, hso]; rfl
                            obtain ⟨vv, hvv⟩ : ∃ vv, vv = ((F q).1 != BH) := ⟨_, rfl⟩
                            rw [← hvv] at hne hv
                            obtain ⟨OT, hOT⟩ : ∃ OT, OT = bs (F q).1 := ⟨_, rfl⟩
                            rw [← hOT] at cO hne
                            have HV : Hid (vv = ((F q).2.2 || ((F q).2.1 && (F q).1 != BH))) := by show _ = _; rw [hcl, hso, hvv]; rfl
                            clear hcl hso hv hvv hOT
                            go_still_tail 33, (by kernel_rfl)
                            change wpList _ _ _ _ _ wr.drew
                            have RO9 : wr.drew.rowIs O 9 n (fun j => .string (bs (F j).1)) := HRO.out
                            have RM9 : wr.drew.rowIs M 4 n (fun j => .bool (F j).2.1) := HRM.out
                            have RC9 : wr.drew.rowIs Cb 4 n (fun j => .bool (F j).2.2) := HRC.out
                            have K9 : Hid (∀ (p : Addr) v, p.block ≠ O → p.block ≠ M → p.block ≠ Cb → w8.cell? p = some v → wr.drew.cell? p = some v) := HKq
                            have B9 : Below w2.heap.size w2 wr.drew := WBq.drew
                            have q9 : wr.drew.cell? ⟨bn, on + t, none⟩ = some (.int .i64 (q : Nat)) := dq
                            clear HRO HRM HRC HKq WBq dq cO cM cC zO zM zC tO tM tC
                            generalize wr.drew = W9 at RO9 RM9 RC9 K9 B9 q9 ⊢
                            have cC := RC9.cell hq
                            have zC := RC9.frozen q
                            have tC := RC9.lt
                            have m1 := (RM9.setOther (a := ⟨Cb, q, none⟩) hMC (.bool vv)).cell hq
                            have m2 := (RM9.setOther (a := ⟨Cb, q, none⟩) hMC (.bool vv)).frozen q
                            have m3 := (RM9.setOther (a := ⟨Cb, q, none⟩) hMC (.bool vv)).lt
                            have s1 := ((RO9.setOther (a := ⟨Cb, q, none⟩) hOC (.bool vv)).setOther (a := ⟨M, q, none⟩) hOM (.bool true)).cell hq
                            have s2 := ((RO9.setOther (a := ⟨Cb, q, none⟩) hOC (.bool vv)).setOther (a := ⟨M, q, none⟩) hOM (.bool true)).frozen q
                            have s3 := ((RO9.setOther (a := ⟨Cb, q, none⟩) hOC (.bool vv)).setOther (a := ⟨M, q, none⟩) hOM (.bool true)).lt
                            have n1' := keep_set (v := .bool vv) (q := ⟨Cb, q, none⟩) (p := ⟨bn, on + t, none⟩) nC q9
                            have n2' := keep_set (v := .bool true) (q := ⟨M, q, none⟩) (p := ⟨bn, on + t, none⟩) nM n1'
                            have T3 := Lib.hid (three_rows (q := q) hOM hOC hMC HZ.out HV.out RO9 RM9 RC9)
                            have K10 : Hid (∀ (p : Addr) v', p.block ≠ O → p.block ≠ M → p.block ≠ Cb → w8.cell? p = some v' → (((W9.setCell ⟨Cb, q, none⟩ (.bool vv)).setCell ⟨M, q, none⟩ (.bool true)).setCell ⟨O, q, none⟩ (.string Z)).cell? p = some v') :=
                              fun p v' h1 h2 h3 h4 => keep_set h1 (keep_set h2 (keep_set h3 (K9.out p v' h1 h2 h3 h4)))
                            have B10 : Below w2.heap.size w2 (((W9.setCell ⟨Cb, q, none⟩ (.bool vv)).setCell ⟨M, q, none⟩ (.bool true)).setCell ⟨O, q, none⟩ (.string Z)) := ((B9.setCell (p := ⟨Cb, q, none⟩) lC _).setCell (p := ⟨M, q, none⟩) lM _).setCell (p := ⟨O, q, none⟩) lO _
                            clear RO9 RM9 RC9 K9 B9
                            go_wp2
                            rw [HF.out, ← hands_snoc, ← HTK.out] at T3
                            go_roundw
                            case rel => exact ⟨t + 1, by omega, by go_num, T3.out.1, T3.out.2.1, T3.out.2.2, K10, B10⟩
                            case measure => simp [intOf]; omega
                        · rw [hcl] at cC
                          have hv : true = ((F q).2.2 || ((F q).2.1 && (F q).1 != BH)) := by rw [hcl]; rfl
                          obtain ⟨z, hz⟩ : ∃ z, z = true := ⟨_, rfl⟩
                          rw [← hz] at cC
                          have HZ2 := Lib.hid hz
                          have HV := Lib.hid hv
                          clear hcl hz hv hne
                          go_still_tail 33, (by kernel_rfl)
                          refine still_skip ?hh ?_
                          case hh => (have hz := HZ2.out; subst hz; first | kernel_rfl | rfl)
                          simp only [Act.put, List.setIfInBounds_toArray, List.set_cons_succ, List.set_cons_zero]
                          refine still_skip ?hh ?_
                          case hh => (have hz := HZ2.out; subst hz; first | kernel_rfl | rfl)
                          simp only [Act.put, List.setIfInBounds_toArray, List.set_cons_succ, List.set_cons_zero]
                          refine still_skip ?hh ?_
                          case hh => (have hz := HZ2.out; subst hz; first | kernel_rfl | rfl)
                          simp only [Act.put, List.setIfInBounds_toArray, List.set_cons_succ, List.set_cons_zero]
                          refine still_skip ?hh ?_
                          case hh => (have hz := HZ2.out; subst hz; first | kernel_rfl | rfl)
                          simp only [Act.put, List.setIfInBounds_toArray, List.set_cons_succ, List.set_cons_zero]
                          refine still_skip ?hh ?_
                          case hh => (have hz := HZ2.out; subst hz; first | kernel_rfl | rfl)
                          simp only [Act.put, List.setIfInBounds_toArray, List.set_cons_succ, List.set_cons_zero]
                          refine still_skip ?hh ?_
                          case hh => (have hz := HZ2.out; subst hz; first | kernel_rfl | rfl)
                          simp only [Act.put, List.setIfInBounds_toArray, List.set_cons_succ, List.set_cons_zero]
                          refine still_skip ?hh ?_
                          case hh => (have hz := HZ2.out; subst hz; first | kernel_rfl | rfl)
                          simp only [Act.put, List.setIfInBounds_toArray, List.set_cons_succ, List.set_cons_zero]
                          obtain ⟨uu, huu⟩ : ∃ uu : Value, uu = undef := ⟨_, rfl⟩
                          have HU := Lib.hid huu
                          clear huu
                          refine still_skip2 HU.out ?hh ?_
                          case hh => (have hz := HZ2.out; subst hz; first | kernel_rfl | rfl)
                          simp only [Act.put, List.setIfInBounds_toArray, List.set_cons_succ, List.set_cons_zero]
                          refine still_skip ?hh ?_
                          case hh => (have hz := HZ2.out; have hu := HU.out; subst hz; subst hu; first | kernel_rfl | rfl)
                          simp only [Act.put, List.setIfInBounds_toArray, List.set_cons_succ, List.set_cons_zero]
                          refine still_skip ?hh ?_
                          case hh => (have hz := HZ2.out; have hu := HU.out; subst hz; subst hu; first | kernel_rfl | rfl)
                          simp only [Act.put, List.setIfInBounds_toArray, List.set_cons_succ, List.set_cons_zero]
                          refine still_skip ?hh ?_
                          case hh => (have hz := HZ2.out; have hu := HU.out; subst hz; subst hu; first | kernel_rfl | rfl)
                          simp only [Act.put, List.setIfInBounds_toArray, List.set_cons_succ, List.set_cons_zero]
                          refine still_skip ?hh ?_
                          case hh => (have hz := HZ2.out; have hu := HU.out; subst hz; subst hu; first | kernel_rfl | rfl)
                          simp only [Act.put, List.setIfInBounds_toArray, List.set_cons_succ, List.set_cons_zero]
                          refine still_skip ?hh ?_
                          case hh => (have hz := HZ2.out; have hu := HU.out; subst hz; subst hu; first | kernel_rfl | rfl)
                          simp only [Act.put, List.setIfInBounds_toArray, List.set_cons_succ, List.set_cons_zero]
                          refine still_skip ?hh ?_
                          case hh => (have hz := HZ2.out; have hu := HU.out; subst hz; subst hu; first | kernel_rfl | rfl)
                          simp only [Act.put, List.setIfInBounds_toArray, List.set_cons_succ, List.set_cons_zero]
                          refine still_skip ?hh ?_
                          case hh => (have hz := HZ2.out; have hu := HU.out; subst hz; subst hu; first | kernel_rfl | rfl)
                          simp only [Act.put, List.setIfInBounds_toArray, List.set_cons_succ, List.set_cons_zero]
                          refine still_skip ?hh ?_
                          case hh => (have hz := HZ2.out; have hu := HU.out; subst hz; subst hu; first | kernel_rfl | rfl)
                          simp only [Act.put, List.setIfInBounds_toArray, List.set_cons_succ, List.set_cons_zero]
                          refine still_skip ?hh ?_
                          case hh => (have hz := HZ2.out; have hu := HU.out; subst hz; subst hu; first | kernel_rfl | rfl)
                          simp only [Act.put, List.setIfInBounds_toArray, List.set_cons_succ, List.set_cons_zero]
                          refine still_skip ?hh ?_
                          case hh => (have hz := HZ2.out; subst hz; first | kernel_rfl | rfl)
                          simp only [Act.put, List.setIfInBounds_toArray, List.set_cons_succ, List.set_cons_zero]
                          obtain rfl : z = true := HZ2.out
                          clear HZ2
                          repeat still_step
                          try refine wpStill_nil ?_
                          change wpList _ _ _ _ _ wr.drew
                          have RO9 : wr.drew.rowIs O 9 n (fun j => .string (bs (F j).1)) := HRO.out
                          have RM9 : wr.drew.rowIs M 4 n (fun j => .bool (F j).2.1) := HRM.out
                          have RC9 : wr.drew.rowIs Cb 4 n (fun j => .bool (F j).2.2) := HRC.out
                          have K9 : Hid (∀ (p : Addr) v, p.block ≠ O → p.block ≠ M → p.block ≠ Cb → w8.cell? p = some v → wr.drew.cell? p = some v) := HKq
                          have B9 : Below w2.heap.size w2 wr.drew := WBq.drew
                          have q9 : wr.drew.cell? ⟨bn, on + t, none⟩ = some (.int .i64 (q : Nat)) := dq
                          clear HRO HRM HRC HKq WBq dq cO cM cC zO zM zC tO tM tC
                          generalize wr.drew = W9 at RO9 RM9 RC9 K9 B9 q9 ⊢
                          have cC := RC9.cell hq
                          have zC := RC9.frozen q
                          have tC := RC9.lt
                          have m1 := (RM9.setOther (a := ⟨Cb, q, none⟩) hMC (.bool true)).cell hq
                          have m2 := (RM9.setOther (a := ⟨Cb, q, none⟩) hMC (.bool true)).frozen q
                          have m3 := (RM9.setOther (a := ⟨Cb, q, none⟩) hMC (.bool true)).lt
                          have s1 := ((RO9.setOther (a := ⟨Cb, q, none⟩) hOC (.bool true)).setOther (a := ⟨M, q, none⟩) hOM (.bool true)).cell hq
                          have s2 := ((RO9.setOther (a := ⟨Cb, q, none⟩) hOC (.bool true)).setOther (a := ⟨M, q, none⟩) hOM (.bool true)).frozen q
                          have s3 := ((RO9.setOther (a := ⟨Cb, q, none⟩) hOC (.bool true)).setOther (a := ⟨M, q, none⟩) hOM (.bool true)).lt
                          have n1' := keep_set (v := .bool true) (q := ⟨Cb, q, none⟩) (p := ⟨bn, on + t, none⟩) nC q9
                          have n2' := keep_set (v := .bool true) (q := ⟨M, q, none⟩) (p := ⟨bn, on + t, none⟩) nM n1'
                          have T3 := Lib.hid (three_rows (q := q) hOM hOC hMC HZ.out HV.out RO9 RM9 RC9)
                          have K10 : Hid (∀ (p : Addr) v', p.block ≠ O → p.block ≠ M → p.block ≠ Cb → w8.cell? p = some v' → (((W9.setCell ⟨Cb, q, none⟩ (.bool true)).setCell ⟨M, q, none⟩ (.bool true)).setCell ⟨O, q, none⟩ (.string Z)).cell? p = some v') :=
                            fun p v' h1 h2 h3 h4 => keep_set h1 (keep_set h2 (keep_set h3 (K9.out p v' h1 h2 h3 h4)))
                          have B10 : Below w2.heap.size w2 (((W9.setCell ⟨Cb, q, none⟩ (.bool true)).setCell ⟨M, q, none⟩ (.bool true)).setCell ⟨O, q, none⟩ (.string Z)) := ((B9.setCell (p := ⟨Cb, q, none⟩) lC _).setCell (p := ⟨M, q, none⟩) lM _).setCell (p := ⟨O, q, none⟩) lO _
                          clear RO9 RM9 RC9 K9 B9
                          go_wp2
                          rw [HF.out, ← hands_snoc, ← HTK.out] at T3
                          go_roundw
                          case rel => exact ⟨t + 1, by omega, by go_num, T3.out.1, T3.out.2.1, T3.out.2.2, K10, B10⟩
                          case measure => simp [intOf]; omega
                      · have htt : (nx L k).take t = nx L k := List.take_of_length_le (by rw [← HNN.out]; omega)
                        rw [htt, ← HSP.out] at rOq rMq rCq
                        have HrOq := Lib.hid rOq
                        have HrMq := Lib.hid rMq
                        have HrCq := Lib.hid rCq
                        clear htt rOq rMq rCq
                        go_wp2
                        go_roundw
                        case rel => exact ⟨k + 1, by omega, by go_num, HFe2, HrOq, HrMq, HrCq, WBq⟩
                        case measure => simp [intOf]; omega
      · have HQ : Hid (tE L = 0) := by
          show _ = _
          unfold tE
          rw [if_pos HW.out]
          obtain rfl : k = L.length := by have := HL.out; omega
          exact HFe.out
        have hkn : k = n := by omega
        have hrow : RowS wr (some ⟨O, 0, none⟩) n (tA L) := by
          unfold tA
          rw [if_pos HQ.out]
          refine ⟨by rw [tL_len]; exact HL.out, fun _ => ⟨O, 0, rfl, rO.lt, fun i hi => ?_⟩⟩
          rw [Nat.zero_add, rO.cell hi, tL_at (by rw [← HL.out]; exact hi)]
          unfold fO
          rw [sp_stable (by omega)]; rfl
        clear rO rM rC hkn
        go_wp2
        go_ret2
        exact ⟨_, _, 0, by rw [HRE.out, HQ.out]; rfl, by rw [HRP.out]; exact hrow, hbw⟩
  · have HQ : Hid (tE L = wE L) := by show _ = _; unfold tE; rw [if_neg h0]
    have HA : Hid (tA L = []) := by show _ = _; unfold tA; rw [HQ.out, if_neg h0]
    obtain ⟨x, hx⟩ : ∃ x, x = wE L := ⟨_, rfl⟩
    rw [← hx] at cw h0
    have e1 : (x != 0) = true := by simpa using h0
    have e2 : (x == 0) = false := by simpa using h0
    have C := Lib.hid cw
    have HX := Lib.hid hx
    clear cw hr hx
    go_enter Tryz.func134, Tryz.ntmps134
    go_wp2_with (go_at_call 54; refine C.out.mono ?_; rintro e w1 ⟨rfl, hb1⟩)
    go_ret2
    exact ⟨none, 0, 0, by rw [HQ.out, HX.out]; rfl, by rw [HA.out]; exact RowS.nil _ _, hb1⟩
end Go.Proofs.YthncbnalnfbpnaaGreatDoor
end
