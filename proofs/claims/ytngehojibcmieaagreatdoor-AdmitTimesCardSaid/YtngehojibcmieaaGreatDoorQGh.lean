/- What is proved here: the contract of types.Stacks. Condition: the table of names holds what its initialiser lays ('Nms'). -/
import Derived.Test.YtngehojibcmieaaGreatDoorQGg
set_option maxRecDepth 100000
set_option maxHeartbeats 8000000
section
section
namespace Go.Proofs.YtngehojibcmieaaGreatDoor
open Go.ChangeShapes Go.WideShapes Go.RowKit Go.Maps
theorem er_8 {l : List (Int × Int × Int)} {k : Nat} (h : (sp l k k).2.1 = false) : er l k = 8 := by unfold er; rw [if_pos h]
theorem er_10 {l : List (Int × Int × Int)} {k : Nat} (h1 : (sp l k k).2.1 = true) (h2 : (sp l k k).2.2 = true) : er l k = 10 := by unfold er; rw [h1, if_neg (by simp), if_pos h2]
theorem er_n {l : List (Int × Int × Int)} {k : Nat} (h1 : (sp l k k).2.1 = true) (h2 : (sp l k k).2.2 = false) (h3 : (at_ l k).1 = 22) (h4 : sf l k ≠ sf l (mt l l.length k).toNat) : er l k = 10 := by
 unfold er; rw [h1, h2, if_neg (by simp), if_neg (by simp), if_pos ⟨h3, h4⟩]
theorem er_b {l : List (Int × Int × Int)} {k : Nat} (h1 : (sp l k k).2.1 = true) (h2 : (sp l k k).2.2 = false) (h3 : (at_ l k).1 = 22 → sf l k = sf l (mt l l.length k).toNat) : er l k = bE (at_ l k).1 (at_ l k).2.1 (sf l k) := by
 unfold er; rw [h1, h2, if_neg (by simp), if_neg (by simp), if_neg (by intro h; exact h.2 (h3 h.1))]
def fT (l : List (Int × Int × Int)) (k j : Nat) : Value := .string (bs (if j < k then sf l j else []))
theorem fT_step {l : List (Int × Int × Int)} {k : Nat} (j : Nat) : (if j = k then Value.string (bs (sf l k)) else fT l k j) = fT l (k + 1) j := by
 unfold fT
 by_cases e : j = k
 ·subst e; rw [if_pos rfl, if_pos (by omega)]
 ·rw [if_neg e]
  by_cases e2 : j < k
  ·rw [if_pos e2, if_pos (by omega)]
  ·rw [if_neg e2, if_neg (by omega)]
theorem nxI_eq {l : List (Int × Int × Int)} {k : Nat} {o x y : Int} (h : at_ l k = (o, x, y)) (hx : o = 19 ∨ o = 20 → 0 ≤ x) : nxI o x k = (nx l k).map (fun q : Nat => (q : Int)) := by
 unfold nxI nx led
 rw [h]
 simp only
 by_cases h1 : o = 25
 ·rw [if_pos h1, if_pos h1]; rfl
 ·rw [if_neg h1, if_neg h1]
  by_cases h2 : o = 19
  ·rw [if_pos h2, if_pos h2]
   have := hx (Or.inl h2)
   simp; omega
  ·rw [if_neg h2, if_neg h2]
   by_cases h3 : o = 20
   ·rw [if_pos h3, if_pos h3]
    have := hx (Or.inr h3)
    simp; omega
   ·rw [if_neg h3, if_neg h3]; simp
theorem nx_len (l : List (Int × Int × Int)) (k : Nat) : (nx l k).length ≤ 2 := by
 unfold nx
 split
 ·simp
 ·split
  ·simp
  ·split <;> simp
theorem take_more {l : List Nat} {t : Nat} (h : t < l.length) : l.take (t + 1) = l.take t ++ [l[t]] := List.take_succ_eq_append_getElem h
theorem jump_small {l : List (Int × Int × Int)} {k : Nat} {o x y : Int} (hw : wE l = 0) (hk : k < l.length) (h : at_ l k = (o, x, y)) (ho : o = 19 ∨ o = 20) : 0 ≤ x ∧ x ≤ 1000 := by
 have hr := can_right (mE_zero (wE_zero hw).1).1 hk
 have := right_jump hr (by rw [h]; unfold jmp; simp only [Bool.or_eq_true, beq_iff_eq]; exact ho)
 rw [h] at this
 simp only at this
 omega
theorem stacks_any (a : Option Addr) (n c : Nat) (L : List (Int × Int × Int)) (w : World) (hr : RowI w a n L) (hN : Nms w) :
  Calls Tryz.prog 185 #[.slice a n c] w (GotT (tA L) (tE L) w) := by
 have cm := wholeMatch_any a n c L w hr hN
 by_cases h0 : wE L = 0
 ·rw [if_pos h0, h0] at cm
  have hln := can_len (mE_zero (wE_zero h0).1).1
  rw [← hr.1] at hln
  have HW := Lib.hid h0
  have HL := Lib.hid hr.1
  have CM := Lib.hid cm
  have hmk1 := run_make_spots n (by omega)
  have hmk2 := run_make_row' (P := Tryz.prog) 225 9 (.string ⟨#[]⟩) 16 Tryz.underlying225 str_info rfl .i64 .i64 n (by omega) (by omega)
  obtain ⟨RP, hRP⟩ : ∃ RP, RP = tA L := ⟨_, rfl⟩
  obtain ⟨RE, hRE⟩ : ∃ RE, RE = tE L := ⟨_, rfl⟩
  rw [← hRP, ← hRE]
  have HRP := Lib.hid hRP
  have HRE := Lib.hid hRE
  clear cm h0 hN hRP hRE
  go_enter Tryz.func185, Tryz.ntmps185
  go_upto_region 4 with (go_at_call 221; refine CM.out.mono ?_; rintro e w1 ⟨a1, n1, c1, rfl, hr1, hb1⟩)
  go_cut [6, 7, 8] from 23 to 29 (fun m s t wx => Made3 w1 n m s t wx)
  case first =>
   go_region_held3 (fun _ => True) (trivial) (first | (go_at_call 222; refine (effects_any _).mono ?_; rintro e w2 ⟨b, rfl, hF, hb2⟩))
   ·go_wp2_with fail
    go_meet
    exact made_a hF hb2
   ·go_wp2_with fail
    go_meet
    exact made_b hF hb2
   ·go_wp2_with fail
    go_meet
    exact made_c hF hb2
   ·go_wp2_with fail
    go_meet
    exact made_d hF hb2
   ·go_wp2_with fail
    go_meet
    exact made_e hF hb2
   ·go_wp2_with fail
    go_meet
    exact made_f hF hb2
  case rest =>
   clear hmk1 hmk2 CM
   obtain ⟨b, A, B, rfl, rfl, rfl, hAB, hA, hB, rA, rB, hbw, lo, W0, hF, hM, hAl, hBl⟩ := hcut
   have C0 : Hid (Calls Tryz.prog 223 #[.pointer (some ⟨A, 0, none⟩), .string ⟨#[]⟩] wc _) := hand_any A n 0 none3 [] (by omega) wc rA
   have rBH := Lib.hid rB
   have rAH := Lib.hid rA
   clear rB rA
   go_wp2_with (go_at_call 223; refine C0.out.mono ?_; rintro e w3 ⟨rfl, rA3, hg3⟩)
   have rB3 : w3.rowIs B 9 n (fT L 0) := (rBH.out.of_block (hg3.block B rBH.out.lt (by intro e; cases e; exact hAB rfl))).congr (fun j _ => by unfold fT; rw [if_neg (by omega)])
   have hM3 := mid_grown hM hg3 hAl
   have hb3 : Below w1.heap.size w1 w3 := hbw.grown hg3 hbw.size (fun k hk => by cases hk; exact hA)
   clear C0 rBH rAH hg3 hM hbw
   have HM := Lib.hid hM3
   have HF := Lib.hid hF
   clear hM3 hF
   go_loopw [35] (fun i wr => ∃ k : Nat, k ≤ n ∧ i = .int .i64 k ∧ Hid (fe L k = 0) ∧ wr.rowIs A 252 (n * 3) (spV (sp L k)) ∧ wr.rowIs B 9 n (fT L k) ∧ Hid (Mid lo W0 wr) ∧ Below w1.heap.size w1 wr) (fun i _ => n - (intOf i).toNat)
   case atStart => exact ⟨0, by omega, rfl, rfl, rA3, rB3, HM, hb3⟩
   case round =>
    clear rA3 rB3 HM hb3
    obtain ⟨k, hk, rfl, HFe, rA, rB, HM, hbl⟩ := hrel
    have hbw := keep_below hb1 hbl
    by_cases hlt : k < n
    ·obtain ⟨b1, o1, p1, p2, p3, rfl, hB1, hx, hc1, hc2, hc3⟩ := (hr.below hbw).at_ hlt
     have HX := Lib.hid (at_some hx)
     clear hx
     have HK : Hid (k < L.length) := by show _ < _; rw [← HL.out]; exact hlt
     obtain ⟨ob, hob⟩ : ∃ ob : Obj, ob = .cells #[.int .i64 p1, .int .i64 p2, .int .i64 p3] 103 := ⟨_, rfl⟩
     have G1 := hbl.alloc hbl.size (.cells #[.int .i64 p1, .int .i64 p2, .int .i64 p3] 103)
     have dA0 := (rA.alloc (.cells #[.int .i64 p1, .int .i64 p2, .int .i64 p3] 103)).cell (i := k * 3) (by omega)
     have dA1 := (rA.alloc (.cells #[.int .i64 p1, .int .i64 p2, .int .i64 p3] 103)).cell (i := k * 3 + 1) (by omega)
     have dA2 := (rA.alloc (.cells #[.int .i64 p1, .int .i64 p2, .int .i64 p3] 103)).cell (i := k * 3 + 2) (by omega)
     rw [spV_0] at dA0
     rw [spV_1] at dA1
     rw [spV_2] at dA2
     have hAlt := rA.lt
     have hBlt := rB.lt
     have HSf : Hid ((sp L k k).1 = sf L k) := rfl
     have HSl := Lib.hid (sp_len HFe.out k)
     obtain ⟨S, hS⟩ : ∃ S, S = bs (sf L k) := ⟨_, rfl⟩
     rw [HSf.out, ← hS] at dA0
     have HS := Lib.hid hS
     clear hS hob
     cases hh : (sp L k k).2.1
     ·rw [hh] at dA1
      have HQ := Lib.hid (tE_err HW.out HFe.out (by rw [er_8 hh]; decide) HK.out)
      rw [er_8 hh] at HQ
      clear hh rA rB
      go_wp2
      go_ret2
      exact ⟨none, 0, 0, by rw [HRE.out, HQ.out]; rfl, by rw [HRP.out]; unfold tA; rw [HQ.out, if_neg (by decide)]; exact RowS.nil _ _, keep_below hb1 G1⟩
     ·rw [hh] at dA1
      cases hd : (sp L k k).2.2
      case true =>
       rw [hd] at dA2
       have HQ := Lib.hid (tE_err HW.out HFe.out (by rw [er_10 hh hd]; decide) HK.out)
       rw [er_10 hh hd] at HQ
       clear hh hd rA rB
       go_wp2
       go_ret2
       exact ⟨none, 0, 0, by rw [HRE.out, HQ.out]; rfl, by rw [HRP.out]; unfold tA; rw [HQ.out, if_neg (by decide)]; exact RowS.nil _ _, keep_below hb1 G1⟩
      case false =>
       rw [hd] at dA2
       have HH := Lib.hid hh
       have HD := Lib.hid hd
       clear hh hd
       by_cases h22 : p1 = 22
       ·obtain ⟨t, ht1, ht2⟩ := mt_next HW.out HK.out (show (at_ L k).1 = 22 by rw [HX.out]; exact h22)
        have htn : t < n := by omega
        obtain ⟨b4, o4, rfl, hB4, hcs⟩ := (hr1.below G1).2 (by have := hr1.1; rw [mL_len, ← HL.out] at this; omega)
        have hn1 : n1 = n := by have := hr1.1; rw [mL_len, ← HL.out] at this; exact this
        have dm := hcs k (by omega)
        rw [mL_at HK.out, ht1] at dm
        have dB := (rB.alloc (.cells #[.int .i64 p1, .int .i64 p2, .int .i64 p3] 103)).cell (i := t) htn
        unfold fT at dB
        rw [if_pos ht2] at dB
        have hne := ne_texts (sf L k) (sf L t)
        rw [← HS.out] at hne
        have HT := Lib.hid ht1
        obtain ⟨T, hT⟩ : ∃ T, T = bs (sf L t) := ⟨_, rfl⟩
        rw [← hT] at dB hne
        have f1 : (0 : Int) ≤ (k : Int) := by omega
        have f2 : (k : Int) < (n1 : Int) := by omega
        have f3 : (0 : Int) ≤ (t : Int) := by omega
        have f4 : (t : Int) < (n : Int) := by omega
        have f5 : (k : Int) < (n : Int) := by omega
        clear hT ht1 hcs hn1
        subst h22
        cases hz : (sf L k != sf L t)
        ·rw [hz] at hne
         have hne2 : (S.toList == T.toList) = true := by simpa using hne
         have HER : Hid (er L k = bE 22 p2 (sf L k)) := by
          show _ = _
          have := er_b HH.out HD.out (by intro _; rw [HT.out]; simpa using hz)
          rw [HX.out] at this; exact this
         clear hz HT HH HD
         go_wp2
         go_quiet (fail)
         have ki0 : ((wr.alloc (.cells #[.int .i64 22, .int .i64 p2, .int .i64 p3] 103)).drewN nq).cell? ⟨wr.heap.size, 0, none⟩ = some (.int .i64 22) := (Lib.cell_of_heap (new_block wr (.cells #[.int .i64 22, .int .i64 p2, .int .i64 p3] 103)) 0).trans rfl
         have ki1 : ((wr.alloc (.cells #[.int .i64 22, .int .i64 p2, .int .i64 p3] 103)).drewN nq).cell? ⟨wr.heap.size, 1, none⟩ = some (.int .i64 p2) := (Lib.cell_of_heap (new_block wr (.cells #[.int .i64 22, .int .i64 p2, .int .i64 p3] 103)) 1).trans rfl
         have ki2 : ((wr.alloc (.cells #[.int .i64 22, .int .i64 p2, .int .i64 p3] 103)).drewN nq).cell? ⟨wr.heap.size, 2, none⟩ = some (.int .i64 p3) := (Lib.cell_of_heap (new_block wr (.cells #[.int .i64 22, .int .i64 p2, .int .i64 p3] 103)) 2).trans rfl
         have rAx : ((wr.alloc (.cells #[.int .i64 22, .int .i64 p2, .int .i64 p3] 103)).drewN nq).rowIs A 252 (n * 3) (spV (sp L k)) := rA.alloc (.cells #[.int .i64 22, .int .i64 p2, .int .i64 p3] 103)
         have rBx : ((wr.alloc (.cells #[.int .i64 22, .int .i64 p2, .int .i64 p3] 103)).drewN nq).rowIs B 9 n (fT L k) := rB.alloc (.cells #[.int .i64 22, .int .i64 p2, .int .i64 p3] 103)
         have WB : Below w1.heap.size w1 ((wr.alloc (.cells #[.int .i64 22, .int .i64 p2, .int .i64 p3] 103)).drewN nq) := G1.trans ⟨rfl, rfl, rfl, Nat.le_refl _, fun _ _ => rfl⟩
         have HMx : Hid (Mid lo W0 ((wr.alloc (.cells #[.int .i64 22, .int .i64 p2, .int .i64 p3] 103)).drewN nq)) := mid_trans HM.out ((below_alloc wr (.cells #[.int .i64 22, .int .i64 p2, .int .i64 p3] 103)).trans ⟨rfl, rfl, rfl, Nat.le_refl _, fun _ _ => rfl⟩)
         have dx : ((wr.alloc (.cells #[.int .i64 22, .int .i64 p2, .int .i64 p3] 103)).drewN nq).cell? ⟨A, k * 3, none⟩ = some (.string S) := dA0
         clear rA rB G1 HM dA0 dA1 dA2 hc1 hc2 hc3 dm dB f1 f2 f3 f4 f5 hne hne2 htn ht2 hB4 hr1
         generalize ((wr.alloc (.cells #[.int .i64 22, .int .i64 p2, .int .i64 p3] 103)).drewN nq) = WX at ki0 ki1 ki2 rAx rBx WB HMx dx ⊢
         generalize wr.heap.size = I at ki0 ki1 ki2 hAlt hBlt ⊢
         have kb0 := rBx.cell hlt
         have kb1 := rBx.frozen k
         have kb2 := rBx.lt
         have HrA := Lib.hid rAx
         have HrB := Lib.hid rBx
         clear rAx rBx
         unfold fT at kb0
         rw [if_neg (Nat.lt_irrefl k)] at kb0
         go_wp2
         have rBs : (WX.setCell ⟨B, k, none⟩ (.string S)).rowIs B 9 n (fT L (k + 1)) := (HrB.out.set k (.string S)).congr (fun j _ => by rw [HS.out]; exact fT_step j)
         have rAs : (WX.setCell ⟨B, k, none⟩ (.string S)).rowIs A 252 (n * 3) (spV (sp L k)) := HrA.out.setOther hAB (.string S)
         have hIB : I ≠ B := Nat.ne_of_gt hBlt
         have ks0 := keep_set (v := .string S) (q := ⟨B, k, none⟩) (p := ⟨I, 0, none⟩) hIB ki0
         have ks1 := keep_set (v := .string S) (q := ⟨B, k, none⟩) (p := ⟨I, 1, none⟩) hIB ki1
         have ks2 := keep_set (v := .string S) (q := ⟨B, k, none⟩) (p := ⟨I, 2, none⟩) hIB ki2
         have HMs : Hid (Mid lo W0 (WX.setCell ⟨B, k, none⟩ (.string S))) := mid_grown HMx.out (grown_set WX B k (.string S)) hBl
         have WBs : Below w1.heap.size w1 (WX.setCell ⟨B, k, none⟩ (.string S)) := WB.setCell (p := ⟨B, k, none⟩) hB (.string S)
         have ksB := rBs.cell hlt
         unfold fT at ksB
         rw [if_pos (Nat.lt_succ_self k), ← HS.out] at ksB
         clear HrA HrB ki0 ki1 ki2 HMx WB dx kb0 kb1 kb2
         generalize (WX.setCell ⟨B, k, none⟩ (.string S)) = W2 at rBs rAs ks0 ks1 ks2 HMs WBs ksB ⊢
         have hkn := right_kn (can_right (mE_zero (wE_zero HW.out).1).1 HK.out)
         rw [HX.out] at hkn
         obtain ⟨tv, gw, hL0, hT0, hG0⟩ := (HF.out.mid HMs.out).look (o := 22) hkn.1 hkn.2 (by decide)
         have hl := hL0 W2.drew (Below.refl _ _).drew
         have CB := behind_any 22 p2 (sf L k) (by have := HSl.out; rw [HSf.out] at this; omega) tv gw W2.drew hT0 hG0
         rw [← HS.out] at CB
         clear hkn hL0 hT0 hG0
         by_cases hE : bE 22 p2 (sf L k) = 0
         ·rw [hE, if_pos rfl] at CB
          have HE := Lib.hid hE
          have HFe2 : Hid (fe L (k + 1) = 0) := by show _ = _; rw [fe_succ HFe.out, HER.out, hE]
          have HSP : Hid (sp L (k + 1) = hands (sp L k) (nx L k) (bh 22 p2 (sf L k))) := by show _ = _; rw [sp, HX.out]; rfl
          generalize bh 22 p2 (sf L k) = BH at CB HSP
          have HCB := Lib.hid CB
          have HrA := Lib.hid rAs
          have HrB := Lib.hid rBs
          have HK0 := Lib.hid ks0
          have HK1 := Lib.hid ks1
          have HK2 := Lib.hid ks2
          clear CB rAs rBs hE
          go_region_held3 (fun W => W.cell? ⟨I, 0, none⟩ = some (.int .i64 22) ∧ W.cell? ⟨I, 1, none⟩ = some (.int .i64 p2) ∧ W.cell? ⟨B, k, none⟩ = some (.string S)) (first | exact ⟨ks0, ks1, ksB⟩ | exact ⟨keep_cell hb4 ks0, keep_cell hb4 ks1, keep_cell hb4 ksB⟩ | assumption | go_keep) (first | (go_at_call 224; refine HCB.out.mono ?_; rintro e w4 ⟨rfl, hb4⟩))
          clear hl ks0 ks1 ks2 ksB
          have d0 := keep_cell hb4 HK0.out
          have d1 := keep_cell hb4 HK1.out
          have d2 := keep_cell hb4 HK2.out
          have HCN := Lib.hid (fun W => comesNext_any k 22 p2 p3 (by omega) (fun h => jump_small HW.out HK.out HX.out h) W)
          go_wp2_with (go_at_call 225; refine (HCN.out w4).mono ?_; rintro e w5 ⟨an, nn, cn, rfl, hrn, hfr, hb5⟩)
          rw [nxI_eq HX.out (fun h => (jump_small HW.out HK.out HX.out h).1)] at hrn
          have hb45 : Below W2.heap.size W2 w5 := keep_below ((Below.refl _ _).drew.trans hb4) hb5
          have rA5 : w5.rowIs A 252 (n * 3) (spV (hands (sp L k) ((nx L k).take 0) BH)) := keep_row hb45 HrA.out
          have HB5 := Lib.hid (keep_row hb45 HrB.out)
          have HM5 : Hid (Mid lo W0 w5) := mid_trans HMs.out hb45
          have WB5 := keep_below WBs hb45
          have hA4 : A < w4.heap.size := Nat.lt_of_lt_of_le HrA.out.lt ((Below.refl _ _).drew.trans hb4).size
          have hnn : nn = (nx L k).length := by have := hrn.1; rw [List.length_map] at this; exact this
          have hn2 : nn ≤ 2 := by rw [hnn]; exact nx_len L k
          have HNN := Lib.hid hnn
          have HRN := Lib.hid hrn
          have HFR : Hid (∀ g, an = some g → A < g.block) := fun g hg => Nat.lt_of_lt_of_le hA4 (hfr g hg)
          clear d0 d1 d2 hb4 hb5 hb45 HrA HrB HMs WBs hA4 hnn hrn hfr HCB HCN HK0 HK1 HK2
          go_loopw [101] (fun i wq => ∃ t : Nat, t ≤ nn ∧ i = .int .i64 t ∧ wq.rowIs A 252 (n * 3) (spV (hands (sp L k) ((nx L k).take t) BH)) ∧ Hid (w5.grownBy wq (some A))) (fun i _ => nn - (intOf i).toNat)
          case atStart => exact ⟨0, by omega, rfl, rA5, ⟨rfl, rfl, rfl, Nat.le_refl _, fun _ _ _ => rfl⟩⟩
          case round =>
           clear rA5
           obtain ⟨t, htn, rfl, rAq, HGQ⟩ := hrel
           by_cases htl : t < nn
           ·obtain ⟨bn, on, rfl, hBn, hcn⟩ := HRN.out.2 (by omega)
            have htl2 : t < (nx L k).length := by rw [← HNN.out]; exact htl
            have hq := nx_lt HW.out HK.out (List.getElem_mem htl2)
            rw [← HL.out] at hq
            have dq := hcn t htl
            have hbn : A < bn := HFR.out _ rfl
            rw [← World.cell?_of_block (w := w5) (HGQ.out.block bn hBn (by intro e; cases e; omega))] at dq
            have e9 : ((nx L k).map (fun q : Nat => (q : Int))).getD t 0 = ((nx L k)[t] : Nat) := by
             rw [List.getD_eq_getElem?_getD, List.getElem?_map, List.getElem?_eq_getElem htl2]; rfl
            rw [e9] at dq
            have HTK := Lib.hid (take_more htl2)
            generalize (nx L k)[t] = q at hq dq HTK
            have CH := hand_any A n q _ BH hq wr rAq
            have f6 : (0 : Int) ≤ (q : Int) := by omega
            have f7 : (q : Int) < (n : Int) := by omega
            have f8 : (0 : Int) ≤ (t : Int) := by omega
            have f9 : (t : Int) < (nn : Int) := by omega
            have HCH := Lib.hid CH
            clear CH hcn e9 rAq htl2
            go_wp2_with (go_at_call 223; refine HCH.out.mono ?_; rintro e w6 ⟨rfl, rA6, hg6⟩)
            rw [← hands_snoc, ← HTK.out] at rA6
            go_roundw
            case rel => exact ⟨t + 1, by omega, by go_num, rA6, grown_tr HGQ.out hg6⟩
            case measure => simp [intOf]; omega
           ·have htt : (nx L k).take t = nx L k := List.take_of_length_le (by rw [← HNN.out]; omega)
            rw [htt, ← HSP.out] at rAq
            have rBq : wr.rowIs B 9 n (fT L (k + 1)) := HB5.out.of_block (HGQ.out.block B HB5.out.lt (by intro e; cases e; exact hAB rfl))
            have HMq : Hid (Mid lo W0 wr) := mid_grown HM5.out HGQ.out hAl
            have WBq : Below w1.heap.size w1 wr := WB5.grown HGQ.out WB5.size (fun j hj => by cases hj; exact hA)
            have HrAq := Lib.hid rAq
            have HrBq := Lib.hid rBq
            clear htt rAq rBq
            go_wp2
            go_roundw
            case rel => exact ⟨k + 1, by omega, by go_num, HFe2, HrAq, HrBq, HMq, WBq⟩
            case measure => simp [intOf]; omega
         ·obtain ⟨x, hx⟩ : ∃ x, x = bE 22 p2 (sf L k) := ⟨_, rfl⟩
          rw [← hx] at CB hE
          rw [if_neg hE] at CB
          have e1 : (x != 0) = true := by simpa using hE
          have e2 : (x == 0) = false := by simpa using hE
          have HQ : Hid (tE L = x) := by
           show _ = _
           have h1 : er L k = x := by rw [HER.out, hx]
           rw [tE_err HW.out HFe.out (by rw [h1]; exact hE) HK.out, h1]
          have HE := Lib.hid hE
          have HCB := Lib.hid CB
          clear CB rAs rBs hx hE
          go_region_held3 (fun W => W.cell? ⟨I, 0, none⟩ = some (.int .i64 22) ∧ W.cell? ⟨I, 1, none⟩ = some (.int .i64 p2) ∧ W.cell? ⟨B, k, none⟩ = some (.string S)) (first | exact ⟨ks0, ks1, ksB⟩ | exact ⟨keep_cell hb4 ks0, keep_cell hb4 ks1, keep_cell hb4 ksB⟩ | assumption | go_keep) (first | (go_at_call 224; refine HCB.out.mono ?_; rintro e w4 ⟨rfl, hb4⟩))
          go_wp2
          go_ret2
          exact ⟨none, 0, 0, by rw [HRE.out, HQ.out]; rfl, by rw [HRP.out]; unfold tA; rw [HQ.out, if_neg HE.out]; exact RowS.nil _ _, keep_below hb1 (keep_below WBs.drew hb4)⟩
        ·rw [hz] at hne
         have hne2 : (S.toList == T.toList) = false := by simpa using hne
         have e10 : er L k = 10 := er_n HH.out HD.out (by rw [HX.out]) (by rw [HT.out]; simpa using hz)
         have HQ := Lib.hid (tE_err HW.out HFe.out (by rw [e10]; decide) HK.out)
         rw [e10] at HQ
         clear hz HT HH HD e10 rA rB
         go_wp2
         go_quiet (fail)
         go_wp2
         go_ret2
         exact ⟨none, 0, 0, by rw [HRE.out, HQ.out]; rfl, by rw [HRP.out]; unfold tA; rw [HQ.out, if_neg (by decide)]; exact RowS.nil _ _, keep_below hb1 (G1.trans ⟨rfl, rfl, rfl, Nat.le_refl _, fun _ _ => rfl⟩)⟩
       ·have HER : Hid (er L k = bE p1 p2 (sf L k)) := by
         show _ = _
         have := er_b HH.out HD.out (by rw [HX.out]; intro e; exact absurd e h22)
         rw [HX.out] at this; exact this
        have e22 : (p1 == 22) = false := by simpa using h22
        have f1 : (0 : Int) ≤ (k : Int) := by omega
        have f5 : (k : Int) < (n : Int) := by omega
        clear HH HD h22
        go_wp2
        go_quiet (fail)
        have ki0 : ((wr.alloc (.cells #[.int .i64 p1, .int .i64 p2, .int .i64 p3] 103)).drewN nq).cell? ⟨wr.heap.size, 0, none⟩ = some (.int .i64 p1) := (Lib.cell_of_heap (new_block wr (.cells #[.int .i64 p1, .int .i64 p2, .int .i64 p3] 103)) 0).trans rfl
        have ki1 : ((wr.alloc (.cells #[.int .i64 p1, .int .i64 p2, .int .i64 p3] 103)).drewN nq).cell? ⟨wr.heap.size, 1, none⟩ = some (.int .i64 p2) := (Lib.cell_of_heap (new_block wr (.cells #[.int .i64 p1, .int .i64 p2, .int .i64 p3] 103)) 1).trans rfl
        have ki2 : ((wr.alloc (.cells #[.int .i64 p1, .int .i64 p2, .int .i64 p3] 103)).drewN nq).cell? ⟨wr.heap.size, 2, none⟩ = some (.int .i64 p3) := (Lib.cell_of_heap (new_block wr (.cells #[.int .i64 p1, .int .i64 p2, .int .i64 p3] 103)) 2).trans rfl
        have rAx : ((wr.alloc (.cells #[.int .i64 p1, .int .i64 p2, .int .i64 p3] 103)).drewN nq).rowIs A 252 (n * 3) (spV (sp L k)) := rA.alloc (.cells #[.int .i64 p1, .int .i64 p2, .int .i64 p3] 103)
        have rBx : ((wr.alloc (.cells #[.int .i64 p1, .int .i64 p2, .int .i64 p3] 103)).drewN nq).rowIs B 9 n (fT L k) := rB.alloc (.cells #[.int .i64 p1, .int .i64 p2, .int .i64 p3] 103)
        have WB : Below w1.heap.size w1 ((wr.alloc (.cells #[.int .i64 p1, .int .i64 p2, .int .i64 p3] 103)).drewN nq) := G1.trans ⟨rfl, rfl, rfl, Nat.le_refl _, fun _ _ => rfl⟩
        have HMx : Hid (Mid lo W0 ((wr.alloc (.cells #[.int .i64 p1, .int .i64 p2, .int .i64 p3] 103)).drewN nq)) := mid_trans HM.out ((below_alloc wr (.cells #[.int .i64 p1, .int .i64 p2, .int .i64 p3] 103)).trans ⟨rfl, rfl, rfl, Nat.le_refl _, fun _ _ => rfl⟩)
        have dx : ((wr.alloc (.cells #[.int .i64 p1, .int .i64 p2, .int .i64 p3] 103)).drewN nq).cell? ⟨A, k * 3, none⟩ = some (.string S) := dA0
        clear rA rB G1 HM dA0 dA1 dA2 hc1 hc2 hc3 e22 f1 f5 hr1
        generalize ((wr.alloc (.cells #[.int .i64 p1, .int .i64 p2, .int .i64 p3] 103)).drewN nq) = WX at ki0 ki1 ki2 rAx rBx WB HMx dx ⊢
        generalize wr.heap.size = I at ki0 ki1 ki2 hAlt hBlt ⊢
        have kb0 := rBx.cell hlt
        have kb1 := rBx.frozen k
        have kb2 := rBx.lt
        have HrA := Lib.hid rAx
        have HrB := Lib.hid rBx
        clear rAx rBx
        unfold fT at kb0
        rw [if_neg (Nat.lt_irrefl k)] at kb0
        go_wp2
        have rBs : (WX.setCell ⟨B, k, none⟩ (.string S)).rowIs B 9 n (fT L (k + 1)) := (HrB.out.set k (.string S)).congr (fun j _ => by rw [HS.out]; exact fT_step j)
        have rAs : (WX.setCell ⟨B, k, none⟩ (.string S)).rowIs A 252 (n * 3) (spV (sp L k)) := HrA.out.setOther hAB (.string S)
        have hIB : I ≠ B := Nat.ne_of_gt hBlt
        have ks0 := keep_set (v := .string S) (q := ⟨B, k, none⟩) (p := ⟨I, 0, none⟩) hIB ki0
        have ks1 := keep_set (v := .string S) (q := ⟨B, k, none⟩) (p := ⟨I, 1, none⟩) hIB ki1
        have ks2 := keep_set (v := .string S) (q := ⟨B, k, none⟩) (p := ⟨I, 2, none⟩) hIB ki2
        have HMs : Hid (Mid lo W0 (WX.setCell ⟨B, k, none⟩ (.string S))) := mid_grown HMx.out (grown_set WX B k (.string S)) hBl
        have WBs : Below w1.heap.size w1 (WX.setCell ⟨B, k, none⟩ (.string S)) := WB.setCell (p := ⟨B, k, none⟩) hB (.string S)
        have ksB := rBs.cell hlt
        unfold fT at ksB
        rw [if_pos (Nat.lt_succ_self k), ← HS.out] at ksB
        clear HrA HrB ki0 ki1 ki2 HMx WB dx kb0 kb1 kb2
        generalize (WX.setCell ⟨B, k, none⟩ (.string S)) = W2 at rBs rAs ks0 ks1 ks2 HMs WBs ksB ⊢
        have hkn := right_kn (can_right (mE_zero (wE_zero HW.out).1).1 HK.out)
        rw [HX.out] at hkn
        obtain ⟨tv, gw, hL0, hT0, hG0⟩ := (HF.out.mid HMs.out).look (o := p1) hkn.1 hkn.2 (by decide)
        have hl := hL0 W2.drew (Below.refl _ _).drew
        have CB := behind_any p1 p2 (sf L k) (by have := HSl.out; rw [HSf.out] at this; omega) tv gw W2.drew hT0 hG0
        rw [← HS.out] at CB
        clear hkn hL0 hT0 hG0
        by_cases hE : bE p1 p2 (sf L k) = 0
        ·rw [hE, if_pos rfl] at CB
         have HE := Lib.hid hE
         have HFe2 : Hid (fe L (k + 1) = 0) := by show _ = _; rw [fe_succ HFe.out, HER.out, hE]
         have HSP : Hid (sp L (k + 1) = hands (sp L k) (nx L k) (bh p1 p2 (sf L k))) := by show _ = _; rw [sp, HX.out]; rfl
         generalize bh p1 p2 (sf L k) = BH at CB HSP
         have HCB := Lib.hid CB
         have HrA := Lib.hid rAs
         have HrB := Lib.hid rBs
         have HK0 := Lib.hid ks0
         have HK1 := Lib.hid ks1
         have HK2 := Lib.hid ks2
         clear CB rAs rBs hE
         go_region_held3 (fun W => W.cell? ⟨I, 0, none⟩ = some (.int .i64 p1) ∧ W.cell? ⟨I, 1, none⟩ = some (.int .i64 p2) ∧ W.cell? ⟨B, k, none⟩ = some (.string S)) (first | exact ⟨ks0, ks1, ksB⟩ | exact ⟨keep_cell hb4 ks0, keep_cell hb4 ks1, keep_cell hb4 ksB⟩ | assumption | go_keep) (first | (go_at_call 224; refine HCB.out.mono ?_; rintro e w4 ⟨rfl, hb4⟩))
         clear hl ks0 ks1 ks2 ksB
         have d0 := keep_cell hb4 HK0.out
         have d1 := keep_cell hb4 HK1.out
         have d2 := keep_cell hb4 HK2.out
         have HCN := Lib.hid (fun W => comesNext_any k p1 p2 p3 (by omega) (fun h => jump_small HW.out HK.out HX.out h) W)
         go_wp2_with (go_at_call 225; refine (HCN.out w4).mono ?_; rintro e w5 ⟨an, nn, cn, rfl, hrn, hfr, hb5⟩)
         rw [nxI_eq HX.out (fun h => (jump_small HW.out HK.out HX.out h).1)] at hrn
         have hb45 : Below W2.heap.size W2 w5 := keep_below ((Below.refl _ _).drew.trans hb4) hb5
         have rA5 : w5.rowIs A 252 (n * 3) (spV (hands (sp L k) ((nx L k).take 0) BH)) := keep_row hb45 HrA.out
         have HB5 := Lib.hid (keep_row hb45 HrB.out)
         have HM5 : Hid (Mid lo W0 w5) := mid_trans HMs.out hb45
         have WB5 := keep_below WBs hb45
         have hA4 : A < w4.heap.size := Nat.lt_of_lt_of_le HrA.out.lt ((Below.refl _ _).drew.trans hb4).size
         have hnn : nn = (nx L k).length := by have := hrn.1; rw [List.length_map] at this; exact this
         have hn2 : nn ≤ 2 := by rw [hnn]; exact nx_len L k
         have HNN := Lib.hid hnn
         have HRN := Lib.hid hrn
         have HFR : Hid (∀ g, an = some g → A < g.block) := fun g hg => Nat.lt_of_lt_of_le hA4 (hfr g hg)
         clear d0 d1 d2 hb4 hb5 hb45 HrA HrB HMs WBs hA4 hnn hrn hfr HCB HCN HK0 HK1 HK2
         go_loopw [101] (fun i wq => ∃ t : Nat, t ≤ nn ∧ i = .int .i64 t ∧ wq.rowIs A 252 (n * 3) (spV (hands (sp L k) ((nx L k).take t) BH)) ∧ Hid (w5.grownBy wq (some A))) (fun i _ => nn - (intOf i).toNat)
         case atStart => exact ⟨0, by omega, rfl, rA5, ⟨rfl, rfl, rfl, Nat.le_refl _, fun _ _ _ => rfl⟩⟩
         case round =>
          clear rA5
          obtain ⟨t, htn, rfl, rAq, HGQ⟩ := hrel
          by_cases htl : t < nn
          ·obtain ⟨bn, on, rfl, hBn, hcn⟩ := HRN.out.2 (by omega)
           have htl2 : t < (nx L k).length := by rw [← HNN.out]; exact htl
           have hq := nx_lt HW.out HK.out (List.getElem_mem htl2)
           rw [← HL.out] at hq
           have dq := hcn t htl
           have hbn : A < bn := HFR.out _ rfl
           rw [← World.cell?_of_block (w := w5) (HGQ.out.block bn hBn (by intro e; cases e; omega))] at dq
           have e9 : ((nx L k).map (fun q : Nat => (q : Int))).getD t 0 = ((nx L k)[t] : Nat) := by
            rw [List.getD_eq_getElem?_getD, List.getElem?_map, List.getElem?_eq_getElem htl2]; rfl
           rw [e9] at dq
           have HTK := Lib.hid (take_more htl2)
           generalize (nx L k)[t] = q at hq dq HTK
           have CH := hand_any A n q _ BH hq wr rAq
           have f6 : (0 : Int) ≤ (q : Int) := by omega
           have f7 : (q : Int) < (n : Int) := by omega
           have f8 : (0 : Int) ≤ (t : Int) := by omega
           have f9 : (t : Int) < (nn : Int) := by omega
           have HCH := Lib.hid CH
           clear CH hcn e9 rAq htl2
           go_wp2_with (go_at_call 223; refine HCH.out.mono ?_; rintro e w6 ⟨rfl, rA6, hg6⟩)
           rw [← hands_snoc, ← HTK.out] at rA6
           go_roundw
           case rel => exact ⟨t + 1, by omega, by go_num, rA6, grown_tr HGQ.out hg6⟩
           case measure => simp [intOf]; omega
          ·have htt : (nx L k).take t = nx L k := List.take_of_length_le (by rw [← HNN.out]; omega)
           rw [htt, ← HSP.out] at rAq
           have rBq : wr.rowIs B 9 n (fT L (k + 1)) := HB5.out.of_block (HGQ.out.block B HB5.out.lt (by intro e; cases e; exact hAB rfl))
           have HMq : Hid (Mid lo W0 wr) := mid_grown HM5.out HGQ.out hAl
           have WBq : Below w1.heap.size w1 wr := WB5.grown HGQ.out WB5.size (fun j hj => by cases hj; exact hA)
           have HrAq := Lib.hid rAq
           have HrBq := Lib.hid rBq
           clear htt rAq rBq
           go_wp2
           go_roundw
           case rel => exact ⟨k + 1, by omega, by go_num, HFe2, HrAq, HrBq, HMq, WBq⟩
           case measure => simp [intOf]; omega
        ·obtain ⟨x, hx⟩ : ∃ x, x = bE p1 p2 (sf L k) := ⟨_, rfl⟩
         rw [← hx] at CB hE
         rw [if_neg hE] at CB
         have e1 : (x != 0) = true := by simpa using hE
         have e2 : (x == 0) = false := by simpa using hE
         have HQ : Hid (tE L = x) := by
          show _ = _
          have h1 : er L k = x := by rw [HER.out, hx]
          rw [tE_err HW.out HFe.out (by rw [h1]; exact hE) HK.out, h1]
         have HE := Lib.hid hE
         have HCB := Lib.hid CB
         clear CB rAs rBs hx hE
         go_region_held3 (fun W => W.cell? ⟨I, 0, none⟩ = some (.int .i64 p1) ∧ W.cell? ⟨I, 1, none⟩ = some (.int .i64 p2) ∧ W.cell? ⟨B, k, none⟩ = some (.string S)) (first | exact ⟨ks0, ks1, ksB⟩ | exact ⟨keep_cell hb4 ks0, keep_cell hb4 ks1, keep_cell hb4 ksB⟩ | assumption | go_keep) (first | (go_at_call 224; refine HCB.out.mono ?_; rintro e w4 ⟨rfl, hb4⟩))
         go_wp2
         go_ret2
         exact ⟨none, 0, 0, by rw [HRE.out, HQ.out]; rfl, by rw [HRP.out]; unfold tA; rw [HQ.out, if_neg HE.out]; exact RowS.nil _ _, keep_below hb1 (keep_below WBs.drew hb4)⟩
    ·have HQ : Hid (tE L = 0) := by
      show _ = _
      unfold tE
      rw [if_pos HW.out]
      obtain rfl : k = L.length := by have := HL.out; omega
      exact HFe.out
     have hkn : k = n := by omega
     have hrow : RowS wr (some ⟨B, 0, none⟩) n (tA L) := by
      unfold tA
      rw [if_pos HQ.out]
      refine ⟨by rw [tL_len]; exact HL.out, fun _ => ⟨B, 0, rfl, rB.lt, fun i hi => ?_⟩⟩
      rw [Nat.zero_add, rB.cell hi, tL_at (by rw [← HL.out]; exact hi)]
      unfold fT
      rw [if_pos (by omega)]
     clear rA rB hkn
     go_wp2
     go_ret2
     exact ⟨_, _, 0, by rw [HRE.out, HQ.out]; rfl, by rw [HRP.out]; exact hrow, hbw⟩
 ·rw [if_neg h0] at cm
  have HQ : Hid (tE L = wE L) := by show _ = _; unfold tE; rw [if_neg h0]
  have HA : Hid (tA L = []) := by show _ = _; unfold tA; rw [HQ.out, if_neg h0]
  obtain ⟨x, hx⟩ : ∃ x, x = wE L := ⟨_, rfl⟩
  rw [← hx] at cm h0
  have e1 : (x != 0) = true := by simpa using h0
  have e2 : (x == 0) = false := by simpa using h0
  have C := Lib.hid cm
  have HX := Lib.hid hx
  clear cm hr hN hx
  go_enter Tryz.func185, Tryz.ntmps185
  go_wp2_with (go_at_call 221; refine C.out.mono ?_; rintro e w1 ⟨a1, n1, c1, rfl, hr1, hb1⟩)
  go_ret2
  exact ⟨none, 0, 0, by rw [HQ.out, HX.out]; rfl, by rw [HA.out]; exact RowS.nil _ _, hb1⟩
end Go.Proofs.YtngehojibcmieaaGreatDoor
end
end
