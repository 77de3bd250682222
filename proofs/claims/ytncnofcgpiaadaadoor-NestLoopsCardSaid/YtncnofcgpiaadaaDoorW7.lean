/- What is proved here: the walk of NestLoops. Condition: the table of names holds what its initialiser lays ('Nms'). -/
import Derived.Test.YtncnofcgpiaadaaDoorAp
import Derived.Test.YtncnofcgpiaadaaDoorMr
import Derived.Test.YtncnofcgpiaadaaDoorNest5
namespace Go.Proofs.YtncnofcgpiaadaaDoor
open Go.ChangeShapes Go.WideShapes Go.RowKit

theorem keep_cell' {W w9 : World} {p : Addr} {v : Value} (hb : Below W.heap.size W w9) (h : W.cell? p = some v) : w9.cell? p = some v := (hb.cell (cell_lt h)).trans h
theorem lp_at {A : List (Int × Int × Int)} {x : Int} {k : Nat} (h : k + 1 = A.length) : lp x A = [(21, x, 0)] ++ A.take k ++ [(22, 0, 0), (25, 0, 0)] := by
  unfold lp; rw [← h]; rfl
set_option maxHeartbeats 8000000 in
set_option maxRecDepth 100000 in
theorem loops_main (a : Option Addr) (k c : Nat) (A : List (Int × Int × Int)) (r : Int) (hr : 0 ≤ r ∧ r ≤ 255) (hn : k + 1 ≤ 190) (hkc : k ≤ c) (w : World) (HN : Hid (Nms w)) (HA : Hid (RowI w a (k + 1) A)) (HWA : Hid (wE A = 0))
    (x y : List Int) (ea eq : Int) (XA : Hid (lA A = x)) (EA : Hid (lE A = ea)) (XQ : Hid (lA (lp (1 + r) A) = y)) (EQ : Hid (lE (lp (1 + r) A) = eq)) (z1 z2 : Bool) (hz1 : (ea == 0) = z1) (hz1' : (ea != 0) = !z1) (hz2 : (eq == 0) = z2)
    (h11 : z1 = false → (eq == 11) = true) (h12 : z1 = true → (x.length == 0) = z2) :
    Calls Tryd.prog 9 #[.slice a (k + 1) c, .int .u8 r] w fun e w' => e = .returned (.bool true) ∧ Below w.heap.size w w' := by
  obtain ⟨i0, hi, hz0, hz1i, hz2i⟩ := info_parts ins_info
  have CK := Lib.hid known_any
  have hl1 : k + 1 = A.length := HA.out.1
  have HL1 := Lib.hid hl1
  have HQ := Lib.hid (lp_whole (x := 1 + r) HWA.out (by omega) (by omega))
  have HMA : Hid (mA A = mL A) := by show _ = _; unfold mA; rw [if_pos (wE_zero HWA.out).1]
  have HMQ : Hid (mA (lp (1 + r) A) = mL (lp (1 + r) A)) := by show _ = _; unfold mA; rw [if_pos (wE_zero HQ.out).1]
  have HEA := Lib.hid (wE_zero HWA.out).1
  have HEQ := Lib.hid (wE_zero HQ.out).1
  have HLQ : Hid ((lp (1 + r) A).length = k + 3) := by show _ = _; rw [lp_len (by omega)]; omega
  have HT : Hid (lp (1 + r) A = [(21, 1 + r, 0)] ++ A.take k ++ [(22, 0, 0), (25, 0, 0)]) := lp_at hl1
  have HF := Lib.hid (lp_first (x := 1 + r) HWA.out)
  have HMt : Hid (∀ i, i < k → mt (lp (1 + r) A) (lp (1 + r) A).length (i + 1) = if mt A A.length i < 0 then -1 else mt A A.length i + 1) := fun i hi => lp_match HWA.out (by omega)
  have HMr : Hid (∀ i, i < k → -1 ≤ mt A A.length i ∧ mt A A.length i < k + 1) := by
    intro i hi
    have hS := (mE_zero HEA.out).2
    cases ho : opn (at_ A i)
    · cases hc : cls (at_ A i)
      · rw [mt_else ho hc]; omega
      · obtain ⟨t, _, h2, h3, _⟩ := hS.cls hc; rw [h3]; omega
    · obtain ⟨d, h1, h2, h3, _⟩ := hS.opn ho; rw [h1]; omega
  have d0 : decide ((k : Int) + 1 < 1) = false := by rw [decide_eq_false_iff_not]; omega
  have d1 : decide ((190 : Int) < (k : Int) + 1) = false := by rw [decide_eq_false_iff_not]; omega
  have hkc' : (k : Int) ≤ (c : Int) := by omega
  have hcv : IntKind.i64.wrap r = r := IntWalk.i64_in _ (by omega)
  have hcw : IntKind.i64.wrap (1 + r) = 1 + r := IntWalk.i64_in _ (by omega)
  clear hl1
  go_enter Tryd.func9, Tryd.ntmps9
  go_wp2_with fail
  refine (whole_at HWA.out _ HA.out HN.out).mono ?_; rintro e w2 ⟨rfl, hb⟩
  have G := hb
  replace HA := Lib.hid (HA.out.below hb); clear hb
  obtain ⟨b1, o1, rfl, hadl, _⟩ := HA.out.2 (by omega)
  have hLl : (cellsI (A.take k)).length = k * 3 := by rw [cellsI_length, List.length_take, ← HA.out.1]; omega
  have HO : Hid ((w2.alloc (.cells #[.int .i64 21, .int .i64 (1 + r), .int .i64 0] 32)).ownsRow w2.heap.size 32 3 (.slice (some ⟨w2.heap.size, 0, none⟩) 1 1) 1 [.int .i64 21, .int .i64 (1 + r), .int .i64 0]) :=
    World.ownsRow_lit (base := w2.heap.size) (e := 32) (size := 3) w2 _ 1 (Nat.le_refl _) (by unfold maxLen; omega) rfl
  have HcA : Hid (∀ (W : World), Below w2.heap.size w2 W → ∀ j u, (cellsI (A.take k))[j]? = some u → W.cell? ((⟨b1, o1, none⟩ : Addr).add j) = some u) := fun W hW => ((HA.out.take (m := k) (by omega)).below hW).cells rfl
  have B0 := below_alloc w2 (.cells #[.int .i64 21, .int .i64 (1 + r), .int .i64 0] 32)
  go_wp2_with (at_builtin; refine wpList_append_own _ rfl _ _ 22 rfl w2.heap.size 32 i0 (.agg #[.int .i64 0, .int .i64 0, .int .i64 0]) 3 24 Tryd.underlying22 hi hz0 hz1i hz2i rfl (by decide) _ _ _ rfl HO.out ⟨b1, o1, none⟩ k c (cellsI (A.take k)) rfl hLl (HcA.out _ B0) (cellsI_one (A.take k)) ?c3 ?c4 ?c5 ?_)
  case c3 => unfold maxLen; omega
  case c4 => omega
  case c5 => simp
  intro v1 w4 hown1 hgrow1 _
  have B1 : Below w2.heap.size w2 w4 := B0.grown hgrow1 (by simp) (fun g hg => by simp [Value.ownBlock] at hg; omega)
  have hv1 : ∀ g, v1.ownBlock = some g → w2.heap.size ≤ g := fun g hg => (hown1.lt g hg).1
  have hown1' : w4.ownsRow w2.heap.size 32 3 v1 (1 + k) (cellsI ([(21, 1 + r, 0)] ++ A.take k)) := by rw [cellsI_append]; exact hown1
  obtain ⟨A1, c1, rfl, _⟩ := RowI.own hown1'
  clear hgrow1 HO hown1
  have B1s := B1.size
  have C4 : ∀ j u, ([.int .i64 22, .int .i64 0, .int .i64 0, .int .i64 25, .int .i64 0, .int .i64 0] : List Value)[j]? = some u → (w4.alloc (.cells #[.int .i64 22, .int .i64 0, .int .i64 0, .int .i64 25, .int .i64 0, .int .i64 0] 32)).cell? ((⟨w4.heap.size, 0, none⟩ : Addr).add j) = some u := by
    intro j u hj
    rw [add_plain', Nat.zero_add, Lib.cell_of_heap (new_block w4 _) j]
    simpa using hj
  have C5 : ∀ u ∈ ([.int .i64 22, .int .i64 0, .int .i64 0, .int .i64 25, .int .i64 0, .int .i64 0] : List Value), u.oneCell' = true := by
    intro u hu
    simp at hu
    rcases hu with rfl | rfl | rfl | rfl <;> rfl
  have HC4 := Lib.hid C4
  have HC5 := Lib.hid C5
  have HO1 := Lib.hid (hown1'.alloc (.cells #[.int .i64 22, .int .i64 0, .int .i64 0, .int .i64 25, .int .i64 0, .int .i64 0] 32))
  clear C4 C5 hown1'
  go_wp2_with (at_builtin; refine wpList_append_own _ rfl _ _ 22 rfl w2.heap.size 32 i0 (.agg #[.int .i64 0, .int .i64 0, .int .i64 0]) 3 24 Tryd.underlying22 hi hz0 hz1i hz2i rfl (by decide) _ _ _ rfl HO1.out ⟨w4.heap.size, 0, none⟩ 2 2 [.int .i64 22, .int .i64 0, .int .i64 0, .int .i64 25, .int .i64 0, .int .i64 0] rfl rfl HC4.out HC5.out ?c3 ?c4 ?c5 ?_)
  case c3 => unfold maxLen; omega
  case c4 => omega
  case c5 => simp; omega
  intro v2 w5 hown2 hgrow2 _
  have B2 : Below w2.heap.size w2 w5 := (B1.alloc B1s _).grown hgrow2 (by simp; omega) hv1
  have hown3 : w5.ownsRow w2.heap.size 32 3 v2 (k + 3) (cellsI (lp (1 + r) A)) := by
    rw [HT.out, cellsI_append, show k + 3 = 1 + k + 2 by omega]; exact hown2
  obtain ⟨A5, c5, rfl, hR5⟩ := RowI.own hown3
  have HR5 := Lib.hid hR5
  replace HA := Lib.hid (HA.out.below B2)
  replace G := keep_below G B2
  clear hown2 hown3 hgrow2 B0 B1 B2 hR5 hv1 HcA hLl hadl HO1 HC4 HC5 B1s
  have CM := match_at HMA.out HEA.out w5 (c := c) HA.out (HN.out.below G)
  go_wp2_with fail
  refine CM.mono ?_; rintro e w6 ⟨a6, n6, c6, rfl, r6, hb⟩
  obtain rfl : n6 = k + 1 := by have := r6.1; rw [mL_len, ← HL1.out] at this; exact this
  replace G := keep_below G hb; replace HA := Lib.hid (HA.out.below hb); replace HR5 := Lib.hid (HR5.out.below hb); clear hb CM
  have HR6 := Lib.hid r6; clear r6
  have CM := match_at HMQ.out HEQ.out w6 (c := c5) HR5.out (HN.out.below G)
  go_wp2_with fail
  refine CM.mono ?_; rintro e w7 ⟨a7, n7, c7, rfl, r7, hb⟩
  obtain rfl : n7 = k + 3 := by have := r7.1; rw [mL_len, HLQ.out] at this; exact this
  replace G := keep_below G hb; replace HA := Lib.hid (HA.out.below hb); replace HR5 := Lib.hid (HR5.out.below hb); replace HR6 := Lib.hid (HR6.out.below hb); clear hb CM
  have HR7 := Lib.hid r7; clear r7
  go_wp2_with fail
  refine (locks_at XA.out EA.out _ HA.out (HN.out.below G)).mono ?_; rintro e w8 ⟨a8, n8, c8, rfl, r8, hb⟩
  have HN8 : Hid (n8 = x.length) := r8.1
  replace G := keep_below G hb; replace HR5 := Lib.hid (HR5.out.below hb); replace HR6 := Lib.hid (HR6.out.below hb); replace HR7 := Lib.hid (HR7.out.below hb); clear hb r8
  go_wp2_with fail
  refine (locks_at XQ.out EQ.out _ HR5.out (HN.out.below G)).mono ?_; rintro e w9 ⟨a9, n9, c9, rfl, r9, hb⟩
  replace G := keep_below G hb; replace HR5 := Lib.hid (HR5.out.below hb); replace HR6 := Lib.hid (HR6.out.below hb); replace HR7 := Lib.hid (HR7.out.below hb); clear hb r9
  obtain ⟨b7, o7, rfl, hcq⟩ := mrow_at HR7.out HLQ.out.symm (k := 0) (by omega)
  obtain ⟨b6, o6, rfl, hcm⟩ := mrow_at HR6.out HL1.out (k := 0) (by omega)
  have q0 := hcq 0 (by omega)
  have q1 := hcq (k + 1) (by omega)
  have hf1 := HF.out.1
  have hf2 := HF.out.2
  rw [← HL1.out] at hf1 hf2
  rw [hf1, Nat.add_zero] at q0
  rw [hf2] at q1
  have q0' : w9.cell? ⟨b7, o7, none⟩ = some (.int .i64 ((k : Int) + 1)) := q0
  have HCQ : Hid (∀ W, Below w9.heap.size w9 W → ∀ j, j < k + 3 → W.cell? ⟨b7, o7 + j, none⟩ = some (.int .i64 (mt (lp (1 + r) A) (lp (1 + r) A).length j))) := by
    intro W hW j hj
    exact keep_cell' hW (hcq j hj)
  have HCM : Hid (∀ W, Below w9.heap.size w9 W → ∀ j, j < k + 1 → W.cell? ⟨b6, o6 + j, none⟩ = some (.int .i64 (mt A A.length j))) := by
    intro W hW j hj
    exact keep_cell' hW (hcm j hj)
  have h02 : 0 < k + 3 := by omega
  have h03 : k + 1 < k + 3 := by omega
  have h04 : (k : Int) + 1 < (k : Int) + 3 := by omega
  have hz3 : (0 : Int) < (k : Int) + 3 := by omega
  clear hcq hcm q0 hf1 hf2 hcv hcw
  go_wp2
  go_loopw [14] (fun ii wr => ∃ i : Nat, i ≤ k ∧ ii = .int .i64 i ∧ Below w9.heap.size w9 wr) (fun ii _ => k - (intOf ii).toNat)
  case atStart => exact ⟨0, by omega, rfl, Below.refl _ _⟩
  case round =>
    clear q1 q0'
    obtain ⟨i, hik, rfl, hbl⟩ := hrel
    by_cases hlt : i < k
    · have f1 := HCM.out _ hbl i (by omega)
      have f2 := HCQ.out _ hbl (i + 1) (by omega)
      rw [HMt.out i hlt] at f2
      obtain ⟨hy1, hy2⟩ := HMr.out i hlt
      obtain ⟨u, hu⟩ : ∃ u, u = mt A A.length i := ⟨_, rfl⟩
      rw [← hu] at f1 f2 hy1 hy2
      have g1 : (0 : Int) ≤ (i : Int) + 1 := by omega
      have g2 : (i : Int) + 1 < (k : Int) + 3 := by omega
      have g3 : ((i : Int) + 1).toNat = i + 1 := by omega
      have g4 : i < k + 1 := by omega
      have g5 : i + 1 < k + 3 := by omega
      clear hu
      by_cases hneg : u < 0
      · rw [if_pos hneg] at f2
        have e3 : decide ((0 : Int) ≤ u) = false := by rw [decide_eq_false_iff_not]; omega
        go_wp2
        go_quiet (fail)
        go_wp2
        go_roundw
        case rel => exact ⟨i + 1, by omega, by go_num, hbl.trans ⟨rfl, rfl, rfl, Nat.le_refl _, fun _ _ => rfl⟩⟩
        case measure => simp [intOf]; omega
      · rw [if_neg hneg] at f2
        have e3 : decide (u < 0) = false := by rw [decide_eq_false_iff_not]; exact hneg
        have e4 : (0 : Int) ≤ u := by omega
        clear hneg
        go_wp2
        go_quiet (fail)
        go_wp2
        go_roundw
        case rel => exact ⟨i + 1, by omega, by go_num, hbl.trans ⟨rfl, rfl, rfl, Nat.le_refl _, fun _ _ => rfl⟩⟩
        case measure => simp [intOf]; omega
    · have G2 := keep_below G hbl
      have HR5' := Lib.hid (HR5.out.below hbl)
      have h12' : z1 = true → (n8 == 0) = z2 := by intro h; rw [HN8.out]; exact h12 h
      have h12'' : z1 = true → ((n8 : Int) == 0) = z2 := by
        intro h; rw [← h12' h, Bool.eq_iff_iff, beq_iff_eq, beq_iff_eq]; omega
      cases z1
      · have e11 := h11 rfl
        have hz1'' : (ea != 0) = true := hz1'
        clear h12 h12' h12'' h11 hz1' HCQ HCM
        go_wp2_with fail
        refine (whole_at HQ.out _ HR5'.out (HN.out.below G2)).mono ?_; rintro e w10 ⟨rfl, hb⟩
        replace G2 := keep_below G2 hb; clear hb
        go_wp2_with (go_at_call 10; refine (CK.out _ (HN.out.below G2)).mono ?_; rintro e w11 ⟨rfl, hb⟩)
        go_ret
        exact ⟨rfl, keep_below G2 hb⟩
      · have e12 := h12' rfl
        have e13 := h12'' rfl
        have hz1'' : (ea != 0) = false := hz1'
        clear h12 h12' h12'' h11 hz1' HCQ HCM
        cases z2
        all_goals
          go_wp2_with fail
          refine (whole_at HQ.out _ HR5'.out (HN.out.below G2)).mono ?_; rintro e w10 ⟨rfl, hb⟩
          replace G2 := keep_below G2 hb; clear hb
          go_wp2_with (go_at_call 10; refine (CK.out _ (HN.out.below G2)).mono ?_; rintro e w11 ⟨rfl, hb⟩)
          go_ret
          exact ⟨rfl, keep_below G2 hb⟩
set_option maxHeartbeats 4000000 in
set_option maxRecDepth 100000 in
theorem loops_walk (a : Option Addr) (n c : Nat) (A : List (Int × Int × Int)) (r : Int) (hr : 0 ≤ r ∧ r ≤ 255) (hnm : n ≤ maxLen) (hnc : n ≤ c) (w : World) (hN : Nms w) (ha : RowI w a n A) :
    Calls Tryd.prog 9 #[.slice a n c, .int .u8 r] w fun e w' => e = .returned (.bool true) ∧ Below w.heap.size w w' := by
  have CK := Lib.hid known_any
  have HN := Lib.hid hN
  unfold maxLen at hnm
  by_cases h0 : n = 0
  · subst h0
    clear ha hN
    go_enter Tryd.func9, Tryd.ntmps9
    go_wp2_with (go_at_call 10; refine (CK.out _ HN.out).mono ?_; rintro e w2 ⟨rfl, hb⟩)
    go_ret
    exact ⟨rfl, hb⟩
  obtain ⟨k, rfl⟩ : ∃ k, n = k + 1 := ⟨n - 1, by omega⟩
  clear h0
  have d0 : decide ((k : Int) + 1 < 1) = false := by rw [decide_eq_false_iff_not]; omega
  by_cases hbig : 190 < k + 1
  · clear ha hN
    have d1 : decide ((190 : Int) < (k : Int) + 1) = true := by rw [decide_eq_true_iff]; omega
    have d2 : (190 : Int) < (k : Int) + 1 := by omega
    go_enter Tryd.func9, Tryd.ntmps9
    go_wp2_with (go_at_call 10; refine (CK.out _ HN.out).mono ?_; rintro e w2 ⟨rfl, hb⟩)
    go_ret
    exact ⟨rfl, hb⟩
  have d1 : decide ((190 : Int) < (k : Int) + 1) = false := by rw [decide_eq_false_iff_not]; omega
  by_cases hA : wE A = 0
  · have ea := ha.1
    obtain ⟨l1, l2⟩ := lp_locks (x := 1 + r) hA (by omega) (by omega)
    refine loops_main a k c A r hr (by omega) (by omega) w hN ha hA (lA A) _ (lE A) _ rfl rfl rfl rfl (lE A == 0) (lE (lp (1 + r) A) == 0) rfl (by simp [bne]) rfl ?_ ?_
    · intro h
      have : lE A ≠ 0 := by simpa using h
      rw [l1 this]; rfl
    · intro h
      have h' : lE A = 0 := by simpa using h
      rw [l2 h', show lA A = lks A A.length from by unfold lA; rw [if_pos h']]
      cases lks A A.length <;> rfl
  · obtain ⟨z, hz⟩ : ∃ z, wE A = z := ⟨_, rfl⟩
    have HWA := Lib.hid hz
    have HA := Lib.hid ha
    have e1 : (z != 0) = true := by rw [← hz]; simpa using hA
    clear hz hA ha hN hbig
    go_enter Tryd.func9, Tryd.ntmps9
    go_wp2_with fail
    refine (whole_at HWA.out _ HA.out HN.out).mono ?_; rintro e w1 ⟨rfl, hb⟩
    have G := hb
    clear hb
    go_wp2_with (go_at_call 10; refine (CK.out _ (HN.out.below G)).mono ?_; rintro e w7 ⟨rfl, hb7⟩)
    go_ret
    exact ⟨rfl, keep_below G hb7⟩
end Go.Proofs.YtncnofcgpiaadaaDoor
