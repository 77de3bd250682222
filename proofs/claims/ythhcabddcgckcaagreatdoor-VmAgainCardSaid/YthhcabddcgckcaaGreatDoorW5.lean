/- What is proved here: the walk of the law VmAgain. Condition: the table of names holds what its initialiser lays ('Nms'). -/
import Derived.Test.YthhcabddcgckcaaGreatDoorLp8
import Derived.Test.YthhcabddcgckcaaGreatDoorLp10
namespace Go.Proofs.YthhcabddcgckcaaGreatDoor
open Go.ChangeShapes Go.WideShapes Go.RowKit Go.Maps

attribute [local go_sem ↓] fold23
set_option maxHeartbeats 3000000 in
set_option maxRecDepth 100000 in
theorem again_walk (a : Option Addr) (n c : Nat) (L : List (Int × Int × Int)) (l1 l2 : List Int) (hmx : n ≤ maxLen) (w : World) (hr : RowI w a n L) (h1 : l1.length = 16) (h2 : l2.length = 64) (hN : Nms w) :
    Calls Tryz.prog 7 #[.slice a n c, .agg (l1.map (Value.int .i64)).toArray, .agg (l2.map (Value.int .i64)).toArray] w fun e w' => e = .returned (.bool true) ∧ Below w.heap.size w w' := by
  have hm63 : n ≤ 9223372036854775807 := hmx
  have KN := Lib.hid (fun W (h : Below w.heap.size w W) => known8_any W (hN.below h))
  have BX := Lib.hid (box_any w l1 l2 h1 h2)
  obtain ⟨LA, hLA⟩ : ∃ LA, LA = l1.map (Value.int .i64) := ⟨_, rfl⟩
  obtain ⟨MA, hMA⟩ : ∃ MA, MA = l2.map (Value.int .i64) := ⟨_, rfl⟩
  rw [← hLA, ← hMA] at BX ⊢
  have HLA := Lib.hid hLA
  clear hLA hMA
  have B2 := BX.out.bel
  by_cases h200 : 200 < n
  · have e1 : decide ((200 : Int) < (n : Int)) = true := by rw [decide_eq_true_iff]; omega
    clear hr hN BX
    go_enter Tryz.func7, Tryz.ntmps7
    go_wp2_with (go_at_call 9; refine (KN.out _ B2).mono ?_; rintro e w1 ⟨rfl, hb1⟩)
    go_ret
    exact ⟨rfl, keep_below B2 hb1⟩
  · have e1 : decide ((200 : Int) < (n : Int)) = false := by rw [decide_eq_false_iff_not]; omega
    have N1 := Lib.hid (fun W (h : Below w.heap.size w W) => new_any a n c L W (hr.below h) (hN.below h))
    have hq2 := eqlp_nil
    have hq3 := eqlp_nn
    by_cases T : Takes L
    · have HT := Lib.hid T
      have HL := Lib.hid hr.1
      have hln := can_len T.can
      rw [← hr.1] at hln
      have HR := Lib.hid hr
      have HL1 := Lib.hid h1
      have HL2 := Lib.hid h2
      have LD : Hid (∀ W, Below ((w.alloc (.cells LA.toArray 23)).alloc (.cells MA.toArray 27)).heap.size ((w.alloc (.cells LA.toArray 23)).alloc (.cells MA.toArray 27)) W → (LD23 (.pointer (some ⟨w.heap.size, 0, none⟩))).run Tryz.prog W = .ok (.agg LA.toArray) W) := BX.out.ld
      have hr2 := hr
      clear hr HR hN T h200 h1 h2
      go_enter Tryz.func7, Tryz.ntmps7
      go_wp2_with (first
        | (go_at_call 10; have q0 := b1; clear q0; refine (N1.out _ (keep_below B2 b1)).mono ?_; rintro e w2 hG2; obtain ⟨b', G, rfl, hM', hlo', b2⟩ := hG2.ok HT.out)
        | (go_at_call 10; refine (N1.out _ B2).mono ?_; rintro e w1 hG; obtain ⟨b, F, rfl, hM, hlo, b1⟩ := hG.ok HT.out))
      obtain ⟨b4, o4, rfl, hB4, hc4⟩ := hr2.2 (by omega)
      have B3 := keep_below (keep_below B2 b1) b2
      have Hc4 : Hid (∀ j, j < n → w2.cell? ⟨b4, o4 + j * 3, none⟩ = some (.int .i64 (at_ L j).1)) := fun j hj => keep_cell B3 (hc4 j hj).1
      clear hc4 hr2 hB4 N1 hq2 hq3 hG hG2
      go_loopw [11] (fun i wr => ∃ k : Nat, k ≤ n ∧ i = .int .i64 (k : Int) ∧ Hid (∀ j, j < k → (at_ L j).1 ≠ 14) ∧ wr = w2) (fun i _ => n - (intOf i).toNat)
      case atStart => exact ⟨0, by omega, rfl, fun j hj => absurd hj (by omega), rfl⟩
      case round =>
        obtain ⟨k, hk, rfl, HNo, rfl⟩ := hrel
        by_cases hlt : k < n
        · have f1 : (0 : Int) ≤ (k : Int) := by omega
          have f2 : (k : Int) < (n : Int) := by omega
          have y1 := Hc4.out k hlt
          by_cases h14 : (at_ L k).1 = 14
          · rw [h14] at y1
            clear h14
            go_wp2_with (go_at_call 9; refine (KN.out _ B3).mono ?_; rintro e w9 ⟨rfl, b9⟩)
            go_ret
            exact ⟨rfl, keep_below B3 b9⟩
          · have HNo2 : Hid (∀ j, j < k + 1 → (at_ L j).1 ≠ 14) := fun j hj => by
              by_cases e : j = k
              · subst e; exact h14
              · exact HNo.out j (by omega)
            obtain ⟨A, hA⟩ : ∃ A, A = (at_ L k).1 := ⟨_, rfl⟩
            rw [← hA] at h14 y1
            have e5 : (A == 14) = false := by simpa using h14
            clear h14 hA
            go_wp2
            go_roundw
            case rel => exact ⟨k + 1, by omega, by go_num, HNo2, trivial⟩
            case measure => simp [intOf]; omega
        · have HNs : Hid (∀ j, j < L.length → (at_ L j).1 ≠ 14) := fun j hj => HNo.out j (by rw [← HL.out] at hj; omega)
          have hm0 := hM.below b2
          have hltF : ∀ g, F g → g < wr.heap.size := hm0.lt
          have hltG : ∀ g, G g → g < wr.heap.size := hM'.lt
          have hFG : ∀ g, F g → ¬ G g := fun g h1 h2 => by have := hM.lt g h1; have := hlo' g h2; omega
          have hs2 := BX.out.size
          have hsW := (keep_below b1 b2).size
          have hlowF : ∀ g, F g → w.heap.size + 2 ≤ g := fun g h => by have := hlo g h; omega
          have hlowG : ∀ g, G g → w.heap.size + 2 ≤ g := fun g h => by have := hlo' g h; have := b1.size; omega
          obtain ⟨mb, hmb⟩ : ∃ mb, mb = w.heap.size + 1 := ⟨_, rfl⟩
          have mem0 := BX.out.mem.below (keep_below b1 b2)
          rw [← hmb] at mem0 ⊢
          have rI : wr.rangeAt w.heap.size 0 (iv l1) := range_below (range_below (box_range w l1 HL1.out) (below_alloc _ (.cells MA.toArray 27))) (by have := keep_below b1 b2; rw [HLA.out] at this; exact this)
          obtain ⟨MV, hMV⟩ : ∃ MV, MV = iv l2 := ⟨_, rfl⟩
          have RGf : Hid (∀ W, Below wr.heap.size wr W → W.rangeAt mb 0 MV) := fun W hb => by rw [hMV]; exact mem_range (mem0.below hb)
          have CPf : Hid (∀ W : World, (W.alloc (.cells #[.int .i64 0, .int .i64 0, .int .i64 0, .int .i64 0, .int .i64 0, .int .i64 0, .int .i64 0, .int .i64 0, .int .i64 0, .int .i64 0, .int .i64 0, .int .i64 0, .int .i64 0, .int .i64 0, .int .i64 0, .int .i64 0, .int .i64 0, .int .i64 0, .int .i64 0, .int .i64 0, .int .i64 0, .int .i64 0, .int .i64 0, .int .i64 0, .int .i64 0, .int .i64 0, .int .i64 0, .int .i64 0, .int .i64 0, .int .i64 0, .int .i64 0, .int .i64 0, .int .i64 0, .int .i64 0, .int .i64 0, .int .i64 0, .int .i64 0, .int .i64 0, .int .i64 0, .int .i64 0, .int .i64 0, .int .i64 0, .int .i64 0, .int .i64 0, .int .i64 0, .int .i64 0, .int .i64 0, .int .i64 0, .int .i64 0, .int .i64 0, .int .i64 0, .int .i64 0, .int .i64 0, .int .i64 0, .int .i64 0, .int .i64 0, .int .i64 0, .int .i64 0, .int .i64 0, .int .i64 0, .int .i64 0, .int .i64 0, .int .i64 0, .int .i64 0] 27)).there W.heap.size 0 MV.toArray.size ∧ MemAt ((W.alloc (.cells #[.int .i64 0, .int .i64 0, .int .i64 0, .int .i64 0, .int .i64 0, .int .i64 0, .int .i64 0, .int .i64 0, .int .i64 0, .int .i64 0, .int .i64 0, .int .i64 0, .int .i64 0, .int .i64 0, .int .i64 0, .int .i64 0, .int .i64 0, .int .i64 0, .int .i64 0, .int .i64 0, .int .i64 0, .int .i64 0, .int .i64 0, .int .i64 0, .int .i64 0, .int .i64 0, .int .i64 0, .int .i64 0, .int .i64 0, .int .i64 0, .int .i64 0, .int .i64 0, .int .i64 0, .int .i64 0, .int .i64 0, .int .i64 0, .int .i64 0, .int .i64 0, .int .i64 0, .int .i64 0, .int .i64 0, .int .i64 0, .int .i64 0, .int .i64 0, .int .i64 0, .int .i64 0, .int .i64 0, .int .i64 0, .int .i64 0, .int .i64 0, .int .i64 0, .int .i64 0, .int .i64 0, .int .i64 0, .int .i64 0, .int .i64 0, .int .i64 0, .int .i64 0, .int .i64 0, .int .i64 0, .int .i64 0, .int .i64 0, .int .i64 0, .int .i64 0] 27)).setCells W.heap.size 0 MV) W.heap.size l2 ∧ Below W.heap.size W ((W.alloc (.cells #[.int .i64 0, .int .i64 0, .int .i64 0, .int .i64 0, .int .i64 0, .int .i64 0, .int .i64 0, .int .i64 0, .int .i64 0, .int .i64 0, .int .i64 0, .int .i64 0, .int .i64 0, .int .i64 0, .int .i64 0, .int .i64 0, .int .i64 0, .int .i64 0, .int .i64 0, .int .i64 0, .int .i64 0, .int .i64 0, .int .i64 0, .int .i64 0, .int .i64 0, .int .i64 0, .int .i64 0, .int .i64 0, .int .i64 0, .int .i64 0, .int .i64 0, .int .i64 0, .int .i64 0, .int .i64 0, .int .i64 0, .int .i64 0, .int .i64 0, .int .i64 0, .int .i64 0, .int .i64 0, .int .i64 0, .int .i64 0, .int .i64 0, .int .i64 0, .int .i64 0, .int .i64 0, .int .i64 0, .int .i64 0, .int .i64 0, .int .i64 0, .int .i64 0, .int .i64 0, .int .i64 0, .int .i64 0, .int .i64 0, .int .i64 0, .int .i64 0, .int .i64 0, .int .i64 0, .int .i64 0, .int .i64 0, .int .i64 0, .int .i64 0, .int .i64 0] 27)).setCells W.heap.size 0 MV)) := fun W => by rw [hMV]; exact mem_copied64 W l2 HL2.out
          have hi27 : (Tryz.prog.info? 27).map (·.size) = some MV.length := by rw [hMV, show (iv l2).length = l2.length by unfold iv; simp, HL2.out]; exact ln27
          have hi27' : (Tryz.prog.info? 27).map (·.size) = some MV.toArray.size := by simpa using hi27
          have h1M : MV.toArray.all (·.oneCell') = true := by rw [hMV]; exact iv_one _
          have RG1 := RGf.out wr (Below.refl _ _)
          have CC1 := CPf.out wr
          obtain ⟨CT1, cc1⟩ := CC1
          have CP1 := Lib.hid cc1
          have LDf : Hid (∀ W, Below wr.heap.size wr W → (LD23 (.pointer (some ⟨w.heap.size, 0, none⟩))).run Tryz.prog W = .ok (.agg LA.toArray) W) := fun W hb => LD.out W (keep_below (keep_below b1 b2) hb)
          have HM0 := Lib.hid hm0
          have HM0' := Lib.hid hM'
          have SZ : Hid (∀ W, Mac W G b' L fresh → Calls Tryz.prog 13 #[.pointer (some ⟨b', 0, none⟩), .agg #[.int .i64 0, .int .i64 0, .int .i64 0, .int .i64 0, .int .i64 0, .int .i64 0, .int .i64 0, .int .i64 0, .int .i64 0, .int .i64 0, .int .i64 0, .int .i64 0, .int .i64 0, .int .i64 0, .int .i64 0, .int .i64 0]] W fun e w' => e = .returned (.int .i64 0) ∧ Mac w' G b' L (begun fresh.ret (List.replicate 16 0)) ∧ Chg G G b' W w') := fun W h => by
            have := start_run W G b' L fresh (List.replicate 16 0) h rfl rfl
            rw [zero_in] at this; exact this
          have HMV := Lib.hid hMV
          have HFG := Lib.hid hFG
          have HMB := Lib.hid hmb
          clear hMV cc1 hm0 hM hM' hFG LD hmb
          go_wp2_with (first
            | (refine wpList_load_mid rfl 27 _ rfl mb 0 rfl MV _ RG3 Tryz.underlying27 rfl hi27 ?_)
            | (refine wpList_load_mid rfl 27 _ rfl mb 0 rfl MV _ RG2 Tryz.underlying27 rfl hi27 ?_)
            | (refine wpList_load_mid rfl 27 _ rfl mb 0 rfl MV _ RG1 Tryz.underlying27 rfl hi27 ?_)
            | (refine wpList_store_mid rfl 27 _ _ rfl X2.heap.size 0 MV.toArray rfl rfl CT3 hi27' h1M ?_; have c3 := CP3.out; obtain ⟨m3, d3⟩ := c3; rw [show MV.toArray.toList = MV by simp]; generalize (X2.alloc (.cells #[.int .i64 0, .int .i64 0, .int .i64 0, .int .i64 0, .int .i64 0, .int .i64 0, .int .i64 0, .int .i64 0, .int .i64 0, .int .i64 0, .int .i64 0, .int .i64 0, .int .i64 0, .int .i64 0, .int .i64 0, .int .i64 0, .int .i64 0, .int .i64 0, .int .i64 0, .int .i64 0, .int .i64 0, .int .i64 0, .int .i64 0, .int .i64 0, .int .i64 0, .int .i64 0, .int .i64 0, .int .i64 0, .int .i64 0, .int .i64 0, .int .i64 0, .int .i64 0, .int .i64 0, .int .i64 0, .int .i64 0, .int .i64 0, .int .i64 0, .int .i64 0, .int .i64 0, .int .i64 0, .int .i64 0, .int .i64 0, .int .i64 0, .int .i64 0, .int .i64 0, .int .i64 0, .int .i64 0, .int .i64 0, .int .i64 0, .int .i64 0, .int .i64 0, .int .i64 0, .int .i64 0, .int .i64 0, .int .i64 0, .int .i64 0, .int .i64 0, .int .i64 0, .int .i64 0, .int .i64 0, .int .i64 0, .int .i64 0, .int .i64 0, .int .i64 0] 27)).setCells X2.heap.size 0 MV = X3 at m3 d3 ⊢; have LD3 := LDf.out _ (keep_below (keep_below d1 d2) d3))
            | (refine wpList_store_mid rfl 27 _ _ rfl X1.heap.size 0 MV.toArray rfl rfl CT2 hi27' h1M ?_; have c2 := CP2.out; obtain ⟨m2, d2⟩ := c2; rw [show MV.toArray.toList = MV by simp]; generalize (X1.alloc (.cells #[.int .i64 0, .int .i64 0, .int .i64 0, .int .i64 0, .int .i64 0, .int .i64 0, .int .i64 0, .int .i64 0, .int .i64 0, .int .i64 0, .int .i64 0, .int .i64 0, .int .i64 0, .int .i64 0, .int .i64 0, .int .i64 0, .int .i64 0, .int .i64 0, .int .i64 0, .int .i64 0, .int .i64 0, .int .i64 0, .int .i64 0, .int .i64 0, .int .i64 0, .int .i64 0, .int .i64 0, .int .i64 0, .int .i64 0, .int .i64 0, .int .i64 0, .int .i64 0, .int .i64 0, .int .i64 0, .int .i64 0, .int .i64 0, .int .i64 0, .int .i64 0, .int .i64 0, .int .i64 0, .int .i64 0, .int .i64 0, .int .i64 0, .int .i64 0, .int .i64 0, .int .i64 0, .int .i64 0, .int .i64 0, .int .i64 0, .int .i64 0, .int .i64 0, .int .i64 0, .int .i64 0, .int .i64 0, .int .i64 0, .int .i64 0, .int .i64 0, .int .i64 0, .int .i64 0, .int .i64 0, .int .i64 0, .int .i64 0, .int .i64 0, .int .i64 0] 27)).setCells X1.heap.size 0 MV = X2 at m2 d2 ⊢; have c2 := CPf.out X2; obtain ⟨CT3, cc3⟩ := c2; have CP3 := Lib.hid cc3; clear cc3; have RG3 := RGf.out _ (keep_below d1 d2))
            | (refine wpList_store_mid rfl 27 _ _ rfl wr.heap.size 0 MV.toArray rfl rfl CT1 hi27' h1M ?_; have c1 := CP1.out; obtain ⟨m1, d1⟩ := c1; rw [show MV.toArray.toList = MV by simp]; generalize (wr.alloc (.cells #[.int .i64 0, .int .i64 0, .int .i64 0, .int .i64 0, .int .i64 0, .int .i64 0, .int .i64 0, .int .i64 0, .int .i64 0, .int .i64 0, .int .i64 0, .int .i64 0, .int .i64 0, .int .i64 0, .int .i64 0, .int .i64 0, .int .i64 0, .int .i64 0, .int .i64 0, .int .i64 0, .int .i64 0, .int .i64 0, .int .i64 0, .int .i64 0, .int .i64 0, .int .i64 0, .int .i64 0, .int .i64 0, .int .i64 0, .int .i64 0, .int .i64 0, .int .i64 0, .int .i64 0, .int .i64 0, .int .i64 0, .int .i64 0, .int .i64 0, .int .i64 0, .int .i64 0, .int .i64 0, .int .i64 0, .int .i64 0, .int .i64 0, .int .i64 0, .int .i64 0, .int .i64 0, .int .i64 0, .int .i64 0, .int .i64 0, .int .i64 0, .int .i64 0, .int .i64 0, .int .i64 0, .int .i64 0, .int .i64 0, .int .i64 0, .int .i64 0, .int .i64 0, .int .i64 0, .int .i64 0, .int .i64 0, .int .i64 0, .int .i64 0, .int .i64 0] 27)).setCells wr.heap.size 0 MV = X1 at m1 d1 ⊢; have c2 := CPf.out X1; obtain ⟨CT2, cc2⟩ := c2; have CP2 := Lib.hid cc2; clear cc2; have RG2 := RGf.out _ d1)
            | (go_at_call 13; have q0 := h5; clear q0; refine (SZ.out _ ((HM0'.out.below (keep_below (keep_below d1 d2) d3)).other g5 (fun i hi e => HFG.out i e hi) (HFG.out b h5.fb))).mono ?_; rintro e w6 ⟨rfl, h6, g6⟩)
            | (go_at_call 13; refine (BX.out.st _ F b L fresh (HM0.out.below (keep_below (keep_below d1 d2) d3)) rfl).mono ?_; rintro e w5 ⟨rfl, h5, g5⟩))
          have l1' := m1.lt
          have l2' := m2.lt
          have l3' := m3.lt
          have d13 := keep_below (keep_below d1 d2) d3
          have B9 := keep_below B3 d13
          have D0 : Duo w X3 F G b b' wr.heap.size X2.heap.size L L (fresh, l2) (fresh, l2) :=
            { p := ⟨HM0.out.below d13, m1.below (keep_below d2 d3), fun e => by have := hltF _ e; omega, fun j h => by have := hlowF j h; omega, by omega, B9⟩
              q := ⟨HM0'.out.below d13, m3, fun e => by have := hltG _ e; omega, fun j h => by have := hlowG j h; omega, by omega, B9⟩
              d := HFG.out
              n1 := fun e => by have := hltG _ e; omega
              n2 := fun e => by have := hltF _ e; omega
              ne := by omega }
          have D2 := ((D0.start1 h5 g5).symm.start1 h6 g6).symm
          have s5 := g5.size
          have s6 := g6.size
          have nb : ∀ g, ¬ F g → g ≠ b := fun g h e => h (e ▸ h5.fb)
          have nb' : ∀ g, ¬ G g → g ≠ b' := fun g h e => h (e ▸ h6.fb)
          have yF : ¬ F X1.heap.size := fun e => by have := hltF _ e; omega
          have yG : ¬ G X1.heap.size := fun e => by have := hltG _ e; omega
          have iF : ¬ F w.heap.size := fun e => by have := hlowF _ e; omega
          have iG : ¬ G w.heap.size := fun e => by have := hlowG _ e; omega
          have AY : Aside F G wr.heap.size X2.heap.size w6 X1.heap.size ∧ MemAt w6 X1.heap.size l2 := ⟨⟨by omega, yF, yG, by omega, by omega⟩, ((m2.below d3).chg g5 yF (nb _ yF)).chg g6 yG (nb' _ yG)⟩
          have AI : Aside F G wr.heap.size X2.heap.size w6 w.heap.size ∧ w6.rangeAt w.heap.size 0 (iv l1) := ⟨⟨by omega, iF, iG, by omega, by omega⟩, range_chg (range_chg (range_below rI d13) g5 iF (nb _ iF)) g6 iG (nb' _ iG)⟩
          have hby : w.heap.size ≤ X1.heap.size := by omega
          have HXm0 : ∃ xm, xm = ((begun fresh.ret l1, l2) : V × List Int) := ⟨_, rfl⟩
          obtain ⟨xm, hxm⟩ := HXm0
          have HXn0 : ∃ xn, xn = ((begun fresh.ret (List.replicate 16 0), l2) : V × List Int) := ⟨_, rfl⟩
          obtain ⟨xn, hxn⟩ := HXn0
          have FIm : Hid (∀ k, Fine L (it L k xm).1) := fun k => by rw [hxm]; exact Fine.it (x := (begun fresh.ret l1, l2)) (Or.inl (HT.out.begun _ _)) HT.out k
          have FIn : Hid (∀ k, Fine L (it L k xn).1) := fun k => by rw [hxn]; exact Fine.it (x := (begun fresh.ret (List.replicate 16 0), l2)) (Or.inl (HT.out.begun _ _)) HT.out k
          have HXm : Hid (xm = (begun fresh.ret l1, l2)) := hxm
          have HXn : Hid (xn.1.ret = fresh.ret) := by rw [hxn]; rfl
          have D2' : Duo w w6 F G b b' wr.heap.size X2.heap.size L L xm xn := by rw [hxm, hxn]; exact D2
          have HLV := HLA
          clear D2 hxm hxn
          generalize wr.heap.size = bx at D2' AY AI ⊢
          generalize X2.heap.size = bz at D2' AY AI ⊢
          generalize X1.heap.size = by' at AY hby ⊢
          have HBy := Lib.hid hby
          have HD := Lib.hid D2'
          have HAY := Lib.hid AY
          have HAI := Lib.hid AI
          obtain ⟨LV, hLV⟩ : ∃ LV, LV = iv l1 := ⟨_, rfl⟩
          have HLV : Hid (LV = iv l1) := hLV
          clear hLV hby D2' AY AI iF iG yF yG nb nb' s5 s6 D0 B9 d13 l1' l2' l3' h5 g5 h6 g6 m1 m2 m3 d1 d2 d3 CT1 CT2 CT3 CP1 CP2 CP3 RG1 RG2 RG3 LD3 RGf CPf LDf HM0 HM0' SZ HMV HFG hltF hltG hlowF hlowG hs2 hsW mem0 rI hi27 hi27' h1M HLA BX b1 b2 B3 B2 hlo hlo' HNo Hc4
          go_loopw [15] (fun i wr => ∃ (k : Nat) (F G : Nat → Prop), k ≤ 3000 ∧ i = .int .i64 (k : Int) ∧ Hid (Duo w wr F G b b' bx bz L L (it L k xm) (it L k xn)) ∧ Hid (Aside F G bx bz wr by' ∧ MemAt wr by' l2) ∧ Hid (Aside F G bx bz wr w.heap.size ∧ wr.rangeAt w.heap.size 0 (iv l1))) (fun i _ => 3000 - (intOf i).toNat)
          case atStart => exact ⟨0, F, G, by omega, rfl, HD, HAY, HAI⟩
          case round =>
            clear HD HAY HAI hk
            obtain ⟨k, F, G, hk, rfl, DD, A1, A2⟩ := hrel
            have BW2 := DD.out.p.bel
            have Fm := FIm.out k
            have Fn := FIn.out k
            obtain ⟨ym, hym⟩ : ∃ ym, ym = it L k xm := ⟨_, rfl⟩
            obtain ⟨yn, hyn⟩ : ∃ yn, yn = it L k xn := ⟨_, rfl⟩
            have HK1 : Hid (it L (k + 1) xm = nxt L ym) := by show _ = _; rw [hym]; rfl
            have HK2 : Hid (it L (k + 1) xn = nxt L yn) := by show _ = _; rw [hyn]; rfl
            have HKm : Hid (it L k xm = ym) := hym.symm
            have HKn : Hid (it L k xn = yn) := hyn.symm
            rw [← hym, ← hyn] at DD
            rw [← hym] at Fm
            rw [← hyn] at Fn
            clear hym hyn
            have RNm : Hid (∀ W F', Mac W F' b L ym.1 → Calls Tryz.prog 14 #[.pointer (some ⟨b, 0, none⟩)] W fun e w' => e = .returned (.bool ym.1.goes) ∧ W = w') := fun W F' h => running_any W F' b L ym.1 h
            have RNn : Hid (∀ W F', Mac W F' b' L yn.1 → Calls Tryz.prog 14 #[.pointer (some ⟨b', 0, none⟩)] W fun e w' => e = .returned (.bool yn.1.goes) ∧ W = w') := fun W F' h => running_any W F' b' L yn.1 h
            by_cases hk3 : k < 3000
            · have i1 : (k : Int) < 3000 := by omega
              cases hgm : ym.1.goes
              · cases hgn : yn.1.goes
                · -- both have ended
                  have HGm : Hid ((it L k xm).1.goes = false) := by show _ = _; rw [HKm.out]; exact hgm
                  have SRn : Hid (∀ W, Mac W G b' L yn.1 → Calls Tryz.prog 13 #[.pointer (some ⟨b', 0, none⟩), .agg LV.toArray] W fun e w' => e = .returned (.int .i64 0) ∧ Mac w' G b' L (begun yn.1.ret l1) ∧ Chg G G b' W w') := fun W h => by rw [HLV.out]; exact start_run W G b' L yn.1 l1 h HL1.out hgn
                  have LDr := load_16 A2.out.2 HL1.out
                  rw [← HLV.out] at LDr
                  rw [hgm] at RNm
                  rw [hgn] at RNn
                  clear hgm hgn
                  go_wp2_with (first
                    | (go_at_call 13; refine (SRn.out _ DD.out.q.m).mono ?_; rintro e w7 ⟨rfl, h7, g7⟩)
                    | (go_at_call 14; have q0 := mk3; clear q0; refine (RNn.out _ G DD.out.q.m).mono ?_; rintro e w9 ⟨rfl, rfl⟩)
                    | (go_at_call 14; have q0 := mk2; clear q0; refine (RNm.out _ F DD.out.p.m).mono ?_; rintro e w9 ⟨rfl, rfl⟩; have mk3 := True.intro)
                    | (go_at_call 14; have q0 := mk1; clear q0; refine (RNn.out _ G DD.out.q.m).mono ?_; rintro e w9 ⟨rfl, rfl⟩; have mk2 := True.intro)
                    | (go_at_call 14; refine (RNm.out _ F DD.out.p.m).mono ?_; rintro e w9 ⟨rfl, rfl⟩; have mk1 := True.intro))
                  rw [← HKn.out] at h7 DD
                  rw [← HKm.out] at DD
                  have hret : (it L k xn).1.ret = fresh.ret := by
                    have := it_ret (x := xn) (FIn.out 0) HT.out HNs.out k
                    rw [this]; exact HXn.out
                  rw [hret] at h7
                  have mem7 := A1.out.2.chg g7 A1.out.1.ng (fun e => A1.out.1.ng (e ▸ h7.fb))
                  have hs7 := (DD.out.symm.start1 h7 g7)
                  have D7 : Duo w w7 F G b b' bx by' L L (it L k xm) xm := by
                    rw [HXm.out]
                    have hq := hs7.q
                    rw [HXm.out] at hq
                    exact ⟨hq, ⟨h7, mem7, A1.out.1.ng, hs7.p.low, HBy.out, hs7.p.bel⟩, DD.out.d, DD.out.n1, A1.out.1.nf, fun e => A1.out.1.ox e.symm⟩
                  have HD7 := Lib.hid D7
                  clear D7 hs7 mem7 g7 h7 hret
                  go_loopw [16] (fun i wr => ∃ (j : Nat) (G : Nat → Prop), j ≤ 3000 ∧ i = .int .i64 (j : Int) ∧ Hid (Duo w wr F G b b' bx by' L L (it L k xm) (it L j xm))) (fun i _ => 3000 - (intOf i).toNat)
                  case atStart => exact ⟨0, G, by omega, rfl, HD7⟩
                  case round =>
                    clear HD7 DD A1 A2
                    obtain ⟨j, G, hj, rfl, DD3⟩ := hrel
                    have BW3 := DD3.out.p.bel
                    have Fj := FIm.out j
                    have HJ1 : Hid (it L (j + 1) xm = nxt L (it L j xm)) := rfl
                    obtain ⟨z, hz⟩ : ∃ z, z = it L j xm := ⟨_, rfl⟩
                    have HZ := Lib.hid hz
                    rw [← hz] at DD3 Fj HJ1
                    clear hz
                    have RN3 : Hid (∀ W G', Mac W G' b' L z.1 → Calls Tryz.prog 14 #[.pointer (some ⟨b', 0, none⟩)] W fun e w' => e = .returned (.bool z.1.goes) ∧ W = w') := fun W G' h => running_any W G' b' L z.1 h
                    by_cases hjg : j < 3000 ∧ z.1.goes = true
                    · obtain ⟨hj3, hg⟩ := hjg
                      rw [hg] at RN3
                      have i1 : (j : Int) < 3000 := by omega
                      have ST := Lib.hid (DD3.out.q.step Fj HT.out)
                      clear Fj hg
                      go_wp2_with (first
                        | (go_at_call 18; refine ST.out.mono ?_; rintro e w8 ⟨rfl, G', h8, g8⟩)
                        | (go_at_call 14; refine (RN3.out _ G DD3.out.q.m).mono ?_; rintro e w9 ⟨rfl, rfl⟩))
                      have HD8 := Lib.hid (DD3.out.step2 g8 h8)
                      rw [← HJ1.out] at HD8
                      clear g8 h8 BW3
                      go_roundw
                      case rel => exact ⟨j + 1, G', by omega, by go_num, HD8⟩
                      case measure => simp [intOf]; omega
                    · have hg : z.1.goes = false := by
                        cases hq : z.1.goes
                        · rfl
                        · by_cases h : j < 3000
                          · exact absurd ⟨h, hq⟩ hjg
                          · have := it_late (L := L) (x := xm) (j := k) (k := j) (by omega) HGm.out
                            rw [← HZ.out, hq] at this; cases this
                      have hzk : it L k xm = z := by rw [HZ.out]; exact it_end HGm.out (by rw [← HZ.out]; exact hg)
                      rw [hzk] at DD3
                      rw [hg] at RN3
                      obtain ⟨ZV, hZV⟩ : ∃ ZV, ZV = iv z.2 := ⟨_, rfl⟩
                      have RGx := mem_range DD3.out.p.mem
                      have RGy := mem_range DD3.out.q.mem
                      have hz64 := DD3.out.p.mem.1
                      have EQ := fun W => run_eql27 z.2 hz64 W
                      have hi27z : (Tryz.prog.info? 27).map (·.size) = some (iv z.2).length := by rw [show (iv z.2).length = z.2.length by unfold iv; simp, hz64]; exact ln27
                      rw [← hZV] at RGx RGy EQ hi27z
                      obtain ⟨ol, hol⟩ : ∃ ol, ol = outTo z.1 16 := ⟨_, rfl⟩
                      obtain ⟨on, hon⟩ : ∃ on, on = ol.length := ⟨_, rfl⟩
                      have hon16 : on ≤ 16 := by rw [hon, hol]; exact outTo_len _ _
                      have HOn := Lib.hid hon
                      have OU : Hid (∀ W H c, Mac W H c L z.1 → Calls Tryz.prog 19 #[.pointer (some ⟨c, 0, none⟩)] W fun e w' => ∃ a c, e = .returned (.slice a on c) ∧ RowP w' a on ol ∧ Below W.heap.size W w') := fun W H c h => by
                        refine (outs_any W H c L z.1 h).mono ?_
                        rintro e w' ⟨v, rfl, ho, hb⟩
                        rw [← hol, ← hon] at ho
                        obtain ⟨a, c, rfl, hr⟩ := RowP.own ho
                        exact ⟨a, c, rfl, hr, hb⟩
                      have OUm : Hid (∀ W, Below wr.heap.size wr W → Calls Tryz.prog 19 #[.pointer (some ⟨b, 0, none⟩)] W fun e w' => ∃ a c, e = .returned (.slice a on c) ∧ RowP w' a on ol ∧ Below W.heap.size W w') := fun W hb => OU.out W F b (DD3.out.p.m.below hb)
                      have OUn : Hid (∀ W, Below wr.heap.size wr W → Calls Tryz.prog 19 #[.pointer (some ⟨b', 0, none⟩)] W fun e w' => ∃ a c, e = .returned (.slice a on c) ∧ RowP w' a on ol ∧ Below W.heap.size W w') := fun W hb => OU.out W G b' (DD3.out.q.m.below hb)
                      obtain ⟨sp, hsp⟩ : ∃ sp, sp = z.1.stp := ⟨_, rfl⟩
                      obtain ⟨ft, hft⟩ : ∃ ft, ft = z.1.flt := ⟨_, rfl⟩
                      have SPm : Hid (∀ W, Below wr.heap.size wr W → Calls Tryz.prog 22 #[.pointer (some ⟨b, 0, none⟩)] W fun e w' => e = .returned (.int .i64 sp) ∧ W = w') := fun W hb => by rw [hsp]; exact steps_any W F b L z.1 (DD3.out.p.m.below hb)
                      have SPn : Hid (∀ W, Below wr.heap.size wr W → Calls Tryz.prog 22 #[.pointer (some ⟨b', 0, none⟩)] W fun e w' => e = .returned (.int .i64 sp) ∧ W = w') := fun W hb => by rw [hsp]; exact steps_any W G b' L z.1 (DD3.out.q.m.below hb)
                      have FTm : Hid (∀ W, Below wr.heap.size wr W → Calls Tryz.prog 23 #[.pointer (some ⟨b, 0, none⟩)] W fun e w' => e = .returned (.int .i64 ft) ∧ W = w') := fun W hb => by rw [hft]; exact faults_any W F b L z.1 (DD3.out.p.m.below hb)
                      have FTn : Hid (∀ W, Below wr.heap.size wr W → Calls Tryz.prog 23 #[.pointer (some ⟨b', 0, none⟩)] W fun e w' => e = .returned (.int .i64 ft) ∧ W = w') := fun W hb => by rw [hft]; exact faults_any W G b' L z.1 (DD3.out.q.m.below hb)
                      clear hZV hz64 hol hon hsp hft Fj hg hzk OU
                      by_cases hj3 : j < 3000
                      · have i1 : (j : Int) < 3000 := by omega
                        go_wp2_with (first
                          | (go_at_call 9; refine (KN.out _ (keep_below BW3 (keep_below c7 b8))).mono ?_; rintro e w9 ⟨rfl, b9⟩)
                          | (go_at_call 22; have q0 := ms; clear q0; refine (SPn.out _ (keep_below c7 b8)).mono ?_; rintro e w9 ⟨rfl, rfl⟩)
                          | (go_at_call 22; refine (SPm.out _ (keep_below c7 b8)).mono ?_; rintro e w9 ⟨rfl, rfl⟩; have ms := True.intro)
                          | (go_at_call 23; have q0 := mf; clear q0; refine (FTn.out _ (keep_below c7 b8)).mono ?_; rintro e w9 ⟨rfl, rfl⟩)
                          | (go_at_call 23; refine (FTm.out _ (keep_below c7 b8)).mono ?_; rintro e w9 ⟨rfl, rfl⟩; have mf := True.intro)
                          | (go_at_call 25; refine (same8_eq _ _ on _ _ ol _ (p5.below (keep_below b6 b7)) p7 (by omega)).mono ?_; rintro e w8 ⟨rfl, b8⟩)
                          | (go_at_call 26; have q0 := p6; clear q0; refine (outs26_any _ on _ ol _ p6 (by omega)).mono ?_; rintro e w7 ⟨a7, n7, c7', rfl, p7, b7⟩; obtain rfl : on = n7 := (by rw [HOn.out, p7.1]); have c7 := keep_below c6 b7)
                          | (go_at_call 26; refine (outs26_any _ on _ ol _ p4 (by omega)).mono ?_; rintro e w5 ⟨a5, n5, c5', rfl, p5, b5⟩; obtain rfl : on = n5 := (by rw [HOn.out, p5.1]); have c5 := keep_below c4 b5)
                          | (go_at_call 19; have q0 := p5; clear q0; refine (OUn.out _ c5).mono ?_; rintro e w6 ⟨a6, c6', rfl, p6, b6⟩; have c6 := keep_below c5 b6)
                          | (go_at_call 19; refine (OUm.out _ (Below.refl _ _)).mono ?_; rintro e w4 ⟨a4, c4', rfl, p4, c4⟩)
                          | (refine wpList_load_mid rfl 27 _ rfl by' 0 rfl ZV _ RGy Tryz.underlying27 rfl hi27z ?_)
                          | (refine wpList_load_mid rfl 27 _ rfl bx 0 rfl ZV _ RGx Tryz.underlying27 rfl hi27z ?_)
                          | (go_at_call 14; refine (RN3.out _ G DD3.out.q.m).mono ?_; rintro e w9 ⟨rfl, rfl⟩))
                        go_ret
                        exact ⟨rfl, keep_below (keep_below BW3 (keep_below c7 b8)) b9⟩
                      · have i1 : ¬ (j : Int) < 3000 := by omega
                        go_wp2_with (first
                          | (go_at_call 9; refine (KN.out _ (keep_below BW3 (keep_below c7 b8))).mono ?_; rintro e w9 ⟨rfl, b9⟩)
                          | (go_at_call 22; have q0 := ms; clear q0; refine (SPn.out _ (keep_below c7 b8)).mono ?_; rintro e w9 ⟨rfl, rfl⟩)
                          | (go_at_call 22; refine (SPm.out _ (keep_below c7 b8)).mono ?_; rintro e w9 ⟨rfl, rfl⟩; have ms := True.intro)
                          | (go_at_call 23; have q0 := mf; clear q0; refine (FTn.out _ (keep_below c7 b8)).mono ?_; rintro e w9 ⟨rfl, rfl⟩)
                          | (go_at_call 23; refine (FTm.out _ (keep_below c7 b8)).mono ?_; rintro e w9 ⟨rfl, rfl⟩; have mf := True.intro)
                          | (go_at_call 25; refine (same8_eq _ _ on _ _ ol _ (p5.below (keep_below b6 b7)) p7 (by omega)).mono ?_; rintro e w8 ⟨rfl, b8⟩)
                          | (go_at_call 26; have q0 := p6; clear q0; refine (outs26_any _ on _ ol _ p6 (by omega)).mono ?_; rintro e w7 ⟨a7, n7, c7', rfl, p7, b7⟩; obtain rfl : on = n7 := (by rw [HOn.out, p7.1]); have c7 := keep_below c6 b7)
                          | (go_at_call 26; refine (outs26_any _ on _ ol _ p4 (by omega)).mono ?_; rintro e w5 ⟨a5, n5, c5', rfl, p5, b5⟩; obtain rfl : on = n5 := (by rw [HOn.out, p5.1]); have c5 := keep_below c4 b5)
                          | (go_at_call 19; have q0 := p5; clear q0; refine (OUn.out _ c5).mono ?_; rintro e w6 ⟨a6, c6', rfl, p6, b6⟩; have c6 := keep_below c5 b6)
                          | (go_at_call 19; refine (OUm.out _ (Below.refl _ _)).mono ?_; rintro e w4 ⟨a4, c4', rfl, p4, c4⟩)
                          | (refine wpList_load_mid rfl 27 _ rfl by' 0 rfl ZV _ RGy Tryz.underlying27 rfl hi27z ?_)
                          | (refine wpList_load_mid rfl 27 _ rfl bx 0 rfl ZV _ RGx Tryz.underlying27 rfl hi27z ?_)
                          | (go_at_call 14; refine (RN3.out _ G DD3.out.q.m).mono ?_; rintro e w9 ⟨rfl, rfl⟩))
                        go_ret
                        exact ⟨rfl, keep_below (keep_below BW3 (keep_below c7 b8)) b9⟩
                · rw [hgm] at RNm
                  rw [hgn] at RNn
                  clear hgn
                  have ST := Lib.hid (DD.out.p.step Fm HT.out)
                  clear hgm
                  go_wp2_with (first
                    | (go_at_call 18; have q0 := h7; clear q0; refine ((DD.out.step1 g7 h7).q.step Fn HT.out).mono ?_; rintro e w8 ⟨rfl, G', h8, g8⟩)
                    | (go_at_call 18; refine ST.out.mono ?_; rintro e w7 ⟨rfl, F', h7, g7⟩)
                    | (go_at_call 14; have q0 := mk3; clear q0; refine (RNn.out _ G DD.out.q.m).mono ?_; rintro e w9 ⟨rfl, rfl⟩)
                    | (go_at_call 14; have q0 := mk2; clear q0; refine (RNm.out _ F DD.out.p.m).mono ?_; rintro e w9 ⟨rfl, rfl⟩; have mk3 := True.intro)
                    | (go_at_call 14; have q0 := mk1; clear q0; refine (RNn.out _ G DD.out.q.m).mono ?_; rintro e w9 ⟨rfl, rfl⟩; have mk2 := True.intro)
                    | (go_at_call 14; refine (RNm.out _ F DD.out.p.m).mono ?_; rintro e w9 ⟨rfl, rfl⟩; have mk1 := True.intro))
                  have HD8 := Lib.hid ((DD.out.step1 g7 h7).step2 g8 h8)
                  rw [← HK1.out, ← HK2.out] at HD8
                  have A1' : Hid (Aside F' G' bx bz w8 by' ∧ MemAt w8 by' l2) := ⟨(A1.out.1.step1 g7).step2 g8, (A1.out.2.of_block (A1.out.1.heap1 g7)).of_block ((A1.out.1.step1 g7).heap2 g8)⟩
                  have A2' : Hid (Aside F' G' bx bz w8 w.heap.size ∧ w8.rangeAt w.heap.size 0 (iv l1)) := ⟨(A2.out.1.step1 g7).step2 g8, range_block (range_block A2.out.2 (A2.out.1.heap1 g7)) ((A2.out.1.step1 g7).heap2 g8)⟩
                  clear g7 h7 g8 h8 ST
                  go_roundw
                  case rel => exact ⟨k + 1, F', G', by omega, by go_num, HD8, A1', A2'⟩
                  case measure => simp [intOf]; omega
              · rw [hgm] at RNm
                have ST := Lib.hid (DD.out.p.step Fm HT.out)
                clear hgm
                go_wp2_with (first
                  | (go_at_call 18; have q0 := h7; clear q0; refine ((DD.out.step1 g7 h7).q.step Fn HT.out).mono ?_; rintro e w8 ⟨rfl, G', h8, g8⟩)
                  | (go_at_call 18; refine ST.out.mono ?_; rintro e w7 ⟨rfl, F', h7, g7⟩)
                  | (go_at_call 14; have q0 := mk3; clear q0; refine (RNn.out _ G DD.out.q.m).mono ?_; rintro e w9 ⟨rfl, rfl⟩)
                  | (go_at_call 14; have q0 := mk2; clear q0; refine (RNm.out _ F DD.out.p.m).mono ?_; rintro e w9 ⟨rfl, rfl⟩; have mk3 := True.intro)
                  | (go_at_call 14; have q0 := mk1; clear q0; refine (RNn.out _ G DD.out.q.m).mono ?_; rintro e w9 ⟨rfl, rfl⟩; have mk2 := True.intro)
                  | (go_at_call 14; refine (RNm.out _ F DD.out.p.m).mono ?_; rintro e w9 ⟨rfl, rfl⟩; have mk1 := True.intro))
                have HD8 := Lib.hid ((DD.out.step1 g7 h7).step2 g8 h8)
                rw [← HK1.out, ← HK2.out] at HD8
                have A1' : Hid (Aside F' G' bx bz w8 by' ∧ MemAt w8 by' l2) := ⟨(A1.out.1.step1 g7).step2 g8, (A1.out.2.of_block (A1.out.1.heap1 g7)).of_block ((A1.out.1.step1 g7).heap2 g8)⟩
                have A2' : Hid (Aside F' G' bx bz w8 w.heap.size ∧ w8.rangeAt w.heap.size 0 (iv l1)) := ⟨(A2.out.1.step1 g7).step2 g8, range_block (range_block A2.out.2 (A2.out.1.heap1 g7)) ((A2.out.1.step1 g7).heap2 g8)⟩
                clear g7 h7 g8 h8 ST
                go_roundw
                case rel => exact ⟨k + 1, F', G', by omega, by go_num, HD8, A1', A2'⟩
                case measure => simp [intOf]; omega
            · have i1 : ¬ (k : Int) < 3000 := by omega
              cases hgm : ym.1.goes
              · cases hgn : yn.1.goes
                · -- both have ended
                  have HGm : Hid ((it L k xm).1.goes = false) := by show _ = _; rw [HKm.out]; exact hgm
                  have SRn : Hid (∀ W, Mac W G b' L yn.1 → Calls Tryz.prog 13 #[.pointer (some ⟨b', 0, none⟩), .agg LV.toArray] W fun e w' => e = .returned (.int .i64 0) ∧ Mac w' G b' L (begun yn.1.ret l1) ∧ Chg G G b' W w') := fun W h => by rw [HLV.out]; exact start_run W G b' L yn.1 l1 h HL1.out hgn
                  have LDr := load_16 A2.out.2 HL1.out
                  rw [← HLV.out] at LDr
                  rw [hgm] at RNm
                  rw [hgn] at RNn
                  clear hgm hgn
                  go_wp2_with (first
                    | (go_at_call 13; refine (SRn.out _ DD.out.q.m).mono ?_; rintro e w7 ⟨rfl, h7, g7⟩)
                    | (go_at_call 14; have q0 := mk3; clear q0; refine (RNn.out _ G DD.out.q.m).mono ?_; rintro e w9 ⟨rfl, rfl⟩)
                    | (go_at_call 14; have q0 := mk2; clear q0; refine (RNm.out _ F DD.out.p.m).mono ?_; rintro e w9 ⟨rfl, rfl⟩; have mk3 := True.intro)
                    | (go_at_call 14; have q0 := mk1; clear q0; refine (RNn.out _ G DD.out.q.m).mono ?_; rintro e w9 ⟨rfl, rfl⟩; have mk2 := True.intro)
                    | (go_at_call 14; refine (RNm.out _ F DD.out.p.m).mono ?_; rintro e w9 ⟨rfl, rfl⟩; have mk1 := True.intro))
                  rw [← HKn.out] at h7 DD
                  rw [← HKm.out] at DD
                  have hret : (it L k xn).1.ret = fresh.ret := by
                    have := it_ret (x := xn) (FIn.out 0) HT.out HNs.out k
                    rw [this]; exact HXn.out
                  rw [hret] at h7
                  have mem7 := A1.out.2.chg g7 A1.out.1.ng (fun e => A1.out.1.ng (e ▸ h7.fb))
                  have hs7 := (DD.out.symm.start1 h7 g7)
                  have D7 : Duo w w7 F G b b' bx by' L L (it L k xm) xm := by
                    rw [HXm.out]
                    have hq := hs7.q
                    rw [HXm.out] at hq
                    exact ⟨hq, ⟨h7, mem7, A1.out.1.ng, hs7.p.low, HBy.out, hs7.p.bel⟩, DD.out.d, DD.out.n1, A1.out.1.nf, fun e => A1.out.1.ox e.symm⟩
                  have HD7 := Lib.hid D7
                  clear D7 hs7 mem7 g7 h7 hret
                  go_loopw [16] (fun i wr => ∃ (j : Nat) (G : Nat → Prop), j ≤ 3000 ∧ i = .int .i64 (j : Int) ∧ Hid (Duo w wr F G b b' bx by' L L (it L k xm) (it L j xm))) (fun i _ => 3000 - (intOf i).toNat)
                  case atStart => exact ⟨0, G, by omega, rfl, HD7⟩
                  case round =>
                    clear HD7 DD A1 A2
                    obtain ⟨j, G, hj, rfl, DD3⟩ := hrel
                    have BW3 := DD3.out.p.bel
                    have Fj := FIm.out j
                    have HJ1 : Hid (it L (j + 1) xm = nxt L (it L j xm)) := rfl
                    obtain ⟨z, hz⟩ : ∃ z, z = it L j xm := ⟨_, rfl⟩
                    have HZ := Lib.hid hz
                    rw [← hz] at DD3 Fj HJ1
                    clear hz
                    have RN3 : Hid (∀ W G', Mac W G' b' L z.1 → Calls Tryz.prog 14 #[.pointer (some ⟨b', 0, none⟩)] W fun e w' => e = .returned (.bool z.1.goes) ∧ W = w') := fun W G' h => running_any W G' b' L z.1 h
                    by_cases hjg : j < 3000 ∧ z.1.goes = true
                    · obtain ⟨hj3, hg⟩ := hjg
                      rw [hg] at RN3
                      have i1 : (j : Int) < 3000 := by omega
                      have ST := Lib.hid (DD3.out.q.step Fj HT.out)
                      clear Fj hg
                      go_wp2_with (first
                        | (go_at_call 18; refine ST.out.mono ?_; rintro e w8 ⟨rfl, G', h8, g8⟩)
                        | (go_at_call 14; refine (RN3.out _ G DD3.out.q.m).mono ?_; rintro e w9 ⟨rfl, rfl⟩))
                      have HD8 := Lib.hid (DD3.out.step2 g8 h8)
                      rw [← HJ1.out] at HD8
                      clear g8 h8 BW3
                      go_roundw
                      case rel => exact ⟨j + 1, G', by omega, by go_num, HD8⟩
                      case measure => simp [intOf]; omega
                    · have hg : z.1.goes = false := by
                        cases hq : z.1.goes
                        · rfl
                        · by_cases h : j < 3000
                          · exact absurd ⟨h, hq⟩ hjg
                          · have := it_late (L := L) (x := xm) (j := k) (k := j) (by omega) HGm.out
                            rw [← HZ.out, hq] at this; cases this
                      have hzk : it L k xm = z := by rw [HZ.out]; exact it_end HGm.out (by rw [← HZ.out]; exact hg)
                      rw [hzk] at DD3
                      rw [hg] at RN3
                      obtain ⟨ZV, hZV⟩ : ∃ ZV, ZV = iv z.2 := ⟨_, rfl⟩
                      have RGx := mem_range DD3.out.p.mem
                      have RGy := mem_range DD3.out.q.mem
                      have hz64 := DD3.out.p.mem.1
                      have EQ := fun W => run_eql27 z.2 hz64 W
                      have hi27z : (Tryz.prog.info? 27).map (·.size) = some (iv z.2).length := by rw [show (iv z.2).length = z.2.length by unfold iv; simp, hz64]; exact ln27
                      rw [← hZV] at RGx RGy EQ hi27z
                      obtain ⟨ol, hol⟩ : ∃ ol, ol = outTo z.1 16 := ⟨_, rfl⟩
                      obtain ⟨on, hon⟩ : ∃ on, on = ol.length := ⟨_, rfl⟩
                      have hon16 : on ≤ 16 := by rw [hon, hol]; exact outTo_len _ _
                      have HOn := Lib.hid hon
                      have OU : Hid (∀ W H c, Mac W H c L z.1 → Calls Tryz.prog 19 #[.pointer (some ⟨c, 0, none⟩)] W fun e w' => ∃ a c, e = .returned (.slice a on c) ∧ RowP w' a on ol ∧ Below W.heap.size W w') := fun W H c h => by
                        refine (outs_any W H c L z.1 h).mono ?_
                        rintro e w' ⟨v, rfl, ho, hb⟩
                        rw [← hol, ← hon] at ho
                        obtain ⟨a, c, rfl, hr⟩ := RowP.own ho
                        exact ⟨a, c, rfl, hr, hb⟩
                      have OUm : Hid (∀ W, Below wr.heap.size wr W → Calls Tryz.prog 19 #[.pointer (some ⟨b, 0, none⟩)] W fun e w' => ∃ a c, e = .returned (.slice a on c) ∧ RowP w' a on ol ∧ Below W.heap.size W w') := fun W hb => OU.out W F b (DD3.out.p.m.below hb)
                      have OUn : Hid (∀ W, Below wr.heap.size wr W → Calls Tryz.prog 19 #[.pointer (some ⟨b', 0, none⟩)] W fun e w' => ∃ a c, e = .returned (.slice a on c) ∧ RowP w' a on ol ∧ Below W.heap.size W w') := fun W hb => OU.out W G b' (DD3.out.q.m.below hb)
                      obtain ⟨sp, hsp⟩ : ∃ sp, sp = z.1.stp := ⟨_, rfl⟩
                      obtain ⟨ft, hft⟩ : ∃ ft, ft = z.1.flt := ⟨_, rfl⟩
                      have SPm : Hid (∀ W, Below wr.heap.size wr W → Calls Tryz.prog 22 #[.pointer (some ⟨b, 0, none⟩)] W fun e w' => e = .returned (.int .i64 sp) ∧ W = w') := fun W hb => by rw [hsp]; exact steps_any W F b L z.1 (DD3.out.p.m.below hb)
                      have SPn : Hid (∀ W, Below wr.heap.size wr W → Calls Tryz.prog 22 #[.pointer (some ⟨b', 0, none⟩)] W fun e w' => e = .returned (.int .i64 sp) ∧ W = w') := fun W hb => by rw [hsp]; exact steps_any W G b' L z.1 (DD3.out.q.m.below hb)
                      have FTm : Hid (∀ W, Below wr.heap.size wr W → Calls Tryz.prog 23 #[.pointer (some ⟨b, 0, none⟩)] W fun e w' => e = .returned (.int .i64 ft) ∧ W = w') := fun W hb => by rw [hft]; exact faults_any W F b L z.1 (DD3.out.p.m.below hb)
                      have FTn : Hid (∀ W, Below wr.heap.size wr W → Calls Tryz.prog 23 #[.pointer (some ⟨b', 0, none⟩)] W fun e w' => e = .returned (.int .i64 ft) ∧ W = w') := fun W hb => by rw [hft]; exact faults_any W G b' L z.1 (DD3.out.q.m.below hb)
                      clear hZV hz64 hol hon hsp hft Fj hg hzk OU
                      by_cases hj3 : j < 3000
                      · have i1 : (j : Int) < 3000 := by omega
                        go_wp2_with (first
                          | (go_at_call 9; refine (KN.out _ (keep_below BW3 (keep_below c7 b8))).mono ?_; rintro e w9 ⟨rfl, b9⟩)
                          | (go_at_call 22; have q0 := ms; clear q0; refine (SPn.out _ (keep_below c7 b8)).mono ?_; rintro e w9 ⟨rfl, rfl⟩)
                          | (go_at_call 22; refine (SPm.out _ (keep_below c7 b8)).mono ?_; rintro e w9 ⟨rfl, rfl⟩; have ms := True.intro)
                          | (go_at_call 23; have q0 := mf; clear q0; refine (FTn.out _ (keep_below c7 b8)).mono ?_; rintro e w9 ⟨rfl, rfl⟩)
                          | (go_at_call 23; refine (FTm.out _ (keep_below c7 b8)).mono ?_; rintro e w9 ⟨rfl, rfl⟩; have mf := True.intro)
                          | (go_at_call 25; refine (same8_eq _ _ on _ _ ol _ (p5.below (keep_below b6 b7)) p7 (by omega)).mono ?_; rintro e w8 ⟨rfl, b8⟩)
                          | (go_at_call 26; have q0 := p6; clear q0; refine (outs26_any _ on _ ol _ p6 (by omega)).mono ?_; rintro e w7 ⟨a7, n7, c7', rfl, p7, b7⟩; obtain rfl : on = n7 := (by rw [HOn.out, p7.1]); have c7 := keep_below c6 b7)
                          | (go_at_call 26; refine (outs26_any _ on _ ol _ p4 (by omega)).mono ?_; rintro e w5 ⟨a5, n5, c5', rfl, p5, b5⟩; obtain rfl : on = n5 := (by rw [HOn.out, p5.1]); have c5 := keep_below c4 b5)
                          | (go_at_call 19; have q0 := p5; clear q0; refine (OUn.out _ c5).mono ?_; rintro e w6 ⟨a6, c6', rfl, p6, b6⟩; have c6 := keep_below c5 b6)
                          | (go_at_call 19; refine (OUm.out _ (Below.refl _ _)).mono ?_; rintro e w4 ⟨a4, c4', rfl, p4, c4⟩)
                          | (refine wpList_load_mid rfl 27 _ rfl by' 0 rfl ZV _ RGy Tryz.underlying27 rfl hi27z ?_)
                          | (refine wpList_load_mid rfl 27 _ rfl bx 0 rfl ZV _ RGx Tryz.underlying27 rfl hi27z ?_)
                          | (go_at_call 14; refine (RN3.out _ G DD3.out.q.m).mono ?_; rintro e w9 ⟨rfl, rfl⟩))
                        go_ret
                        exact ⟨rfl, keep_below (keep_below BW3 (keep_below c7 b8)) b9⟩
                      · have i1 : ¬ (j : Int) < 3000 := by omega
                        go_wp2_with (first
                          | (go_at_call 9; refine (KN.out _ (keep_below BW3 (keep_below c7 b8))).mono ?_; rintro e w9 ⟨rfl, b9⟩)
                          | (go_at_call 22; have q0 := ms; clear q0; refine (SPn.out _ (keep_below c7 b8)).mono ?_; rintro e w9 ⟨rfl, rfl⟩)
                          | (go_at_call 22; refine (SPm.out _ (keep_below c7 b8)).mono ?_; rintro e w9 ⟨rfl, rfl⟩; have ms := True.intro)
                          | (go_at_call 23; have q0 := mf; clear q0; refine (FTn.out _ (keep_below c7 b8)).mono ?_; rintro e w9 ⟨rfl, rfl⟩)
                          | (go_at_call 23; refine (FTm.out _ (keep_below c7 b8)).mono ?_; rintro e w9 ⟨rfl, rfl⟩; have mf := True.intro)
                          | (go_at_call 25; refine (same8_eq _ _ on _ _ ol _ (p5.below (keep_below b6 b7)) p7 (by omega)).mono ?_; rintro e w8 ⟨rfl, b8⟩)
                          | (go_at_call 26; have q0 := p6; clear q0; refine (outs26_any _ on _ ol _ p6 (by omega)).mono ?_; rintro e w7 ⟨a7, n7, c7', rfl, p7, b7⟩; obtain rfl : on = n7 := (by rw [HOn.out, p7.1]); have c7 := keep_below c6 b7)
                          | (go_at_call 26; refine (outs26_any _ on _ ol _ p4 (by omega)).mono ?_; rintro e w5 ⟨a5, n5, c5', rfl, p5, b5⟩; obtain rfl : on = n5 := (by rw [HOn.out, p5.1]); have c5 := keep_below c4 b5)
                          | (go_at_call 19; have q0 := p5; clear q0; refine (OUn.out _ c5).mono ?_; rintro e w6 ⟨a6, c6', rfl, p6, b6⟩; have c6 := keep_below c5 b6)
                          | (go_at_call 19; refine (OUm.out _ (Below.refl _ _)).mono ?_; rintro e w4 ⟨a4, c4', rfl, p4, c4⟩)
                          | (refine wpList_load_mid rfl 27 _ rfl by' 0 rfl ZV _ RGy Tryz.underlying27 rfl hi27z ?_)
                          | (refine wpList_load_mid rfl 27 _ rfl bx 0 rfl ZV _ RGx Tryz.underlying27 rfl hi27z ?_)
                          | (go_at_call 14; refine (RN3.out _ G DD3.out.q.m).mono ?_; rintro e w9 ⟨rfl, rfl⟩))
                        go_ret
                        exact ⟨rfl, keep_below (keep_below BW3 (keep_below c7 b8)) b9⟩
                · rw [hgm] at RNm
                  rw [hgn] at RNn
                  clear hgn hgm
                  go_wp2_with (first
                    | (go_at_call 9; refine (KN.out _ BW2).mono ?_; rintro e w9 ⟨rfl, b9⟩)
                    | (go_at_call 14; have q0 := mk3; clear q0; refine (RNn.out _ G DD.out.q.m).mono ?_; rintro e w9 ⟨rfl, rfl⟩)
                    | (go_at_call 14; have q0 := mk2; clear q0; refine (RNm.out _ F DD.out.p.m).mono ?_; rintro e w9 ⟨rfl, rfl⟩; have mk3 := True.intro)
                    | (go_at_call 14; have q0 := mk1; clear q0; refine (RNn.out _ G DD.out.q.m).mono ?_; rintro e w9 ⟨rfl, rfl⟩; have mk2 := True.intro)
                    | (go_at_call 14; refine (RNm.out _ F DD.out.p.m).mono ?_; rintro e w9 ⟨rfl, rfl⟩; have mk1 := True.intro))
                  go_ret
                  exact ⟨rfl, keep_below BW2 b9⟩
              · rw [hgm] at RNm
                clear hgm
                go_wp2_with (first
                  | (go_at_call 9; refine (KN.out _ BW2).mono ?_; rintro e w9 ⟨rfl, b9⟩)
                  | (go_at_call 14; have q0 := mk3; clear q0; refine (RNn.out _ G DD.out.q.m).mono ?_; rintro e w9 ⟨rfl, rfl⟩)
                  | (go_at_call 14; have q0 := mk2; clear q0; refine (RNm.out _ F DD.out.p.m).mono ?_; rintro e w9 ⟨rfl, rfl⟩; have mk3 := True.intro)
                  | (go_at_call 14; have q0 := mk1; clear q0; refine (RNn.out _ G DD.out.q.m).mono ?_; rintro e w9 ⟨rfl, rfl⟩; have mk2 := True.intro)
                  | (go_at_call 14; refine (RNm.out _ F DD.out.p.m).mono ?_; rintro e w9 ⟨rfl, rfl⟩; have mk1 := True.intro))
                go_ret
                exact ⟨rfl, keep_below BW2 b9⟩
    · clear hr hN h200
      go_enter Tryz.func7, Tryz.ntmps7
      go_wp2_with (first
        | (go_at_call 9; refine (KN.out _ (keep_below (keep_below B2 b1) b1')).mono ?_; rintro e w2 ⟨rfl, b2⟩)
        | (go_at_call 10; have q0 := b1; clear q0; refine (N1.out _ (keep_below B2 b1)).mono ?_; rintro e w1' hG'; obtain ⟨x', hx', rfl, b1'⟩ := hG'.err T)
        | (go_at_call 10; refine (N1.out _ B2).mono ?_; rintro e w1 hG; obtain ⟨x, hx, rfl, b1⟩ := hG.err T; have q0 : (x != 0) = true := (by simpa using hx)))
      go_ret
      exact ⟨rfl, keep_below (keep_below (keep_below B2 b1) b1') b2⟩
end Go.Proofs.YthhcabddcgckcaaGreatDoor
