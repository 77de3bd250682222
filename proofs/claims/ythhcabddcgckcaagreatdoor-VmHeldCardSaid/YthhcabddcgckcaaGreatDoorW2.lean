/- What is proved here: the walk of the law VmHeld. Condition: the table of names holds what its initialiser lays ('Nms'). -/
import Derived.Test.YthhcabddcgckcaaGreatDoorLp8
import Derived.Test.YthhcabddcgckcaaGreatDoorLp9
import Derived.Test.YthhcabddcgckcaaGreatDoorRgn
namespace Go.Proofs.YthhcabddcgckcaaGreatDoor
open Go.ChangeShapes Go.WideShapes Go.RowKit Go.Maps

attribute [local go_sem ↓] fold23 fold24
set_option maxHeartbeats 3000000 in
set_option maxRecDepth 100000 in
theorem held_walk (a : Option Addr) (n c : Nat) (L : List (Int × Int × Int)) (l1 l2 : List Int) (hmx : n ≤ maxLen) (w : World) (hr : RowI w a n L) (h1 : l1.length = 16) (h2 : l2.length = 64) (hN : Nms w) :
    Calls Tryz.prog 4 #[.slice a n c, .agg (l1.map (Value.int .i64)).toArray, .agg (l2.map (Value.int .i64)).toArray] w fun e w' => e = .returned (.bool true) ∧ Below w.heap.size w w' := by
  have hm63 : n ≤ 9223372036854775807 := hmx
  have KN := Lib.hid (fun W (h : Below w.heap.size w W) => known8_any W (hN.below h))
  have BX := Lib.hid (box_any w l1 l2 h1 h2)
  obtain ⟨LA, hLA⟩ : ∃ LA, LA = l1.map (Value.int .i64) := ⟨_, rfl⟩
  obtain ⟨MA, hMA⟩ : ∃ MA, MA = l2.map (Value.int .i64) := ⟨_, rfl⟩
  rw [← hLA, ← hMA] at BX ⊢
  clear hLA hMA h1 h2
  have B2 := BX.out.bel
  by_cases h200 : 200 < n
  · have e1 : decide ((200 : Int) < (n : Int)) = true := by rw [decide_eq_true_iff]; omega
    clear hr hN BX
    go_enter Tryz.func4, Tryz.ntmps4
    go_wp2_with (go_at_call 9; refine (KN.out _ B2).mono ?_; rintro e w1 ⟨rfl, hb1⟩)
    go_ret
    exact ⟨rfl, keep_below B2 hb1⟩
  · have e1 : decide ((200 : Int) < (n : Int)) = false := by rw [decide_eq_false_iff_not]; omega
    have N1 := Lib.hid (new_any a n c L _ (hr.below B2) (hN.below B2))
    have hq2 := eqlp_nil
    have hq3 := eqlp_nn
    by_cases T : Takes L
    · have HT := Lib.hid T
      have HL := Lib.hid hr.1
      have hln := can_len T.can
      rw [← hr.1] at hln
      have HR := Lib.hid hr
      have LD : Hid (∀ W, Below ((w.alloc (.cells LA.toArray 23)).alloc (.cells MA.toArray 27)).heap.size ((w.alloc (.cells LA.toArray 23)).alloc (.cells MA.toArray 27)) W → (LD23 (.pointer (some ⟨w.heap.size, 0, none⟩))).run Tryz.prog W = .ok (.agg LA.toArray) W) := BX.out.ld
      have hr2 := hr
      clear hr HR hN T h200
      go_enter Tryz.func4, Tryz.ntmps4
      go_wp2_with (first
        | (go_at_call 13; refine (BX.out.st _ F b L fresh hM rfl).mono ?_; rintro e w4 ⟨rfl, h4, g4⟩)
        | (go_at_call 10; refine N1.out.mono ?_; rintro e w1 hG; obtain ⟨b, F, rfl, hM, hlo, b1⟩ := hG.ok HT.out; have LD3 := LD.out w1 b1))
      obtain ⟨b4, o4, rfl, hB4, hc4⟩ := hr2.2 (by omega)
      have Hc4 := Lib.hid hc4
      obtain ⟨mb, hmb⟩ : ∃ mb, mb = w.heap.size + 1 := ⟨_, rfl⟩
      have hs2 := BX.out.size
      have mem0 := BX.out.mem
      rw [← hmb] at mem0 ⊢
      have R4 : Run w w4 F b mb L (begun fresh.ret l1, l2) := Run.init B2 (by omega) (by omega) mem0 hlo b1 h4 g4
      obtain ⟨x0, hx0⟩ : ∃ x0, x0 = (begun fresh.ret l1, l2) := ⟨_, rfl⟩
      have FI : Hid (∀ k, Fine L (it L k x0).1) := fun k => by rw [hx0]; exact Fine.it (x := (begun fresh.ret l1, l2)) (Or.inl (HT.out.begun _ _)) HT.out k
      rw [← hx0] at R4
      have HR4 := Lib.hid R4
      clear hx0 R4 mem0 hs2 hmb h4 g4 b1 hlo hM hG LD LD3 N1 BX B2 hq2 hq3 hc4 hB4 hr2
      go_loopw [9] (fun i wr => ∃ (k : Nat) (F : Nat → Prop), k ≤ 500 ∧ i = .int .i64 (k : Int) ∧ Hid (Run w wr F b mb L (it L k x0))) (fun i _ => 500 - (intOf i).toNat)
      case atStart => exact ⟨0, F, by omega, rfl, HR4⟩
      case round =>
        clear HR4
        obtain ⟨k, F, hk, rfl, HR⟩ := hrel
        have BW := HR.out.bel
        by_cases h500 : k < 500
        · have i1 : (k : Int) < 500 := by omega
          have Fk := FI.out k
          obtain ⟨x, hx⟩ : ∃ x, x = it L k x0 := ⟨_, rfl⟩
          have HX1 : Hid (it L (k + 1) x0 = nxt L x) := by show _ = _; rw [hx]; rfl
          rw [← hx] at HR Fk
          clear hx
          have FI2 := Lib.hid Fk
          by_cases hg : x.1.goes = true
          · have A : Agr L x.1 := by
              rcases Fk with h | h
              · exact h
              · rw [h.1] at hg; cases hg
            have hpn : x.1.pl < n := by rw [HL.out]; exact A.pl
            have R1 : Hid (Calls Tryz.prog 14 #[.pointer (some ⟨b, 0, none⟩)] wr fun e w' => e = .returned (.bool true) ∧ wr = w') := by
              have := running_any wr F b L x.1 HR.out.m; rw [hg] at this; exact this
            have hM64 := HR.out.mem.1
            obtain ⟨CT, CP1, CP2⟩ := mem_copied64 wr x.2 hM64
            have RG := mem_range HR.out.mem
            have hi27 : (Tryz.prog.info? 27).map (·.size) = some (iv x.2).length := by rw [show (iv x.2).length = x.2.length by unfold iv; simp, hM64]; exact ln27
            have hi27' : (Tryz.prog.info? 27).map (·.size) = some (iv x.2).toArray.size := by simpa using hi27
            have HM := Lib.hid HR.out.m
            have AT : Hid (∀ W, Below wr.heap.size wr W → Calls Tryz.prog 15 #[.pointer (some ⟨b, 0, none⟩)] W fun e w' => e = .returned (.int .i64 (x.1.pl : Int)) ∧ W = w') := fun W hb => by
              have := at_any W F b L x.1 (HR.out.m.below hb); rw [if_pos hg] at this; exact this
            obtain ⟨h, hh⟩ : ∃ h : Nat, h = hb L (sk L x.1.pl) := ⟨_, rfl⟩
            have HD : Hid (∀ W, Below wr.heap.size wr W → Calls Tryz.prog 17 #[.pointer (some ⟨b, 0, none⟩)] W fun e w' => e = .returned (.int .i64 (h : Int)) ∧ W = w') := fun W hb => by
              have := held8_any W F b L x.1 (HR.out.m.below hb)
              rw [A.held, ← hh] at this; exact this
            have OU : Hid (∀ W, Below wr.heap.size wr W → Calls Tryz.prog 19 #[.pointer (some ⟨b, 0, none⟩)] W fun e w' => (∃ a c, e = .returned (.slice a (outTo x.1 16).length c)) ∧ Below W.heap.size W w') := fun W hb => by
              refine (outs_any W F b L x.1 (HR.out.m.below hb)).mono ?_
              rintro e w' ⟨v, rfl, ho, hb⟩
              obtain ⟨a, c, rfl, hr⟩ := RowP.own ho
              exact ⟨⟨a, c, rfl⟩, hb⟩
            have RT : Hid (∀ W, Below wr.heap.size wr W → Calls Tryz.prog 20 #[.pointer (some ⟨b, 0, none⟩)] W fun e w' => e = .returned (.agg (iv x.1.ret).toArray) ∧ Below W.heap.size W w') := fun W hb => retained_any W F b L x.1 (HR.out.m.below hb)
            obtain ⟨on, hon⟩ : ∃ on, on = (outTo x.1 16).length := ⟨_, rfl⟩
            rw [← hon] at OU
            obtain ⟨MV, hMV⟩ : ∃ MV, MV = iv x.2 := ⟨_, rfl⟩
            rw [← hMV] at CT CP1 CP2 RG hi27 hi27'
            have HCP := Lib.hid (And.intro CP1 CP2)
            clear CP1 CP2
            have h1M : MV.toArray.all (·.oneCell') = true := by rw [hMV]; exact iv_one _
            have f1 : (0 : Int) ≤ (x.1.pl : Int) := by omega
            have f2 : (x.1.pl : Int) < (n : Int) := by omega
            have d1 : decide ((x.1.pl : Int) < 0) = false := by rw [decide_eq_false_iff_not]; omega
            have d2 : decide ((n : Int) ≤ (x.1.pl : Int)) = false := by rw [decide_eq_false_iff_not]; omega
            have d3 : decide (n ≤ x.1.pl) = false := by rw [decide_eq_false_iff_not]; omega
            have HMV := Lib.hid hMV
            clear A Fk hMV
            have hRl : x.1.ret.length = 8 := HR.out.m.lens.1
            have RCf : Hid (∀ W : World, _) := fun W => row_copied8 W x.1.ret hRl
            have hi24 : (Tryz.prog.info? 24).map (·.size) = some (iv x.1.ret).toArray.size := by rw [show (iv x.1.ret).toArray.size = x.1.ret.length by unfold iv; simp, hRl]; exact ln24
            have h1R := iv_one x.1.ret
            obtain ⟨RV, hRV⟩ : ∃ RV, RV = iv x.1.ret := ⟨_, rfl⟩
            rw [← hRV] at RT hi24 h1R
            simp only [← hRV] at RCf
            have HRV := Lib.hid hRV
            obtain ⟨p1, hp1⟩ : ∃ p1, p1 = (at_ L x.1.pl).1 := ⟨_, rfl⟩
            obtain ⟨p2, hp2⟩ : ∃ p2, p2 = (at_ L x.1.pl).2.1 := ⟨_, rfl⟩
            obtain ⟨p3, hp3⟩ : ∃ p3, p3 = (at_ L x.1.pl).2.2 := ⟨_, rfl⟩
            have HHh := Lib.hid hh
            have HON := Lib.hid hon
            have HP1 := Lib.hid hp1
            have HP2 := Lib.hid hp2
            have PC : Hid (∀ W, Below w.heap.size w W → W.cell? ⟨b4, o4 + x.1.pl * 3, none⟩ = some (.int .i64 p1) ∧ W.cell? ⟨b4, o4 + x.1.pl * 3 + 1, none⟩ = some (.int .i64 p2) ∧ W.cell? ⟨b4, o4 + x.1.pl * 3 + 2, none⟩ = some (.int .i64 p3)) := by
              intro W hb
              obtain ⟨z1, z2, z3⟩ := Hc4.out x.1.pl hpn
              rw [hp1, hp2, hp3]
              exact ⟨keep_cell hb z1, keep_cell hb z2, keep_cell hb z3⟩
            obtain ⟨t1, t2, ht⟩ : ∃ t1 t2, told L x.1 = (t1, t2, 0) := ⟨_, _, by unfold told; rw [if_pos hg]⟩
            have ST : Hid (∀ W, Below wr.heap.size wr W → Calls Tryz.prog 18 #[.pointer (some ⟨b, 0, none⟩), .pointer (some ⟨mb, 0, none⟩)] W fun e w' => e = .returned (.tuple #[.agg #[.int .i64 t1, .int .i64 t2], .int .i64 0]) ∧ ∃ F', Run w w' F' b mb L (nxt L x) ∧ Chg F F' mb W w') := fun W hb => by
              have := (HR.out.below hb).step (FI2.out) HT.out
              rw [ht] at this; exact this
            obtain ⟨p, hp⟩ : ∃ p, p = x.1.pl := ⟨_, rfl⟩
            have HPP := Lib.hid hp
            rw [← hp] at AT PC f1 f2 d1 d2 d3
            clear hRV hp1 hp2 hp3 ht hp hRl hh hon
            go_wp2_with (first
              | (refine wpList_load_mid rfl 27 _ rfl mb 0 rfl MV _ RG Tryz.underlying27 rfl hi27 ?_)
              | (refine wpList_store_mid rfl 27 _ _ rfl wr.heap.size 0 MV.toArray rfl rfl CT hi27' h1M ?_; have HCP1 := HCP.out; obtain ⟨m1, b1⟩ := HCP1; rw [show MV.toArray.toList = MV by simp]; generalize (wr.alloc (.cells #[.int .i64 0, .int .i64 0, .int .i64 0, .int .i64 0, .int .i64 0, .int .i64 0, .int .i64 0, .int .i64 0, .int .i64 0, .int .i64 0, .int .i64 0, .int .i64 0, .int .i64 0, .int .i64 0, .int .i64 0, .int .i64 0, .int .i64 0, .int .i64 0, .int .i64 0, .int .i64 0, .int .i64 0, .int .i64 0, .int .i64 0, .int .i64 0, .int .i64 0, .int .i64 0, .int .i64 0, .int .i64 0, .int .i64 0, .int .i64 0, .int .i64 0, .int .i64 0, .int .i64 0, .int .i64 0, .int .i64 0, .int .i64 0, .int .i64 0, .int .i64 0, .int .i64 0, .int .i64 0, .int .i64 0, .int .i64 0, .int .i64 0, .int .i64 0, .int .i64 0, .int .i64 0, .int .i64 0, .int .i64 0, .int .i64 0, .int .i64 0, .int .i64 0, .int .i64 0, .int .i64 0, .int .i64 0, .int .i64 0, .int .i64 0, .int .i64 0, .int .i64 0, .int .i64 0, .int .i64 0, .int .i64 0, .int .i64 0, .int .i64 0, .int .i64 0] 27)).setCells wr.heap.size 0 MV = W1 at m1 b1 ⊢)
              | (refine wpList_store_mid rfl 24 _ _ rfl w3.heap.size 0 RV.toArray rfl rfl RC1 hi24 h1R ?_; rw [show RV.toArray.toList = RV by simp]; have RC2 := RC2h.out; obtain ⟨r4, b4'⟩ := RC2; generalize (w3.alloc (.cells #[.int .i64 0, .int .i64 0, .int .i64 0, .int .i64 0, .int .i64 0, .int .i64 0, .int .i64 0, .int .i64 0] 24)).setCells w3.heap.size 0 RV = W4 at r4 b4' ⊢; have B14 := keep_below (keep_below (keep_below b1 b2) b3) b4')
              | (go_at_call 18; refine (ST.out _ B14).mono ?_; rintro e w5 ⟨rfl, F', h5, g5⟩; obtain ⟨z1, z2, z3⟩ := PC.out _ h5.bel)
              | (go_at_call 20; refine (RT.out _ (keep_below b1 b2)).mono ?_; rintro e w3 ⟨rfl, b3⟩; have RC0 := RCf.out w3; obtain ⟨RC1, RC2⟩ := RC0; have RC2h := Lib.hid RC2; clear RC2)
              | (go_at_call 19; refine (OU.out _ b1).mono ?_; rintro e w2 ⟨⟨oa, oc, rfl⟩, b2⟩)
              | (go_at_call 17; refine (HD.out _ b1).mono ?_; rintro e w8 ⟨rfl, rfl⟩)
              | (go_at_call 15; refine (AT.out _ b1).mono ?_; rintro e w8 ⟨rfl, rfl⟩)
              | (go_at_call 14; refine R1.out.mono ?_; rintro e w8 ⟨rfl, rfl⟩))
            have nF : ∀ g, wr.heap.size ≤ g → ¬ F g := fun g hg e => by have := HM.out.lt _ e; omega
            have ltm := HR.out.mem.lt
            have s1 := b1.size
            have s2 := b2.size
            have s3 := b3.size
            have s4 := b4'.size
            have mw : MemAt w5 wr.heap.size x.2 := (m1.below (keep_below (keep_below b2 b3) b4')).chg g5 (nF _ (Nat.le_refl _)) (by omega)
            have r5 : w5.rangeAt w3.heap.size 0 RV := range_chg r4 g5 (nF _ (by omega)) (by omega)
            have Hmm := h5.mem
            have hRl : x.1.ret.length = 8 := HR.out.m.lens.1
            have B6 := below_alloc w5 (.cells #[.int .i64 p1, .int .i64 p2, .int .i64 p3] 52)
            have q1 : (w5.alloc (.cells #[.int .i64 p1, .int .i64 p2, .int .i64 p3] 52)).cell? ⟨w5.heap.size, 0, none⟩ = some (.int .i64 p1) := (Lib.cell_of_heap (new_block w5 (.cells #[.int .i64 p1, .int .i64 p2, .int .i64 p3] 52)) 0).trans rfl
            have q2 : (w5.alloc (.cells #[.int .i64 p1, .int .i64 p2, .int .i64 p3] 52)).cell? ⟨w5.heap.size, 1, none⟩ = some (.int .i64 p2) := (Lib.cell_of_heap (new_block w5 (.cells #[.int .i64 p1, .int .i64 p2, .int .i64 p3] 52)) 1).trans rfl
            have hnx : nxt L x = stp L x.1 x.2 := by unfold nxt; rw [if_pos hg]
            have A : Agr L x.1 := by
              rcases FI2.out with h | h
              · exact h
              · rw [h.1] at hg; cases hg
            have hrt := HT.out.right A.pl
            have H256 : Hid (h < 256) := by show _ < _; rw [HHh.out]; exact hb_lt (can_blk HT.out.can) _
            have HRow : Hid (∀ r : Nat, r < 8 → row8 (nxt L x).2 r = row8 x.2 r ∨ (p1 = 18 ∧ p2 = (r : Int) ∧ (h / 2 ^ r) &&& 1 = 1)) := by
              intro r hr
              by_cases h18 : p1 = 18
              · have h18' : (at_ L x.1.pl).1 = 18 := by rw [← HP1.out]; exact h18
                have hrt2 := (right_parts hrt)
                have ra := right_lock hrt (Or.inr (Or.inr (Or.inr h18')))
                have rb : 0 ≤ (at_ L x.1.pl).2.2 ∧ (at_ L x.1.pl).2.2 < 8 := by
                  have h2 := hrt2.2.2
                  unfold rB at h2
                  rw [if_pos (by omega)] at h2
                  exact pl_iff.1 h2
                by_cases hp2 : p2 = (r : Int)
                · refine Or.inr ⟨h18, hp2, ?_⟩
                  have := bit_one _ _ (lock_of A HT.out (Or.inr h18'))
                  rw [← HHh.out, ← HP2.out, hp2, Int.toNat_natCast, Nat.shiftRight_eq_div_pow] at this
                  exact this
                · left
                  rw [hnx]
                  refine stp_row L x.1 x.2 r (fun _ e => hp2 ?_) (fun _ => by omega)
                  rw [HP2.out]; omega
              · left
                rw [hnx]
                exact stp_row L x.1 x.2 r (fun e => absurd (HP1.out.trans e) h18) (fun e => absurd (HP1.out.trans e) h18)
            have HRet : Hid (p1 ≠ 14 → (nxt L x).1.ret = x.1.ret) := fun e => by rw [hnx]; exact stp_ret L x.1 x.2 (by rw [← HP1.out]; exact e)
            have HOut : Hid (p1 ≠ 16 → (outTo (nxt L x).1 16).length = on) := fun e => by
              rw [HON.out]
              unfold outTo
              rw [hnx, stp_outs L x.1 x.2 (by rw [← HP1.out]; exact e)]
            generalize w5.alloc (.cells #[.int .i64 p1, .int .i64 p2, .int .i64 p3] 52) = W6 at B6 q1 q2 ⊢
            generalize w5.heap.size = bx at q1 q2 ⊢
            have R6 := h5.below B6
            have mw6 := Lib.hid (mw.below B6)
            have mm6 := Lib.hid (Hmm.below B6)
            have r6 := Lib.hid (range_below r5 B6)
            have HR6 := Lib.hid R6
            have Hq1 := Lib.hid q1
            have Hq2 := Lib.hid q2
            have hMl := Lib.hid HR.out.mem.1
            have hMl' := Lib.hid Hmm.1
            generalize wr.heap.size = bw at mw6 ⊢
            generalize w3.heap.size = br at r6 ⊢
            clear q1 q2 z1 z2 z3 nF ltm s1 s2 s3 s4 mw r5 Hmm hnx hrt A RC1 RC2h r4 b4' B14 g5 h5 m1 b1 b2 b3 HM AT HD OU RT RCf ST PC CT HCP RG hi27 hi27' h1M hi24 h1R B6 R6 R1 FI2 hM64 HR BW hg d1 d2 d3 f1 f2
            go_loopw [16] (fun i wq => ∃ r : Nat, r ≤ 8 ∧ i = .int .i64 (r : Int) ∧ Hid (Below W6.heap.size W6 wq)) (fun i _ => 8 - (intOf i).toNat)
            case atStart => exact ⟨0, by omega, rfl, Below.refl _ _⟩
            case round =>
              obtain ⟨r, hr, rfl, HB⟩ := hrel
              by_cases hr8 : r < 8
              · have f1 : (0 : Int) ≤ (r : Int) := by omega
                have f2 : (r : Int) < 8 := by omega
                have LDm : ∀ q : Nat, (LD24 (.pointer (some ⟨mb, r * 8, none⟩))).run Tryz.prog (wr.drewN q) = .ok (.agg (iv (row8 (nxt L x).2 r)).toArray) (wr.drewN q) := fun q => load_row (mm6.out.below (below_drewN' HB.out q)) hr8
                have LDw : ∀ q : Nat, (LD24 (.pointer (some ⟨bw, r * 8, none⟩))).run Tryz.prog (wr.drewN q) = .ok (.agg (iv (row8 x.2 r)).toArray) (wr.drewN q) := fun q => load_row (mw6.out.below (below_drewN' HB.out q)) hr8
                have NQ := fun W => neq_row (row8_len hMl'.out hr8) (row8_len hMl.out hr8) W
                have y1 := keep_cell HB.out Hq1.out
                have y2 := keep_cell HB.out Hq2.out
                by_cases he : row8 (nxt L x).2 r = row8 x.2 r
                · rw [he] at LDm NQ
                  simp only [decide_true, Bool.not_true] at NQ
                  generalize (iv (row8 x.2 r)).toArray = A0 at LDm LDw NQ
                  clear he
                  go_wp2
                  go_quiet (fail)
                  go_wp2
                  go_roundw
                  case rel => exact ⟨r + 1, by omega, by go_num, below_drewN' HB.out _⟩
                  case measure => simp [intOf]; omega
                · have NQ2 := fun W => NQ W
                  simp only [he, decide_false, Bool.not_false] at NQ2
                  obtain ⟨e1', e2', e3'⟩ := (HRow.out r hr8).resolve_left he
                  obtain ⟨u, hu⟩ : ∃ u, u = h / 2 ^ r := ⟨_, rfl⟩
                  have hsh := shr_nat h r
                  rw [← hu] at hsh e3'
                  have hu16 : u < 65536 := by
                    have := H256.out
                    have : u ≤ h := by rw [hu]; exact Nat.div_le_self _ _
                    omega
                  have hand : bits .and .i64 (u : Int) 1 = 1 := by
                    have := i64_and_small u 1 hu16 (by omega)
                    rw [e3'] at this; exact this
                  generalize (iv (row8 x.2 r)).toArray = A0 at LDw NQ2
                  generalize (iv (row8 (nxt L x).2 r)).toArray = A1 at LDm NQ2
                  clear he NQ hu e3' hu16
                  subst e1' e2'
                  go_wp2
                  go_quiet (fail)
                  go_wp2
                  go_roundw
                  case rel => exact ⟨r + 1, by omega, by go_num, below_drewN' HB.out _⟩
                  case measure => simp [intOf]; omega
              · have hr9 : r = 8 := by omega
                have C7 : Below W6.heap.size W6 wr.drew := HB.out.drew
                have y7 := keep_cell C7 Hq1.out
                have LDr : Hid (∀ W, Below W6.heap.size W6 W → (LD24 (.pointer (some ⟨br, 0, none⟩))).run Tryz.prog W = .ok (.agg RV.toArray) W) := fun W hb => by
                  have := load_8 (range_below (by have := r6.out; rw [HRV.out] at this; exact this) hb) hRl
                  rw [← HRV.out] at this; exact this
                have LD7 := LDr.out _ C7
                obtain ⟨on', hon'⟩ : ∃ on', on' = (outTo (nxt L x).1 16).length := ⟨_, rfl⟩
                have OU2 : Hid (∀ W, Below W6.heap.size W6 W → Calls Tryz.prog 19 #[.pointer (some ⟨b, 0, none⟩)] W fun e w' => (∃ a c, e = .returned (.slice a on' c)) ∧ Below W.heap.size W w') := fun W hb => by
                  refine (outs_any W F' b L (nxt L x).1 (HR6.out.m.below hb)).mono ?_
                  rintro e w' ⟨v, rfl, ho, hb⟩
                  rw [hon']
                  obtain ⟨a, c, rfl, hr⟩ := RowP.own ho
                  exact ⟨⟨a, c, rfl⟩, hb⟩
                obtain ⟨RW, hRW⟩ : ∃ RW, RW = iv (nxt L x).1.ret := ⟨_, rfl⟩
                have RT2 : Hid (∀ W, Below W6.heap.size W6 W → Calls Tryz.prog 20 #[.pointer (some ⟨b, 0, none⟩)] W fun e w' => e = .returned (.agg RW.toArray) ∧ Below W.heap.size W w') := fun W hb => by
                  rw [hRW]; exact retained_any W F' b L (nxt L x).1 (HR6.out.m.below hb)
                have NQR := fun W => neq_row HR6.out.m.lens.1 hRl W
                rw [← HRV.out, ← hRW] at NQR
                obtain ⟨z1, hz1⟩ : ∃ z1, z1 = !decide ((nxt L x).1.ret = x.1.ret) := ⟨_, rfl⟩
                obtain ⟨z2, hz2⟩ : ∃ z2, z2 = ((on' : Int) != (on : Int)) := ⟨_, rfl⟩
                have hz14 : z1 = true → p1 = 14 := by
                  intro h
                  by_cases h4 : p1 = 14
                  · exact h4
                  · rw [hz1, HRet.out h4] at h; simp at h
                have hz16 : z2 = true → p1 = 16 := by
                  intro h
                  by_cases h4 : p1 = 16
                  · exact h4
                  · rw [hz2, hon', HOut.out h4] at h; simp at h
                rw [← hz1] at NQR
                replace hz2 := hz2.symm
                clear hon' hRW hz1 LD7 y7
                go_upto_region 24 with (fail)
                go_cut [123] from 103 to 122 (fun v wx => v = .bool false ∧ Below W6.heap.size W6 wx)
                case first =>
                  refine region_ok 125 21 (fun i => 103 + i) (fun i => ([[], [0], [], [1, 2], [3], [4], [4, 5], [4, 6], [4, 7], [8], [9], [9, 10], [9, 11], [9], [9, 12, 13], [9, 14], [15], [15, 16], [15, 17], [9, 15, 18], [9, 19]] : List (List Nat)).getD i []) (fun i v => ([(fun v : Value => v = .pointer (some ⟨b, 0, none⟩)), (fun v : Value => v = .agg RW.toArray), (fun v : Value => v = .agg RV.toArray), (fun v : Value => v = .bool z1), (fun v : Value => v = .bool z1), (fun v : Value => z1 = true → v = .pointer (some ⟨bx, 0, none⟩)), (fun v : Value => z1 = true → v = .int .i64 p1), (fun v : Value => z1 = true → v = .bool false), (fun v : Value => v = .bool false), (fun v : Value => v = .bool false), (fun v : Value => v = .pointer (some ⟨b, 0, none⟩)), (fun v : Value => ∃ a c, v = .slice a on' c), (fun v : Value => v = (.int .i64 (on' : Int))), (fun v : Value => v = (.int .i64 (on : Int))), (fun v : Value => v = .bool z2), (fun v : Value => v = .bool z2), (fun v : Value => z2 = true → v = .pointer (some ⟨bx, 0, none⟩)), (fun v : Value => z2 = true → v = .int .i64 p1), (fun v : Value => z2 = true → v = .bool false), (fun v : Value => v = .bool false), (fun v : Value => v = .bool false)] : List (Value → Prop)).getD i (fun _ => True) v) (fun W => Below W6.heap.size W6 W) (by kernel_rfl) rfl (fun i j _ _ h => by have h2 : 103 + i = 103 + j := h; omega) (fun i hi => by show 103 + i < 125; omega) rfl ?_ ?_ C7 ?_
                  · intro i o ho
                    match i, ho with
                    | 0, ho => obtain rfl := Option.some.inj ho; exact ⟨rfl, by decide, by decide⟩
                    | 1, ho => obtain rfl := Option.some.inj ho; exact ⟨rfl, by decide, by decide⟩
                    | 2, ho => obtain rfl := Option.some.inj ho; exact ⟨rfl, by decide, by decide⟩
                    | 3, ho => obtain rfl := Option.some.inj ho; exact ⟨rfl, by decide, by decide⟩
                    | 4, ho => obtain rfl := Option.some.inj ho; exact ⟨rfl, by decide, by decide⟩
                    | 5, ho => obtain rfl := Option.some.inj ho; exact ⟨rfl, by decide, by decide⟩
                    | 6, ho => obtain rfl := Option.some.inj ho; exact ⟨rfl, by decide, by decide⟩
                    | 7, ho => obtain rfl := Option.some.inj ho; exact ⟨rfl, by decide, by decide⟩
                    | 8, ho => obtain rfl := Option.some.inj ho; exact ⟨rfl, by decide, by decide⟩
                    | 9, ho => obtain rfl := Option.some.inj ho; exact ⟨rfl, by decide, by decide⟩
                    | 10, ho => obtain rfl := Option.some.inj ho; exact ⟨rfl, by decide, by decide⟩
                    | 11, ho => obtain rfl := Option.some.inj ho; exact ⟨rfl, by decide, by decide⟩
                    | 12, ho => obtain rfl := Option.some.inj ho; exact ⟨rfl, by decide, by decide⟩
                    | 13, ho => obtain rfl := Option.some.inj ho; exact ⟨rfl, by decide, by decide⟩
                    | 14, ho => obtain rfl := Option.some.inj ho; exact ⟨rfl, by decide, by decide⟩
                    | 15, ho => obtain rfl := Option.some.inj ho; exact ⟨rfl, by decide, by decide⟩
                    | 16, ho => obtain rfl := Option.some.inj ho; exact ⟨rfl, by decide, by decide⟩
                    | 17, ho => obtain rfl := Option.some.inj ho; exact ⟨rfl, by decide, by decide⟩
                    | 18, ho => obtain rfl := Option.some.inj ho; exact ⟨rfl, by decide, by decide⟩
                    | 19, ho => obtain rfl := Option.some.inj ho; exact ⟨rfl, by decide, by decide⟩
                    | 20, ho => obtain rfl := Option.some.inj ho; exact ⟨rfl, by decide, by decide⟩
                    | n + 21, ho => simp at ho
                  · intro i o ho a' W hS hoth hd
                    have o7 : a'.eval (.tmp 7) = .pointer (some ⟨b, 0, none⟩) := hoth 7 (fun i hi => by show 103 + i ≠ 7; omega)
                    have o13 : a'.eval (.tmp 13) = .int .i64 (on : Int) := hoth 13 (fun i hi => by show 103 + i ≠ 13; omega)
                    have o14 : a'.eval (.tmp 14) = .pointer (some ⟨br, 0, none⟩) := hoth 14 (fun i hi => by show 103 + i ≠ 14; omega)
                    have o15 : a'.eval (.tmp 15) = .pointer (some ⟨bx, 0, none⟩) := hoth 15 (fun i hi => by show 103 + i ≠ 15; omega)
                    obtain ⟨ρ, hρ⟩ : ∃ ρ, ρ = a'.eval := ⟨_, rfl⟩
                    have hc : ∀ v, ρ (.const v) = v := fun v => by rw [hρ]; rfl
                    have hfn : ∀ f, ρ (.func f) = .func (.func f) #[] #[] := fun f => by rw [hρ]; rfl
                    simp only [← hρ] at hd ⊢
                    rw [← hρ] at o7
                    rw [← hρ] at o13
                    rw [← hρ] at o14
                    rw [← hρ] at o15
                    clear hρ hoth
                    match i, ho with
                    | 0, ho =>
                      obtain rfl := Option.some.inj ho
                      clear hd
                      exact Or.inl ⟨rfl, Gives.val (v := .pointer (some ⟨b, 0, none⟩)) (w' := W) (by simp only [execOp]; go_simp) ⟨rfl, hS⟩⟩
                    | 1, ho =>
                      obtain rfl := Option.some.inj ho
                      have e0 : ρ (.tmp 103) = .pointer (some ⟨b, 0, none⟩) := hd 0 (by decide)
                      clear hd
                      refine Or.inl ⟨rfl, Gives.enter (f := 20) (args := #[.pointer (some ⟨b, 0, none⟩)]) (by simp only [execOp]; go_simp) ((RT2.out W hS).mono ?_)⟩
                      rintro e w8 ⟨rfl, b8⟩
                      exact ⟨_, rfl, rfl, keep_below hS b8⟩
                    | 2, ho =>
                      obtain rfl := Option.some.inj ho
                      clear hd
                      have LD := LDr.out W hS
                      exact Or.inl ⟨rfl, Gives.val (v := .agg RV.toArray) (w' := W) (by simp only [execOp]; go_simp) ⟨rfl, hS⟩⟩
                    | 3, ho =>
                      obtain rfl := Option.some.inj ho
                      have e1 : ρ (.tmp 104) = .agg RW.toArray := hd 1 (by decide)
                      have e2 : ρ (.tmp 105) = .agg RV.toArray := hd 2 (by decide)
                      clear hd
                      have NQ := NQR W
                      exact Or.inl ⟨rfl, Gives.val (v := .bool z1) (w' := W) (by simp only [execOp]; go_simp) ⟨rfl, hS⟩⟩
                    | 4, ho =>
                      obtain rfl := Option.some.inj ho
                      have e3 : ρ (.tmp 106) = .bool z1 := hd 3 (by decide)
                      clear hd
                      exact Or.inl ⟨rfl, Gives.val (v := .bool z1) (w' := W) (by simp only [execOp]; go_simp) ⟨rfl, hS⟩⟩
                    | 5, ho =>
                      obtain rfl := Option.some.inj ho
                      have e4 : ρ (.tmp 107) = .bool z1 := hd 4 (by decide)
                      clear hd
                      refine Or.inr ⟨4, true, z1, rfl, by decide, e4, fun hz => ?_, fun hz h => absurd h hz⟩
                      subst hz
                      exact Gives.val (v := .pointer (some ⟨bx, 0, none⟩)) (w' := W) (by simp only [execOp]; go_simp) ⟨fun _ => rfl, hS⟩
                    | 6, ho =>
                      obtain rfl := Option.some.inj ho
                      have e4 : ρ (.tmp 107) = .bool z1 := hd 4 (by decide)
                      have e5 : z1 = true → ρ (.tmp 108) = .pointer (some ⟨bx, 0, none⟩) := hd 5 (by decide)
                      clear hd
                      refine Or.inr ⟨4, true, z1, rfl, by decide, e4, fun hz => ?_, fun hz h => absurd h hz⟩
                      subst hz
                      have e5' := e5 rfl
                      have y := keep_cell hS Hq1.out
                      exact Gives.val (v := .int .i64 p1) (w' := W) (by simp only [execOp]; go_simp) ⟨fun _ => rfl, hS⟩
                    | 7, ho =>
                      obtain rfl := Option.some.inj ho
                      have e4 : ρ (.tmp 107) = .bool z1 := hd 4 (by decide)
                      have e6 : z1 = true → ρ (.tmp 109) = .int .i64 p1 := hd 6 (by decide)
                      clear hd
                      refine Or.inr ⟨4, true, z1, rfl, by decide, e4, fun hz => ?_, fun hz h => absurd h hz⟩
                      subst hz
                      have e6' := e6 rfl
                      have hp := hz14 rfl
                      subst hp
                      exact Gives.val (v := .bool false) (w' := W) (by simp only [execOp]; go_simp) ⟨fun _ => rfl, hS⟩
                    | 8, ho =>
                      obtain rfl := Option.some.inj ho
                      have e4 : ρ (.tmp 107) = .bool z1 := hd 4 (by decide)
                      have e7 : z1 = true → ρ (.tmp 110) = .bool false := hd 7 (by decide)
                      clear hd
                      cases z1
                      · exact Or.inl ⟨rfl, Gives.val (v := .bool false) (w' := W) (by simp only [execOp]; go_simp) ⟨rfl, hS⟩⟩
                      · have e7' := e7 rfl
                        exact Or.inl ⟨rfl, Gives.val (v := .bool false) (w' := W) (by simp only [execOp]; go_simp) ⟨rfl, hS⟩⟩
                    | 9, ho =>
                      obtain rfl := Option.some.inj ho
                      have e8 : ρ (.tmp 111) = .bool false := hd 8 (by decide)
                      clear hd
                      exact Or.inl ⟨rfl, Gives.val (v := .bool false) (w' := W) (by simp only [execOp]; go_simp) ⟨rfl, hS⟩⟩
                    | 10, ho =>
                      obtain rfl := Option.some.inj ho
                      have e9 : ρ (.tmp 112) = .bool false := hd 9 (by decide)
                      clear hd
                      exact Or.inr ⟨9, false, false, rfl, by decide, e9, fun _ => Gives.val (v := .pointer (some ⟨b, 0, none⟩)) (w' := W) (by simp only [execOp]; go_simp) ⟨rfl, hS⟩, fun h => absurd rfl h⟩
                    | 11, ho =>
                      obtain rfl := Option.some.inj ho
                      have e9 : ρ (.tmp 112) = .bool false := hd 9 (by decide)
                      have e10 : ρ (.tmp 113) = .pointer (some ⟨b, 0, none⟩) := hd 10 (by decide)
                      clear hd
                      refine Or.inr ⟨9, false, false, rfl, by decide, e9, fun _ => Gives.enter (f := 19) (args := #[.pointer (some ⟨b, 0, none⟩)]) (by simp only [execOp]; go_simp) ((OU2.out W hS).mono ?_), fun h => absurd rfl h⟩
                      rintro e w8 ⟨⟨a, c, rfl⟩, b8⟩
                      exact ⟨_, rfl, ⟨a, c, rfl⟩, keep_below hS b8⟩
                    | 12, ho =>
                      obtain rfl := Option.some.inj ho
                      have e9 : ρ (.tmp 112) = .bool false := hd 9 (by decide)
                      have e11 : ∃ a c, ρ (.tmp 114) = .slice a on' c := hd 11 (by decide)
                      clear hd
                      obtain ⟨sa, sc, e11⟩ := e11
                      exact Or.inr ⟨9, false, false, rfl, by decide, e9, fun _ => Gives.val (v := (.int .i64 (on' : Int))) (w' := W) (by refine (congrArg (fun s => Sem.run Tryz.prog s W) (BigFrame.execOp_builtin ρ _ .len _ _ _ _ _ _)).trans ?_; go_simp) ⟨rfl, hS⟩, fun h => absurd rfl h⟩
                    | 13, ho =>
                      obtain rfl := Option.some.inj ho
                      have e9 : ρ (.tmp 112) = .bool false := hd 9 (by decide)
                      clear hd
                      exact Or.inr ⟨9, false, false, rfl, by decide, e9, fun _ => Gives.val (v := (.int .i64 (on : Int))) (w' := W) (by simp only [execOp]; go_simp) ⟨rfl, hS⟩, fun h => absurd rfl h⟩
                    | 14, ho =>
                      obtain rfl := Option.some.inj ho
                      have e9 : ρ (.tmp 112) = .bool false := hd 9 (by decide)
                      have e12 : ρ (.tmp 115) = (.int .i64 (on' : Int)) := hd 12 (by decide)
                      have e13 : ρ (.tmp 116) = (.int .i64 (on : Int)) := hd 13 (by decide)
                      clear hd
                      have hz := hz2
                      exact Or.inr ⟨9, false, false, rfl, by decide, e9, fun _ => Gives.val (v := .bool z2) (w' := W) (by simp only [execOp]; go_simp) ⟨rfl, hS⟩, fun h => absurd rfl h⟩
                    | 15, ho =>
                      obtain rfl := Option.some.inj ho
                      have e9 : ρ (.tmp 112) = .bool false := hd 9 (by decide)
                      have e14 : ρ (.tmp 117) = .bool z2 := hd 14 (by decide)
                      clear hd
                      exact Or.inr ⟨9, false, false, rfl, by decide, e9, fun _ => Gives.val (v := .bool z2) (w' := W) (by simp only [execOp]; go_simp) ⟨rfl, hS⟩, fun h => absurd rfl h⟩
                    | 16, ho =>
                      obtain rfl := Option.some.inj ho
                      have e15 : ρ (.tmp 118) = .bool z2 := hd 15 (by decide)
                      clear hd
                      refine Or.inr ⟨15, true, z2, rfl, by decide, e15, fun hz => ?_, fun hz h => absurd h hz⟩
                      subst hz
                      exact Gives.val (v := .pointer (some ⟨bx, 0, none⟩)) (w' := W) (by simp only [execOp]; go_simp) ⟨fun _ => rfl, hS⟩
                    | 17, ho =>
                      obtain rfl := Option.some.inj ho
                      have e15 : ρ (.tmp 118) = .bool z2 := hd 15 (by decide)
                      have e16 : z2 = true → ρ (.tmp 119) = .pointer (some ⟨bx, 0, none⟩) := hd 16 (by decide)
                      clear hd
                      refine Or.inr ⟨15, true, z2, rfl, by decide, e15, fun hz => ?_, fun hz h => absurd h hz⟩
                      subst hz
                      have e16' := e16 rfl
                      have y := keep_cell hS Hq1.out
                      exact Gives.val (v := .int .i64 p1) (w' := W) (by simp only [execOp]; go_simp) ⟨fun _ => rfl, hS⟩
                    | 18, ho =>
                      obtain rfl := Option.some.inj ho
                      have e15 : ρ (.tmp 118) = .bool z2 := hd 15 (by decide)
                      have e17 : z2 = true → ρ (.tmp 120) = .int .i64 p1 := hd 17 (by decide)
                      clear hd
                      refine Or.inr ⟨15, true, z2, rfl, by decide, e15, fun hz => ?_, fun hz h => absurd h hz⟩
                      subst hz
                      have e17' := e17 rfl
                      have hp := hz16 rfl
                      subst hp
                      exact Gives.val (v := .bool false) (w' := W) (by simp only [execOp]; go_simp) ⟨fun _ => rfl, hS⟩
                    | 19, ho =>
                      obtain rfl := Option.some.inj ho
                      have e9 : ρ (.tmp 112) = .bool false := hd 9 (by decide)
                      have e15 : ρ (.tmp 118) = .bool z2 := hd 15 (by decide)
                      have e18 : z2 = true → ρ (.tmp 121) = .bool false := hd 18 (by decide)
                      clear hd
                      cases z2
                      · exact Or.inr ⟨9, false, false, rfl, by decide, e9, fun _ => Gives.val (v := .bool false) (w' := W) (by simp only [execOp]; go_simp) ⟨rfl, hS⟩, fun h => absurd rfl h⟩
                      · have e18' := e18 rfl
                        exact Or.inr ⟨9, false, false, rfl, by decide, e9, fun _ => Gives.val (v := .bool false) (w' := W) (by simp only [execOp]; go_simp) ⟨rfl, hS⟩, fun h => absurd rfl h⟩
                    | 20, ho =>
                      obtain rfl := Option.some.inj ho
                      have e9 : ρ (.tmp 112) = .bool false := hd 9 (by decide)
                      have e19 : ρ (.tmp 122) = .bool false := hd 19 (by decide)
                      clear hd
                      exact Or.inl ⟨rfl, Gives.val (v := .bool false) (w' := W) (by simp only [execOp]; go_simp) ⟨rfl, hS⟩⟩
                    | n + 21, ho => simp at ho
                  · intro a' W hsz hdef hoth hok hS
                    obtain ⟨us, hu1, hu2, rfl⟩ := act_mix 103 21 rfl hsz hdef (by simp) (fun k hk => hoth k (fun i hi => by show 103 + i ≠ k; omega))
                    match us, hu1 with
                    | [u103, u104, u105, u106, u107, u108, u109, u110, u111, u112, u113, u114, u115, u116, u117, u118, u119, u120, u121, u122, u123], _ =>
                      have e20 : u123 = .bool false := (hu2 20 (by decide)).trans (hok 20 (by decide))
                      subst e20
                      clear hu2 hok hoth hsz
                      simp only [List.take_succ_cons, List.take_zero, List.drop_succ_cons, List.drop_zero, List.cons_append, List.nil_append]
                      first
                        | (go_step; go_meet; exact ⟨rfl, hS⟩)
                        | (go_step; go_step; go_meet; exact ⟨rfl, hS⟩)
                case rest =>
                  obtain ⟨rfl, bx⟩ := hcut
                  have R9 := HR6.out.below bx
                  rw [← HX1.out] at R9
                  have HR9 := Lib.hid R9
                  clear R9 NQR C7 hz14 hz16 hz2
                  go_wp2
                  go_roundw
                  case rel => exact ⟨k + 1, F', by omega, by go_num, HR9⟩
                  case measure => simp [intOf]; omega
          · have R1 : Hid (Calls Tryz.prog 14 #[.pointer (some ⟨b, 0, none⟩)] wr fun e w' => e = .returned (.bool false) ∧ wr = w') := by
              have := running_any wr F b L x.1 HR.out.m; rw [show x.1.goes = false by simpa using hg] at this; exact this
            go_wp2_with (first
              | (go_at_call 9; refine (KN.out _ BW).mono ?_; rintro e w9 ⟨rfl, b9⟩)
              | (go_at_call 14; refine R1.out.mono ?_; rintro e w8 ⟨rfl, rfl⟩))
            go_ret
            exact ⟨rfl, keep_below BW b9⟩
        · go_wp2_with (go_at_call 9; refine (KN.out _ BW).mono ?_; rintro e w9 ⟨rfl, b9⟩)
          go_ret
          exact ⟨rfl, keep_below BW b9⟩
    · clear hr hN h200
      go_enter Tryz.func4, Tryz.ntmps4
      go_wp2_with (first
        | (go_at_call 9; refine (KN.out _ (keep_below B2 b1)).mono ?_; rintro e w2 ⟨rfl, b2⟩)
        | (go_at_call 10; refine N1.out.mono ?_; rintro e w1 hG; obtain ⟨x, hx, rfl, b1⟩ := hG.err T; have q0 : (x != 0) = true := (by simpa using hx)))
      go_ret
      exact ⟨rfl, keep_below (keep_below B2 b1) b2⟩
end Go.Proofs.YthhcabddcgckcaaGreatDoor
