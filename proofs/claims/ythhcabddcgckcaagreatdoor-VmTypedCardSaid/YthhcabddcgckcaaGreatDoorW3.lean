/- What is proved here: the walk of the law VmTyped. Condition: the table of names holds what its initialiser lays ('Nms'). -/
import Derived.Test.YthhcabddcgckcaaGreatDoorLp8
namespace Go.Proofs.YthhcabddcgckcaaGreatDoor
open Go.ChangeShapes Go.WideShapes Go.RowKit Go.Maps

attribute [local go_sem ↓] fold23
theorem byte_of {l : List UInt8} {k : Nat} (h : k < (bs l).size) : (bs l)[k]'h = l[k]'(by rw [← bs_size]; exact h) := by
  simp [bs]; rfl
set_option maxHeartbeats 3000000 in
set_option maxRecDepth 100000 in
theorem typed_walk (a : Option Addr) (n c : Nat) (L : List (Int × Int × Int)) (l1 l2 : List Int) (hmx : n ≤ maxLen) (w : World) (hr : RowI w a n L) (h1 : l1.length = 16) (h2 : l2.length = 64) (hN : Nms w) :
    Calls Tryz.prog 3 #[.slice a n c, .agg (l1.map (Value.int .i64)).toArray, .agg (l2.map (Value.int .i64)).toArray] w fun e w' => e = .returned (.bool true) ∧ Below w.heap.size w w' := by
  have hm63 : n ≤ 9223372036854775807 := hmx
  have KN := Lib.hid (fun W (h : Below w.heap.size w W) => known8_any W (hN.below h))
  have BX := Lib.hid (box_any w l1 l2 h1 h2)
  obtain ⟨LA, hLA⟩ : ∃ LA, LA = l1.map (Value.int .i64) := ⟨_, rfl⟩
  obtain ⟨MA, hMA⟩ : ∃ MA, MA = l2.map (Value.int .i64) := ⟨_, rfl⟩
  rw [← hLA, ← hMA] at BX ⊢
  clear hLA hMA h1 h2
  have B2 := BX.out.bel
  by_cases h200 : 200 < n
  · have e1 : decide ((200 : Int) < (n : Int)) = true := by rw [decide_eq_true_iff]; omega
    clear hr hN BX
    go_enter Tryz.func3, Tryz.ntmps3
    go_wp2_with (go_at_call 9; refine (KN.out _ B2).mono ?_; rintro e w1 ⟨rfl, hb1⟩)
    go_ret
    exact ⟨rfl, keep_below B2 hb1⟩
  · have e1 : decide ((200 : Int) < (n : Int)) = false := by rw [decide_eq_false_iff_not]; omega
    have N1 := Lib.hid (new_any a n c L _ (hr.below B2) (hN.below B2))
    have hq2 := eqlp_nil
    have hq3 := eqlp_nn
    by_cases T : Takes L
    · have HT := Lib.hid T
      have HL := Lib.hid hr.1
      have hln := can_len T.can
      rw [← hr.1] at hln
      have C11 : Hid (∀ W, Below w.heap.size w W → Calls Tryz.prog 11 #[.slice a n c] W (GotF (tL L) 0 W)) := fun W h => by
        have := stacks_new a n c L W (hr.below h) (hN.below h)
        rw [show tA L = tL L by unfold tA; rw [if_pos T.t], T.t] at this; exact this
      have C12 : Hid (∀ W, Below w.heap.size w W → Calls Tryz.prog 12 #[.slice a n c] W (GotN (hdL L) W)) := fun W h => held_new a n c L W (hr.below h) (hN.below h) T.mE
      have LD : Hid (∀ W, Below ((w.alloc (.cells LA.toArray 23)).alloc (.cells MA.toArray 27)).heap.size ((w.alloc (.cells LA.toArray 23)).alloc (.cells MA.toArray 27)) W → (LD23 (.pointer (some ⟨w.heap.size, 0, none⟩))).run Tryz.prog W = .ok (.agg LA.toArray) W) := BX.out.ld
      clear hr hN T h200
      go_enter Tryz.func3, Tryz.ntmps3
      go_wp2_with (first
        | (go_at_call 13; refine (BX.out.st _ F b L fresh (hM.below (keep_below b2 b3)) rfl).mono ?_; rintro e w4 ⟨rfl, h4, g4⟩)
        | (go_at_call 12; refine (C12.out _ (keep_below (keep_below B2 b1) b2)).mono ?_; rintro e w3 ⟨a3, n3, c3, rfl, r3, b3, f3⟩; obtain rfl : n = n3 := (by have := r3.1; rw [hdL_len, ← HL.out] at this; exact this.symm); have LD3 := LD.out w3 (keep_below (keep_below b1 b2) b3))
        | (go_at_call 11; refine (C11.out _ (keep_below B2 b1)).mono ?_; rintro e w2 ⟨a2, n2, c2, rfl, r2, b2, f2⟩; obtain rfl : n = n2 := (by have := r2.1; rw [tL_len, ← HL.out] at this; exact this.symm))
        | (go_at_call 10; refine N1.out.mono ?_; rintro e w1 hG; obtain ⟨b, F, rfl, hM, hlo, b1⟩ := hG.ok HT.out))
      obtain ⟨g2, o2, rfl, hg2, hc2⟩ := r2.2 (by omega)
      obtain ⟨g3, o3, rfl, hg3, hc3⟩ := r3.2 (by omega)
      obtain ⟨mb, hmb⟩ : ∃ mb, mb = w.heap.size + 1 := ⟨_, rfl⟩
      have hs2 := BX.out.size
      have mem0 := BX.out.mem
      rw [← hmb] at mem0 ⊢
      have R4 : Run w w4 F b mb L (begun fresh.ret l1, l2) := Run.init B2 (by omega) (by omega) mem0 hlo (keep_below (keep_below b1 b2) b3) h4 g4
      have n2 : ¬ F g2 := fun e => by have := hM.lt _ e; have := f2 _ _ rfl; omega
      have n3 : ¬ F g3 := fun e => by have := hM.lt _ e; have := f3 _ _ rfl; have := b2.size; omega
      have K2 : Kept F mb w4 g2 := ⟨by have := b3.size; have := g4.size; omega, n2, by have := f2 _ _ rfl; have := b1.size; omega⟩
      have K3 : Kept F mb w4 g3 := ⟨by have := g4.size; omega, n3, by have := f3 _ _ rfl; have := b1.size; have := b2.size; omega⟩
      have c2 : ∀ j, j < n → w4.cell? ⟨g2, o2 + j, none⟩ = some (.string (bs (sf L j))) := fun j hj => by
        have := g4.cell (keep_cell b3 (hc2 j hj)) n2 (by intro e; exact n2 (by rw [show g2 = b from e]; exact hM.fb))
        rw [tL_at (by rw [← HL.out]; exact hj)] at this; exact this
      have c3 : ∀ j, j < n → w4.cell? ⟨g3, o3 + j, none⟩ = some (.int .i64 ((hb L (sk L j) : Nat) : Int)) := fun j hj => by
        have := g4.cell (hc3 j hj) n3 (by intro e; exact n3 (by rw [show g3 = b from e]; exact hM.fb))
        rw [hdL_at (by rw [← HL.out]; exact hj)] at this; exact this
      obtain ⟨x0, hx0⟩ : ∃ x0, x0 = (begun fresh.ret l1, l2) := ⟨_, rfl⟩
      have FI : Hid (∀ k, Fine L (it L k x0).1) := fun k => by rw [hx0]; exact Fine.it (x := (begun fresh.ret l1, l2)) (Or.inl (HT.out.begun _ _)) HT.out k
      rw [← hx0] at R4
      have HR4 := Lib.hid R4
      have HK2 := Lib.hid K2
      have HK3 := Lib.hid K3
      have Hc2 := Lib.hid c2
      have Hc3 := Lib.hid c3
      clear hx0 R4 K2 K3 c2 c3 n2 n3 mem0 hs2 hmb hc2 hc3 hg2 hg3 r2 r3 f2 f3 LD3 h4 g4 b3 b2 b1 hlo hM hG LD C11 C12 N1 BX B2 hq2 hq3
      go_loopw [13] (fun i wr => ∃ (k : Nat) (F : Nat → Prop), k ≤ 1000 ∧ i = .int .i64 (k : Int) ∧ Hid (Run w wr F b mb L (it L k x0)) ∧ Hid (Kept F mb wr g2) ∧ Hid (Kept F mb wr g3) ∧ Hid (∀ j, j < n → wr.cell? ⟨g2, o2 + j, none⟩ = some (.string (bs (sf L j)))) ∧ Hid (∀ j, j < n → wr.cell? ⟨g3, o3 + j, none⟩ = some (.int .i64 ((hb L (sk L j) : Nat) : Int)))) (fun i _ => 1000 - (intOf i).toNat)
      case atStart => exact ⟨0, F, by omega, rfl, HR4, HK2, HK3, Hc2, Hc3⟩
      case round =>
        clear HR4 HK2 HK3 Hc2 Hc3
        obtain ⟨k, F, hk, rfl, HR, K2, K3, c2, c3⟩ := hrel
        have BW := HR.out.bel
        by_cases h1000 : k < 1000
        · have i1 : (k : Int) < 1000 := by omega
          have Fk := FI.out k
          obtain ⟨x, hx⟩ : ∃ x, x = it L k x0 := ⟨_, rfl⟩
          have HX1 : Hid (it L (k + 1) x0 = nxt L x) := by show _ = _; rw [hx]; rfl
          rw [← hx] at HR Fk
          clear hx
          by_cases hg : x.1.goes = true
          · have A : Agr L x.1 := by
              rcases Fk with h | h
              · exact h
              · rw [h.1] at hg; cases hg
            have hpn : x.1.pl < n := by rw [HL.out]; exact A.pl
            have R1 : Hid (Calls Tryz.prog 14 #[.pointer (some ⟨b, 0, none⟩)] wr fun e w' => e = .returned (.bool true) ∧ wr = w') := by
              have := running_any wr F b L x.1 HR.out.m; rw [hg] at this; exact this
            have AT : Hid (Calls Tryz.prog 15 #[.pointer (some ⟨b, 0, none⟩)] wr fun e w' => e = .returned (.int .i64 (x.1.pl : Int)) ∧ wr = w') := by
              have := at_any wr F b L x.1 HR.out.m; rw [if_pos hg] at this; exact this
            have hs16 : x.1.stk.length ≤ 16 := by rw [A.typ.1]; exact sf_len HT.out.t A.pl
            have SK := Lib.hid (stack_any wr F b L x.1 HR.out.m (by omega))
            obtain ⟨S, hS⟩ : ∃ S, S = bs (sf L x.1.pl) := ⟨_, rfl⟩
            obtain ⟨h, hh⟩ : ∃ h : Int, h = ((hb L (sk L x.1.pl) : Nat) : Int) := ⟨_, rfl⟩
            have y2 := c2.out _ hpn
            have y3 := c3.out _ hpn
            rw [← hS] at y2
            rw [← hh] at y3
            have HSz : Hid (x.1.stk.length = S.size) := by show _ = _; rw [hS, bs_size]; exact A.typ.1
            have HTy : Hid (∀ q (hq : q < S.size), S[q] = 98 → x.1.stk.getD q 0 = 0 ∨ x.1.stk.getD q 0 = 1) := by
              intro q hq e
              have hq2 : q < x.1.stk.length := by rw [HSz.out]; exact hq
              refine A.typ.2 q _ (by rw [List.getD_eq_getElem?_getD, List.getElem?_eq_getElem hq2]; rfl) ?_
              subst hS
              rw [byte_of hq] at e
              rw [← e, List.getElem?_eq_getElem]
            have HDf : Hid (∀ W, Below wr.heap.size wr W → ∀ q, Calls Tryz.prog 17 #[.pointer (some ⟨b, 0, none⟩)] (W.drewN q) fun e w' => e = .returned (.int .i64 h) ∧ w' = W.drewN q) := fun W hb q => by
              have := held8_any (W.drewN q) F b L x.1 (HR.out.m.below (below_drewN' hb q))
              rw [A.held, ← hh] at this
              exact this.mono fun e w' h => ⟨h.1, h.2.symm⟩
            obtain ⟨t1, t2, ht⟩ : ∃ t1 t2, told L x.1 = (t1, t2, 0) := ⟨_, _, by unfold told; rw [if_pos hg]⟩
            have ST : Hid (∀ W, Below wr.heap.size wr W → Calls Tryz.prog 18 #[.pointer (some ⟨b, 0, none⟩), .pointer (some ⟨mb, 0, none⟩)] W fun e w' => e = .returned (.tuple #[.agg #[.int .i64 t1, .int .i64 t2], .int .i64 0]) ∧ ∃ F', Run w w' F' b mb L (it L (k + 1) x0) ∧ Chg F F' mb W w') := fun W hb => by
              have := (HR.out.below hb).step Fk HT.out
              rw [ht, ← HX1.out] at this; exact this
            have NX : Hid (∀ W F' w6 o, Below wr.heap.size wr W → Chg F F' mb W w6 → Kept F' mb (w6.alloc o) g2 ∧ Kept F' mb (w6.alloc o) g3 ∧ (∀ j, j < n → (w6.alloc o).cell? ⟨g2, o2 + j, none⟩ = some (.string (bs (sf L j)))) ∧ (∀ j, j < n → (w6.alloc o).cell? ⟨g3, o3 + j, none⟩ = some (.int .i64 ((hb L (sk L j) : Nat) : Int)))) := fun W F' w6 o hb g6 =>
              ⟨((K2.out.below hb).chg g6).below (below_alloc _ _), ((K3.out.below hb).chg g6).below (below_alloc _ _),
                fun j hj => keep_cell (below_alloc _ _) ((K2.out.below hb).cell g6 (keep_cell hb (c2.out j hj))), fun j hj => keep_cell (below_alloc _ _) ((K3.out.below hb).cell g6 (keep_cell hb (c3.out j hj)))⟩
            obtain ⟨p, hp⟩ : ∃ p, p = x.1.pl := ⟨_, rfl⟩
            rw [← hp] at AT y2 y3 hpn
            have d1 : decide ((p : Int) < 0) = false := by rw [decide_eq_false_iff_not]; omega
            have d2 : decide ((n : Int) ≤ (p : Int)) = false := by rw [decide_eq_false_iff_not]; omega
            have d3 : decide (n ≤ p) = false := by rw [decide_eq_false_iff_not]; omega
            have f1 : (0 : Int) ≤ (p : Int) := by omega
            have f2 : (p : Int) < (n : Int) := by omega
            clear hS hh hp A Fk hg ht
            go_wp2_with (first
              | (go_at_call 16; refine SK.out.mono ?_; rintro e w5 ⟨a5, n5, c5, rfl, r5, b5⟩; obtain rfl : n5 = S.size := (by rw [r5.1, HSz.out]); have z2 := keep_cell b5 y2; have z3 := keep_cell b5 y3; have HD := Lib.hid (HDf.out w5 b5))
              | (go_at_call 15; refine AT.out.mono ?_; rintro e w9 ⟨rfl, rfl⟩)
              | (go_at_call 14; refine R1.out.mono ?_; rintro e w8 ⟨rfl, rfl⟩))
            go_quiet (exact Calls.quiet_of_same (HD.out _))
            clear d1 d2 d3 f1 f2 HD z2 z3 SK AT R1
            go_wp2
            have hS16 : S.size ≤ 16 := by rw [← HSz.out]; exact hs16
            have HB5 : Hid (∀ m, Below w5.heap.size w5 (w5.drewN m)) := fun m => below_drewN' (Below.refl _ _) m
            go_loopw [16] (fun i wq => ∃ q : Nat, q ≤ S.size ∧ i = .int .i64 (q : Int) ∧ Below w5.heap.size w5 wq) (fun i _ => S.size - (intOf i).toNat)
            case atStart => exact ⟨0, by omega, rfl, HB5.out _⟩
            case round =>
              obtain ⟨q, hq, rfl, bq⟩ := hrel
              have y2q := keep_cell bq (keep_cell b5 y2)
              by_cases hqs : q < S.size
              · obtain ⟨g5, o5, rfl, hg5, hc5⟩ := r5.2 (by omega)
                have y5q := keep_cell bq (hc5 q hqs)
                have f1 : (0 : Int) ≤ (p : Int) := by omega
                have f2 : (p : Int) < (n : Int) := by omega
                have f3 : (0 : Int) ≤ (q : Int) := by omega
                have f4 : (q : Int) < (S.size : Int) := by omega
                by_cases hb : S[q] = 98
                · have e3 : (S[q].toNat : Int) = 98 := by rw [hb]; rfl
                  rcases HTy.out q hqs hb with hv | hv
                  · rw [hv] at y5q
                    clear hb hv hc5 hg5
                    go_wp2
                    go_roundw
                    case rel => exact ⟨q + 1, by omega, by go_num, bq⟩
                    case measure => simp [intOf]; omega
                  · rw [hv] at y5q
                    clear hb hv hc5 hg5
                    go_wp2
                    go_roundw
                    case rel => exact ⟨q + 1, by omega, by go_num, bq⟩
                    case measure => simp [intOf]; omega
                · have e3 : ((S[q].toNat : Int) == 98) = false := by
                    rw [beq_eq_false_iff_ne]
                    intro e
                    exact hb (UInt8.toNat_inj.1 (by rw [show (98 : UInt8).toNat = 98 from rfl]; omega))
                  have e4 : ¬ (S[q].toNat : Int) = 98 := by simpa using e3
                  clear hb hc5 hg5
                  go_wp2
                  go_roundw
                  case rel => exact ⟨q + 1, by omega, by go_num, bq⟩
                  case measure => simp [intOf]; omega
              · have hbq := keep_below b5 bq
                clear y2q
                go_wp2_with (first
                  | (go_at_call 18; refine (ST.out _ hbq).mono ?_; rintro e w6 ⟨rfl, F', h6, g6⟩))
                obtain ⟨m1, m2, m3, m4⟩ := NX.out _ F' w6 (.cells #[.int .i64 t1, .int .i64 t2] 43) hbq g6
                go_roundw
                case rel => exact ⟨k + 1, F', by omega, by go_num, h6.alloc _, m1, m2, m3, m4⟩
                case measure => simp [intOf]; omega
          · have R1 : Hid (Calls Tryz.prog 14 #[.pointer (some ⟨b, 0, none⟩)] wr fun e w' => e = .returned (.bool false) ∧ wr = w') := by
              have := running_any wr F b L x.1 HR.out.m; rw [show x.1.goes = false by simpa using hg] at this; exact this
            go_wp2_with (first
              | (go_at_call 9; refine (KN.out _ BW).mono ?_; rintro e w9 ⟨rfl, b9⟩)
              | (go_at_call 14; refine R1.out.mono ?_; rintro e w8 ⟨rfl, rfl⟩))
            go_ret
            exact ⟨rfl, keep_below BW b9⟩
        · go_wp2_with (go_at_call 9; refine (KN.out _ BW).mono ?_; rintro e w9 ⟨rfl, b9⟩)
          go_ret
          exact ⟨rfl, keep_below BW b9⟩
    · clear hr hN h200
      go_enter Tryz.func3, Tryz.ntmps3
      go_wp2_with (first
        | (go_at_call 9; refine (KN.out _ (keep_below B2 b1)).mono ?_; rintro e w2 ⟨rfl, b2⟩)
        | (go_at_call 10; refine N1.out.mono ?_; rintro e w1 hG; obtain ⟨x, hx, rfl, b1⟩ := hG.err T; have q0 : (x != 0) = true := (by simpa using hx)))
      go_ret
      exact ⟨rfl, keep_below (keep_below B2 b1) b2⟩
end Go.Proofs.YthhcabddcgckcaaGreatDoor
