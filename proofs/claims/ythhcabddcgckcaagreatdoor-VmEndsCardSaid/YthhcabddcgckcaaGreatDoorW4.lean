/- What is proved here: the walk of the law VmEnds. Condition: the table of names holds what its initialiser lays ('Nms'). -/
import Derived.Test.YthhcabddcgckcaaGreatDoorLp8
import Derived.Test.YthhcabddcgckcaaGreatDoorPl10
namespace Go.Proofs.YthhcabddcgckcaaGreatDoor
open Go.ChangeShapes Go.WideShapes Go.RowKit Go.Maps

attribute [local go_sem ↓] fold23
set_option maxHeartbeats 3000000 in
set_option maxRecDepth 100000 in
theorem ends_walk (a : Option Addr) (n c : Nat) (L : List (Int × Int × Int)) (l1 l2 : List Int) (hmx : n ≤ maxLen) (w : World) (hr : RowI w a n L) (h1 : l1.length = 16) (h2 : l2.length = 64) (hN : Nms w) :
    Calls Tryz.prog 5 #[.slice a n c, .agg (l1.map (Value.int .i64)).toArray, .agg (l2.map (Value.int .i64)).toArray] w fun e w' => e = .returned (.bool true) ∧ Below w.heap.size w w' := by
  have hm63 : n ≤ 9223372036854775807 := hmx
  have KN := Lib.hid (fun W (h : Below w.heap.size w W) => known8_any W (hN.below h))
  have BX := Lib.hid (box_any w l1 l2 h1 h2)
  obtain ⟨LA, hLA⟩ : ∃ LA, LA = l1.map (Value.int .i64) := ⟨_, rfl⟩
  obtain ⟨MA, hMA⟩ : ∃ MA, MA = l2.map (Value.int .i64) := ⟨_, rfl⟩
  rw [← hLA, ← hMA] at BX ⊢
  clear hLA hMA h1 h2
  have B2 := BX.out.bel
  by_cases h200 : 200 < n
  · have e1 : decide ((200 : Int) < (n : Int)) = true := by rw [decide_eq_true_iff]; omega
    clear hr hN BX
    go_enter Tryz.func5, Tryz.ntmps5
    go_wp2_with (go_at_call 9; refine (KN.out _ B2).mono ?_; rintro e w1 ⟨rfl, hb1⟩)
    go_ret
    exact ⟨rfl, keep_below B2 hb1⟩
  · have e1 : decide ((200 : Int) < (n : Int)) = false := by rw [decide_eq_false_iff_not]; omega
    have N1 := Lib.hid (new_any a n c L _ (hr.below B2) (hN.below B2))
    have hq2 := eqlp_nil
    have hq3 := eqlp_nn
    by_cases T : Takes L
    · have HT := Lib.hid T
      have HL := Lib.hid hr.1
      have hln := can_len T.can
      rw [← hr.1] at hln
      have HR := Lib.hid hr
      have C21 : Hid (∀ W, Below w.heap.size w W → Calls Tryz.prog 21 #[.slice a n c] W (GotL (hL L) 0 W)) := fun W h => by
        have := home_any a n c L W (hr.below h) (hN.below h)
        rw [show hA L = hL L by unfold hA; rw [if_pos T.mE], T.mE] at this; exact this
      have LD : Hid (∀ W, Below ((w.alloc (.cells LA.toArray 23)).alloc (.cells MA.toArray 27)).heap.size ((w.alloc (.cells LA.toArray 23)).alloc (.cells MA.toArray 27)) W → (LD23 (.pointer (some ⟨w.heap.size, 0, none⟩))).run Tryz.prog W = .ok (.agg LA.toArray) W) := BX.out.ld
      have hr2 := hr
      clear hr HR hN T h200
      go_enter Tryz.func5, Tryz.ntmps5
      go_wp2_with (first
        | (go_at_call 21; refine (C21.out _ (keep_below B2 b1)).mono ?_; rintro e w2 ⟨a2, n2, c2, rfl, r2, b2⟩; obtain rfl : n = n2 := (by have := r2.1; rw [hL_len, ← HL.out] at this; exact this.symm))
        | (go_at_call 10; refine N1.out.mono ?_; rintro e w1 hG; obtain ⟨b, F, rfl, hM, hlo, b1⟩ := hG.ok HT.out))
      have HR2 := Lib.hid (hr2.below (keep_below B2 (keep_below b1 b2)))
      obtain ⟨g2, o2, rfl, hg2, hc2⟩ := r2.2 (by omega)
      have Hc2 : Hid (∀ j, j < n → w2.cell? ⟨g2, o2 + j, none⟩ = some (.int .i64 (hd_ (sk L j)))) := fun j hj => by
        have := hc2 j hj
        rw [hL_at (by rw [← HL.out]; exact hj), hm_hd] at this; exact this
      obtain ⟨b4, o4, rfl, hB4, hc4⟩ := HR2.out.2 (by omega)
      have Hc4 := Lib.hid hc4
      clear hc2 hc4 r2 hr2 HR2 N1 C21 hG hB4 hg2
      go_loopw [11, 12] (fun m i wr => ∃ (k tot : Nat), k ≤ n ∧ m = .int .i64 (tot : Int) ∧ i = .int .i64 (k : Int) ∧ tot ≤ k * 100000000 ∧ Hid (tot = sm L 0 0 k ∨ 100000 ≤ tot) ∧ wr = w2) (fun _ i _ => n - (intOf i).toNat)
      case atStart => exact ⟨0, 0, by omega, rfl, rfl, by omega, Or.inl rfl, rfl⟩
      case round =>
        obtain ⟨k, tot, hk, rfl, rfl, htot, HTo, rfl⟩ := hrel
        by_cases hlt : k < n
        · have f1 : (0 : Int) ≤ (k : Int) := by omega
          have f2 : (k : Int) < (n : Int) := by omega
          have y2 := Hc2.out k hlt
          go_wp2
          clear y2
          go_loopw [13, 14] (fun m kk wq => ∃ (s : List Nat) (mm : Nat), m = .int .i64 (mm : Int) ∧ kk = .int .i64 (hd_ s) ∧ Hid (Up L k s) ∧ Hid (mm * prd L 0 s = prd L 0 (sk L k)) ∧ mm < 100000000 ∧ wq = wr) (fun _ kk _ => (intOf kk + 1).toNat)
          case atStart => exact ⟨sk L k, 1, rfl, rfl, Up.refl L k, Nat.one_mul _, by omega, rfl⟩
          case round =>
            obtain ⟨s, mm, rfl, rfl, HU, HP, hmm, rfl⟩ := hrel
            have htm : tot + mm ≤ (k + 1) * 100000000 := by omega
            have hw5 : IntKind.i64.wrap ((tot : Int) + (mm : Int)) = (((tot + mm : Nat)) : Int) := by rw [IntKind.wrap_i64]; omega
            cases s with
            | nil =>
              have HQ : Hid (tot + mm = sm L 0 0 (k + 1) ∨ 100000 ≤ tot + mm) := by
                have h1 : mm = prd L 0 (sk L k) := by have := HP.out; rw [show prd L 0 [] = 1 from rfl, Nat.mul_one] at this; exact this
                rcases HTo.out with h | h
                · exact Or.inl (by rw [sm_succ, h, h1])
                · exact Or.inr (by omega)
              rw [show hd_ [] = -1 from rfl]
              go_wp2
              go_roundw
              case rel => exact ⟨k + 1, tot + mm, by omega, by go_num, by go_num, htm, HQ, trivial⟩
              case measure => simp [intOf]; omega
            | cons t s =>
              obtain ⟨htk, hst, HU2⟩ := HU.out.tail
              have htn : t < n := by omega
              rw [show hd_ (t :: s) = (t : Int) from rfl]
              by_cases hbig : mm < 100000
              · have g1 : (0 : Int) ≤ (t : Int) := by omega
                have g2' : (t : Int) < (n : Int) := by omega
                have g3 : (mm : Int) < 100000 := by omega
                have y2 := Hc2.out t htn
                obtain ⟨z1, z2, z3⟩ := Hc4.out t htn
                have hml := hm_lt L t
                rw [hm_hd] at hml
                rw [← hst] at y2 hml
                clear hst
                by_cases h21 : (at_ L t).1 = 21
                · obtain ⟨r1, r2⟩ := loop_rounds HT.out (by rw [← HL.out]; exact htn) h21
                  have HP2 : Hid ((mm * (at_ L t).2.1.toNat) * prd L 0 s = prd L 0 (sk L k)) := by
                    show _ = _
                    rw [← HP.out, prd_loop h21, Nat.mul_assoc]
                  obtain ⟨A, hA⟩ : ∃ A : Nat, (at_ L t).2.1 = A := ⟨(at_ L t).2.1.toNat, by omega⟩
                  have z1' : wr.cell? ⟨b4, o4 + t * 3, none⟩ = some (.int .i64 21) := by rw [← h21]; exact z1
                  have z2' : wr.cell? ⟨b4, o4 + t * 3 + 1, none⟩ = some (.int .i64 (A : Int)) := by rw [← hA]; exact z2
                  rw [hA, Int.toNat_natCast] at HP2
                  rw [hA] at r1 r2
                  have hmA : mm * A < 100000000 := by
                    have : mm * A ≤ 99999 * 1000 := Nat.mul_le_mul (by omega) (by omega)
                    omega
                  have hw6 : IntKind.i64.wrap ((mm : Int) * (A : Int)) = ((mm * A : Nat) : Int) := by rw [IntKind.wrap_i64]; rw [← Int.natCast_mul]; omega
                  clear z1 z2 z3 h21 hA hw5
                  go_wp2
                  go_roundw
                  case rel => exact ⟨s, mm * A, by first | rfl | exact congrArg (Value.int IntKind.i64) hw6 | go_num, rfl, HU2, HP2, hmA, trivial⟩
                  case measure => simp [intOf]; omega
                · have HP2 : Hid (mm * prd L 0 s = prd L 0 (sk L k)) := by
                    show _ = _
                    rw [← HP.out, prd_oth h21]
                  obtain ⟨A, hA⟩ : ∃ A, A = (at_ L t).1 := ⟨_, rfl⟩
                  have z1' : wr.cell? ⟨b4, o4 + t * 3, none⟩ = some (.int .i64 A) := by rw [hA]; exact z1
                  rw [← hA] at h21
                  have e5 : (A == 21) = false := by simpa using h21
                  clear z1 z2 z3 hA hw5 h21
                  go_wp2
                  go_roundw
                  case rel => exact ⟨s, mm, rfl, rfl, HU2, HP2, hmm, trivial⟩
                  case measure => simp [intOf]; omega
              · have g1 : (0 : Int) ≤ (t : Int) := by omega
                have g3 : ¬ (mm : Int) < 100000 := by omega
                have HQ : Hid (tot + mm = sm L 0 0 (k + 1) ∨ 100000 ≤ tot + mm) := Or.inr (by omega)
                go_wp2
                go_roundw
                case rel => exact ⟨k + 1, tot + mm, by omega, by go_num, by go_num, htm, HQ, trivial⟩
                case measure => simp [intOf]; omega
        · by_cases hbig : 20000 < tot
          · have g3 : (20000 : Int) < (tot : Int) := by omega
            have B3 := keep_below B2 (keep_below b1 b2)
            go_wp2_with (go_at_call 9; refine (KN.out _ B3).mono ?_; rintro e w9 ⟨rfl, b9⟩)
            go_ret
            exact ⟨rfl, keep_below B3 b9⟩
          · have g3 : ¬ (20000 : Int) < (tot : Int) := by omega
            have HMo : Hid (tot = most L) := by
              rcases HTo.out with h | h
              · show _ = _
                unfold most; rw [← HL.out, h, show k = n by omega]
              · omega
            have LD3 := LD.out wr (keep_below b1 b2)
            go_wp2_with (first
              | (go_at_call 13; refine (BX.out.st _ F b L fresh (hM.below b2) rfl).mono ?_; rintro e w4 ⟨rfl, h4, g4⟩))
            obtain ⟨mb, hmb⟩ : ∃ mb, mb = w.heap.size + 1 := ⟨_, rfl⟩
            have hs2 := BX.out.size
            have mem0 := BX.out.mem
            rw [← hmb] at mem0 ⊢
            have R4 : Run w w4 F b mb L (begun fresh.ret l1, l2) := Run.init B2 (by omega) (by omega) mem0 hlo (keep_below b1 b2) h4 g4
            obtain ⟨x0, hx0⟩ : ∃ x0, x0 = (begun fresh.ret l1, l2) := ⟨_, rfl⟩
            have FI : Hid (∀ k, Fine L (it L k x0).1) := fun k => by rw [hx0]; exact Fine.it (x := (begun fresh.ret l1, l2)) (Or.inl (HT.out.begun _ _)) HT.out k
            have HE : Hid ((it L tot x0).1.goes = false) := by show _ = _; rw [HMo.out, hx0]; exact run_ends HT.out _ _ _
            have HG0 : Hid ((it L 0 x0).1.goes = true) := by rw [hx0]; rfl
            have HS0 : Hid (∀ k : Nat, k ≤ 4000000000000000000 → 0 ≤ (it L k x0).1.stp ∧ (it L k x0).1.stp ≤ k) := by rw [hx0]; exact it_steps rfl
            rw [← hx0] at R4
            have HR4 := Lib.hid R4
            clear hx0 R4 mem0 hs2 hmb h4 g4 b2 b1 hlo hM LD BX B2 hq2 hq3 LD3 HTo htot hlt Hc2 Hc4
            go_loopw [15, 16] (fun e i wr => ∃ (k : Nat) (F : Nat → Prop), k ≤ tot ∧ i = .int .i64 (k : Int) ∧ e = .int .i64 (if (it L k x0).1.goes = true then 0 else 1) ∧ Hid (Run w wr F b mb L (it L k x0))) (fun _ i _ => tot - (intOf i).toNat)
            case atStart => exact ⟨0, F, by omega, rfl, by rw [if_pos HG0.out], HR4⟩
            case round =>
              clear HR4 HG0
              obtain ⟨k, F, hk, rfl, rfl, HR⟩ := hrel
              have Fk := FI.out k
              have hsp := HS0.out k (by omega)
              obtain ⟨x, hx⟩ : ∃ x, x = it L k x0 := ⟨_, rfl⟩
              have HX := Lib.hid hx
              have HX1 : Hid (it L (k + 1) x0 = nxt L x) := by show _ = _; rw [hx]; rfl
              rw [← hx] at HR Fk hsp ⊢
              clear hx
              have RN : Hid (∀ W F', Mac W F' b L x.1 → Calls Tryz.prog 14 #[.pointer (some ⟨b, 0, none⟩)] W fun e w' => e = .returned (.bool x.1.goes) ∧ W = w') := fun W F' h => running_any W F' b L x.1 h
              by_cases hgo : k < tot ∧ x.1.goes = true
              · obtain ⟨hkt, hg⟩ := hgo
                have A : Agr L x.1 := by
                  rcases Fk with h | h
                  · exact h
                  · rw [h.1] at hg; cases hg
                have i1 : (k : Int) < (tot : Int) := by omega
                have het := end_told A HT.out
                obtain ⟨t1, t2, ht⟩ : ∃ t1 t2, told L x.1 = (t1, t2, 0) := ⟨_, _, by unfold told; rw [if_pos hg]⟩
                have ST : Hid (Calls Tryz.prog 18 #[.pointer (some ⟨b, 0, none⟩), .pointer (some ⟨mb, 0, none⟩)] wr fun e w' => e = .returned (.tuple #[.agg #[.int .i64 t1, .int .i64 t2], .int .i64 0]) ∧ ∃ F', Run w w' F' b mb L (it L (k + 1) x0) ∧ Chg F F' mb wr w') := by
                  have := HR.out.step Fk HT.out
                  rw [ht, ← HX1.out] at this; exact this
                rw [ht] at het
                simp only at het
                rw [if_pos hg]
                rw [hg] at RN
                cases hng : (nxt L x).1.goes
                · rw [hng] at het
                  have HN : Hid ((it L (k + 1) x0).1.goes = false) := by show _ = _; rw [HX1.out]; exact hng
                  have het2 : t1 = 3 := by simpa using het
                  subst het2
                  clear hng het ht A Fk hg hsp
                  go_wp2_with (first
                    | (go_at_call 18; refine ST.out.mono ?_; rintro e w6 ⟨rfl, F', h6, g6⟩)
                    | (go_at_call 14; refine (RN.out _ F HR.out.m).mono ?_; rintro e w8 ⟨rfl, rfl⟩))
                  go_roundw
                  case rel => exact ⟨k + 1, F', by omega, by go_num, by rw [HN.out]; rfl, h6.alloc _⟩
                  case measure => simp [intOf]; omega
                · rw [hng] at het
                  have HN : Hid ((it L (k + 1) x0).1.goes = true) := by show _ = _; rw [HX1.out]; exact hng
                  have het2 : (t1 == 3) = false := by simpa using het
                  clear hng het ht A Fk hg hsp
                  go_wp2_with (first
                    | (go_at_call 18; refine ST.out.mono ?_; rintro e w6 ⟨rfl, F', h6, g6⟩)
                    | (go_at_call 14; refine (RN.out _ F HR.out.m).mono ?_; rintro e w8 ⟨rfl, rfl⟩))
                  go_roundw
                  case rel => exact ⟨k + 1, F', by omega, by go_num, by rw [HN.out]; rfl, h6.alloc _⟩
                  case measure => simp [intOf]; omega
              · have hg : x.1.goes = false := by
                  cases hq : x.1.goes
                  · rfl
                  · by_cases h : k < tot
                    · exact absurd ⟨h, hq⟩ hgo
                    · have := HE.out
                      rw [show tot = k by omega, ← HX.out, hq] at this; cases this
                have hheld : x.1.held = 0 := by
                  rcases Fk with h | h
                  · rw [h.goes] at hg; cases hg
                  · exact h.2.1
                have ht : told L x.1 = (0, 0, 16) := by unfold told; rw [if_neg (by rw [hg]; simp)]
                have hnx : nxt L x = x := by unfold nxt; rw [if_neg (by rw [hg]; simp)]
                have ST : Hid (Calls Tryz.prog 18 #[.pointer (some ⟨b, 0, none⟩), .pointer (some ⟨mb, 0, none⟩)] wr fun e w' => e = .returned (.tuple #[.agg #[.int .i64 0, .int .i64 0], .int .i64 16]) ∧ ∃ F', Run w w' F' b mb L x ∧ Chg F F' mb wr w') := by
                  have := HR.out.step Fk HT.out
                  rw [ht, hnx] at this; exact this
                rw [hg] at RN
                have HD : Hid (∀ W F', Mac W F' b L x.1 → Calls Tryz.prog 17 #[.pointer (some ⟨b, 0, none⟩)] W fun e w' => e = .returned (.int .i64 0) ∧ W = w') := fun W F' h => by
                  have := held8_any W F' b L x.1 h; rw [hheld] at this; exact this
                obtain ⟨sp, hsq⟩ : ∃ sp, sp = x.1.stp := ⟨_, rfl⟩
                rw [← hsq] at hsp
                have SP : Hid (∀ W F', Mac W F' b L x.1 → Calls Tryz.prog 22 #[.pointer (some ⟨b, 0, none⟩)] W fun e w' => e = .returned (.int .i64 sp) ∧ W = w') := fun W F' h => by
                  have := steps_any W F' b L x.1 h; rw [← hsq] at this; exact this
                have hle : decide (sp ≤ (tot : Int)) = true := by rw [decide_eq_true_iff]; omega
                rw [if_neg (by rw [hg]; simp)]
                clear hsq hsp ht hnx hheld Fk hg
                by_cases hkt : k < tot
                · have i1 : (k : Int) < (tot : Int) := by omega
                  go_wp2_with (first
                    | (go_at_call 9; refine (KN.out _ (keep_below h6.bel (below_alloc _ _))).mono ?_; rintro e w9 ⟨rfl, b9⟩)
                    | (go_at_call 17; refine (HD.out _ F' (h6.m.alloc _)).mono ?_; rintro e w8 ⟨rfl, rfl⟩)
                    | (go_at_call 22; refine (SP.out _ F' (h6.m.alloc _)).mono ?_; rintro e w8 ⟨rfl, rfl⟩)
                    | (go_at_call 14; have q0 := m18; clear q0; refine (RN.out _ F' (h6.m.alloc _)).mono ?_; rintro e w8 ⟨rfl, rfl⟩)
                    | (go_at_call 18; refine ST.out.mono ?_; rintro e w6 ⟨rfl, F', h6, g6⟩; have m18 := True.intro)
                    | (go_at_call 14; refine (RN.out _ F HR.out.m).mono ?_; rintro e w8 ⟨rfl, rfl⟩))
                  go_ret
                  exact ⟨rfl, keep_below (keep_below h6.bel (below_alloc _ _)) b9⟩
                · have i1 : ¬ (k : Int) < (tot : Int) := by omega
                  go_wp2_with (first
                    | (go_at_call 9; refine (KN.out _ (keep_below h6.bel (below_alloc _ _))).mono ?_; rintro e w9 ⟨rfl, b9⟩)
                    | (go_at_call 17; refine (HD.out _ F' (h6.m.alloc _)).mono ?_; rintro e w8 ⟨rfl, rfl⟩)
                    | (go_at_call 22; refine (SP.out _ F' (h6.m.alloc _)).mono ?_; rintro e w8 ⟨rfl, rfl⟩)
                    | (go_at_call 14; have q0 := m18; clear q0; refine (RN.out _ F' (h6.m.alloc _)).mono ?_; rintro e w8 ⟨rfl, rfl⟩)
                    | (go_at_call 18; refine ST.out.mono ?_; rintro e w6 ⟨rfl, F', h6, g6⟩; have m18 := True.intro)
                    | (go_at_call 14; refine (RN.out _ F HR.out.m).mono ?_; rintro e w8 ⟨rfl, rfl⟩))
                  go_ret
                  exact ⟨rfl, keep_below (keep_below h6.bel (below_alloc _ _)) b9⟩
    · clear hr hN h200
      go_enter Tryz.func5, Tryz.ntmps5
      go_wp2_with (first
        | (go_at_call 9; refine (KN.out _ (keep_below B2 b1)).mono ?_; rintro e w2 ⟨rfl, b2⟩)
        | (go_at_call 10; refine N1.out.mono ?_; rintro e w1 hG; obtain ⟨x, hx, rfl, b1⟩ := hG.err T; have q0 : (x != 0) = true := (by simpa using hx)))
      go_ret
      exact ⟨rfl, keep_below (keep_below B2 b1) b2⟩
end Go.Proofs.YthhcabddcgckcaaGreatDoor
