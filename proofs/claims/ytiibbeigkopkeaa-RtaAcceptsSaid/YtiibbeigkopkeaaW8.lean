/- What is proved here: the walk of the law RtaAlone. Conditions: what RtaC says of the program. -/
import Derived.Test.YtiibbeigkopkeaaKw
namespace Go.Proofs.Ytiibbeigkopkeaa
open Go.ChangeShapes Go.WideShapes Go.RowKit

/-- Does a row alone come in time? -/
def fits (x : RtR) : Prop := x.C ≤ x.D ∧ x.B ≤ x.D - x.C ∧ x.J ≤ x.D - x.C - x.B
theorem alone_next (x : RtR) (w : Int) : nxO x [] w = if 4611686018427387904 ≤ x.C + x.B then none else some (x.C + x.B) := by
  unfold nxO suB suV
  simp
theorem alone_rsp {x : RtR} (hx : okR x = true) : (fits x ∧ rspR [x] 0 = (x.C + x.B + x.J, 0)) ∨ (¬ fits x ∧ (rspR [x] 0 = (0, 4) ∨ rspR [x] 0 = (0, 13))) := by
  obtain ⟨⟨p1, p2⟩, ⟨p3, p4⟩, ⟨p5, p6⟩, ⟨p7, p8⟩, ⟨p9, p10⟩, p11, p12⟩ := okR_parts hx
  have hg : rgR [x] = true := by unfold rgR; simp [hx]
  have e : rspR [x] 0 = rsp (nxO x []) x.D x.J 13 := by
    have := rspR_at (L := [x]) (k := 0) (x := x) hg rfl
    rw [show oth [x] x.P 0 = [] from rfl] at this
    exact this
  rw [e]
  unfold rsp fits
  by_cases c1 : 4611686018427387904 ≤ x.C + x.B
  · exact Or.inr ⟨by omega, Or.inl (itr_none (by rw [alone_next, if_pos c1]))⟩
  · have hs : ∀ w, nxO x [] w = some (x.C + x.B) := fun w => by rw [alone_next, if_neg c1]
    by_cases c2 : x.D < x.C + x.B ∨ x.D - (x.C + x.B) < x.J
    · exact Or.inr ⟨by omega, Or.inr (itr_late (hs 0) c2)⟩
    · refine Or.inl ⟨by omega, ?_⟩
      rw [itr_on (k := x.D.toNat + 1) (hs 0) c2 (by omega), itr_same (k := x.D.toNat) (hs (x.C + x.B)) c2]
set_option maxHeartbeats 4000000 in
set_option maxRecDepth 100000 in
theorem alone_walk (H : RtaC) (x : RtR) (w : World) :
    Calls Try.prog 8 #[.agg #[.int .i64 x.C, .int .i64 x.B, .int .i64 x.T, .int .i64 x.D, .int .i64 x.J, .int .i64 x.P]] w fun e w' => e = .returned (.bool true) ∧ Below w.heap.size w w' := by
  have H1 := Lib.hid H
  clear H
  obtain ⟨bx, hbx⟩ : ∃ o, o = Obj.cells #[.int .i64 x.C, .int .i64 x.B, .int .i64 x.T, .int .i64 x.D, .int .i64 x.J, .int .i64 x.P] 41 := ⟨_, rfl⟩
  have RL := lit_rows (w.alloc bx) [x] #[.int .i64 x.C, .int .i64 x.B, .int .i64 x.T, .int .i64 x.D, .int .i64 x.J, .int .i64 x.P] 1 (w.heap.size + 1) rfl (alloc_size _ _) rfl (by simp)
  have BL := Lib.hid (keep_below (below_alloc w bx) (below_alloc (w.alloc bx) (.cells #[.int .i64 x.C, .int .i64 x.B, .int .i64 x.T, .int .i64 x.D, .int .i64 x.J, .int .i64 x.P] 41)))
  have J0 := (One.new w #[.int .i64 x.C, .int .i64 x.B, .int .i64 x.T, .int .i64 x.D, .int .i64 x.J, .int .i64 x.P] 41).keep (below_alloc _ (.cells #[.int .i64 x.C, .int .i64 x.B, .int .i64 x.T, .int .i64 x.D, .int .i64 x.J, .int .i64 x.P] 41))
  subst hbx
  have JH := Lib.hid J0
  have RH := Lib.hid RL
  clear RL J0
  obtain ⟨g, q4⟩ : ∃ p, okR x = p := ⟨_, rfl⟩
  have C4 := Lib.hid (fun a n c W (hb : RowS W a n [x]) (hn : n ≤ 140737488355328) => H1.out.right a n c [x] W hb hn g (by unfold rgR; simp [q4]))
  cases g
  · clear q4
    go_enter Try.func8, Try.ntmps8
    go_wp2_with (first
      | (go_at_call 18; refine (C4.out _ _ _ _ RH.out (by omega)).mono ?_; rintro e w2 ⟨rfl, hb2⟩)
      | (go_at_call 10; refine (known_any H1.out _).mono ?_; rintro e w3 ⟨rfl, hb3⟩))
    go_ret
    exact ⟨rfl, keep_below (keep_below BL.out hb2) hb3⟩
  obtain ⟨⟨p1, p2⟩, ⟨p3, p4⟩, ⟨p5, p6⟩, ⟨p7, p8⟩, ⟨p9, p10⟩, -, -⟩ := okR_parts q4
  obtain ⟨⟨rv, re⟩, hq⟩ : ∃ p, rspR [x] 0 = p := ⟨_, rfl⟩
  have C2 := Lib.hid (fun a n c W (hb : RowS W a n [x]) (hn : n ≤ 140737488355328) => H1.out.resp a n c [x] 0 W hb hn rv re hq)
  have HA := alone_rsp q4
  rw [hq] at HA
  clear hq q4
  rcases HA with ⟨hf, he⟩ | ⟨hf, he⟩
  · cases he
    obtain ⟨f1, f2, f3⟩ := hf
    have d1 : decide (x.C ≤ x.D) = true := decide_eq_true f1
    have d2 : decide (x.B ≤ x.D - x.C) = true := decide_eq_true f2
    have d3 : decide (x.J ≤ x.D - x.C - x.B) = true := decide_eq_true f3
    go_enter Try.func8, Try.ntmps8
    go_wp2_with (first
      | (go_at_call 18; refine (C4.out _ _ _ _ RH.out (by omega)).mono ?_; rintro e w2 ⟨rfl, hb2⟩; have R2 := Lib.hid (RH.out.below hb2); have J2 := Lib.hid (JH.out.keep hb2); have B2 := Lib.hid (keep_below BL.out hb2))
      | (go_at_call 14; refine (C2.out _ _ _ _ R2.out (by omega)).mono ?_; rintro e w3 ⟨rfl, hb3⟩; have J3 := J2.out.keep hb3; have B3 := Lib.hid (keep_below B2.out hb3); have c0 := J3.2 0 _ rfl; have c1 := J3.2 1 _ rfl; have c3 := J3.2 3 _ rfl; have c4 := J3.2 4 _ rfl)
      | (go_at_call 10; refine (known_any H1.out _).mono ?_; rintro e w4 ⟨rfl, hb4⟩))
    go_ret
    exact ⟨rfl, keep_below B3.out hb4⟩
  · have hd : (rv = 0 ∧ re = 4) ∨ (rv = 0 ∧ re = 13) := by
      rcases he with he | he <;> cases he
      · exact Or.inl ⟨rfl, rfl⟩
      · exact Or.inr ⟨rfl, rfl⟩
    clear he
    unfold fits at hf
    by_cases f1 : x.C ≤ x.D
    · have d1 : decide (x.C ≤ x.D) = true := decide_eq_true f1
      by_cases f2 : x.B ≤ x.D - x.C
      · have d2 : decide (x.B ≤ x.D - x.C) = true := decide_eq_true f2
        have f3 : ¬ x.J ≤ x.D - x.C - x.B := fun h => hf ⟨f1, f2, h⟩
        have d3 : decide (x.J ≤ x.D - x.C - x.B) = false := decide_eq_false f3
        clear hf
        rcases hd with ⟨rfl, rfl⟩ | ⟨rfl, rfl⟩
        all_goals
          go_enter Try.func8, Try.ntmps8
          go_wp2_with (first
            | (go_at_call 18; refine (C4.out _ _ _ _ RH.out (by omega)).mono ?_; rintro e w2 ⟨rfl, hb2⟩; have R2 := Lib.hid (RH.out.below hb2); have J2 := Lib.hid (JH.out.keep hb2); have B2 := Lib.hid (keep_below BL.out hb2))
            | (go_at_call 14; refine (C2.out _ _ _ _ R2.out (by omega)).mono ?_; rintro e w3 ⟨rfl, hb3⟩; have J3 := J2.out.keep hb3; have B3 := Lib.hid (keep_below B2.out hb3); have c0 := J3.2 0 _ rfl; have c1 := J3.2 1 _ rfl; have c3 := J3.2 3 _ rfl; have c4 := J3.2 4 _ rfl)
            | (go_at_call 10; refine (known_any H1.out _).mono ?_; rintro e w4 ⟨rfl, hb4⟩))
          go_ret
          exact ⟨rfl, keep_below B3.out hb4⟩
      · have d2 : decide (x.B ≤ x.D - x.C) = false := decide_eq_false f2
        clear hf
        rcases hd with ⟨rfl, rfl⟩ | ⟨rfl, rfl⟩
        all_goals
          go_enter Try.func8, Try.ntmps8
          go_wp2_with (first
            | (go_at_call 18; refine (C4.out _ _ _ _ RH.out (by omega)).mono ?_; rintro e w2 ⟨rfl, hb2⟩; have R2 := Lib.hid (RH.out.below hb2); have J2 := Lib.hid (JH.out.keep hb2); have B2 := Lib.hid (keep_below BL.out hb2))
            | (go_at_call 14; refine (C2.out _ _ _ _ R2.out (by omega)).mono ?_; rintro e w3 ⟨rfl, hb3⟩; have J3 := J2.out.keep hb3; have B3 := Lib.hid (keep_below B2.out hb3); have c0 := J3.2 0 _ rfl; have c1 := J3.2 1 _ rfl; have c3 := J3.2 3 _ rfl; have c4 := J3.2 4 _ rfl)
            | (go_at_call 10; refine (known_any H1.out _).mono ?_; rintro e w4 ⟨rfl, hb4⟩))
          go_ret
          exact ⟨rfl, keep_below B3.out hb4⟩
    · have d1 : decide (x.C ≤ x.D) = false := decide_eq_false f1
      clear hf
      rcases hd with ⟨rfl, rfl⟩ | ⟨rfl, rfl⟩
      all_goals
        go_enter Try.func8, Try.ntmps8
        go_wp2_with (first
          | (go_at_call 18; refine (C4.out _ _ _ _ RH.out (by omega)).mono ?_; rintro e w2 ⟨rfl, hb2⟩; have R2 := Lib.hid (RH.out.below hb2); have J2 := Lib.hid (JH.out.keep hb2); have B2 := Lib.hid (keep_below BL.out hb2))
          | (go_at_call 14; refine (C2.out _ _ _ _ R2.out (by omega)).mono ?_; rintro e w3 ⟨rfl, hb3⟩; have J3 := J2.out.keep hb3; have B3 := Lib.hid (keep_below B2.out hb3); have c0 := J3.2 0 _ rfl; have c1 := J3.2 1 _ rfl; have c3 := J3.2 3 _ rfl; have c4 := J3.2 4 _ rfl)
          | (go_at_call 10; refine (known_any H1.out _).mono ?_; rintro e w4 ⟨rfl, hb4⟩))
        go_ret
        exact ⟨rfl, keep_below B3.out hb4⟩
end Go.Proofs.Ytiibbeigkopkeaa
