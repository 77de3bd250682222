/- What is proved here: the contract of the sections of the document. Conditions: the row is not too long. -/
import Derived.Test.YtacgnofmccennaaDoorRa
namespace Go.Proofs.YtacgnofmccennaaDoor
open Go.ChangeShapes Go.WideShapes Go.RowKit

theorem ownP_below {w w' : World} {base : Nat} {v : Value} {m : Nat} {xs : List Value} (h : w.ownsRow base 42 2 v m xs) (hb : Below w.heap.size w w') : w'.ownsRow base 42 2 v m xs :=
  h.kept (row := none) ⟨hb.os, hb.tape, hb.output, hb.size, fun i hi _ => hb.block i hi⟩ (by
    cases h : v.ownBlock with
    | none => exact Or.inl rfl
    | some _ => exact Or.inr (by simp))
set_option maxHeartbeats 2000000 in
set_option maxRecDepth 100000 in
theorem sectionsR_any (a : Option Addr) (n c : Nat) (L : List (Int × Int × Int)) (w : World) (hr : RowI w a n L) (hn : n ≤ 1000000) :
    Calls Tryd.prog 14 #[.slice a n c] w (GotP (sA L) (cE true L) w) := by
  have cw := worstR_any a n c L w hr hn
  unfold GotP
  by_cases h0 : cE true L = 0
  · have HS : Hid (sA L = sec L L.length) := by show _ = _; unfold sA; rw [if_pos h0]
    rw [h0] at cw
    generalize cW true L = W0 at cw
    have H0 := Lib.hid h0
    have hw : wE L = 0 := (lE_zero (rE_zero (cE_zero h0).1).1).1
    have hm : mE L = 0 := (wE_zero hw).1
    have hln := wE_len hw
    rw [← hr.1] at hln
    have hn2 := hln.2
    have HW := Lib.hid hw
    have HL := Lib.hid hr.1
    have HR := Lib.hid hr
    obtain ⟨i0, hi, hz0, hz1, hz2⟩ := parts_info ref_info
    have CW := Lib.hid cw
    have CM := Lib.hid (fun W (h : Below w.heap.size w W) => (show mA L = mL L by unfold mA; rw [if_pos hm]) ▸ hm ▸ matchR_any a n c L W (hr.below h) hn)
    clear cw h0 hw hln hm hr
    go_enter Tryd.func14, Tryd.ntmps14
    go_wp2_with (first | (go_at_call 10; refine CW.out.mono ?_; rintro e w1 ⟨rfl, hb1⟩) | (go_at_call 22; refine (CM.out _ hb1).mono ?_; rintro e w2 ⟨a2, n2, c2, rfl, hr2, hb2⟩; have hb3 := keep_below hb1 hb2))
    have HN2 : Hid (n2 = n) := by show _ = _; have := hr2.1; rw [mL_len, ← HL.out] at this; exact this
    have HR2 := Lib.hid hr2
    clear hb1 hb2 CM CW hr2
    go_loopw [8, 9] (fun s i wr => ∃ k : Nat, k ≤ n ∧ i = .int .i64 k ∧ wr.ownsRow w2.heap.size 42 2 s (sec L k).length (ouC (sec L k)) ∧ Below w2.heap.size w2 wr) (fun _ i _ => n - (intOf i).toNat)
    case atStart => exact ⟨0, by omega, rfl, World.ownsRow_nil _ _ _ _, Below.refl _ _⟩
    case round =>
      obtain ⟨k, hk, rfl, hown, hbl⟩ := hrel
      have hbs := hbl.size
      by_cases hlt : k < n
      · obtain ⟨b1, o1, p1, p2, p3, rfl, hB1, hx, hc1, hc2, hc3⟩ := (HR.out.below (keep_below hb3 hbl)).at_ hlt
        have HX := Lib.hid (at_some hx)
        clear hx
        have q1 : (0 : Int) ≤ (k : Int) := by omega
        have q2 : (k : Int) < (n : Int) := by omega
        by_cases h23 : p1 = 23
        · subst h23
          have hS := (mE_zero (wE_zero HW.out).1).2
          obtain ⟨d, e1, e2, e3, e4, e5, e6⟩ := hS.opn (p := k) (by rw [HX.out]; rfl)
          have hEnd : Ends L (sk L d) (k + 1) d := ⟨HW.out, by omega, e3, by rw [e5, sk_opn' (by rw [HX.out]; rfl)], rfl, by unfold cls at e4; simp at e4; omega⟩
          obtain ⟨bm, om, ha2, hBm, hcs⟩ := (HR2.out.below hbl).2 (by rw [HN2.out]; omega)
          subst ha2
          have d1 := hcs k (by rw [HN2.out]; exact hlt)
          rw [mL_at (by rw [← HL.out]; exact hlt), e1] at d1
          have q3 : (k : Int) < (n2 : Int) := by rw [HN2.out]; exact q2
          have CY := Lib.hid (fun W (h1 : RowI W (some ⟨b1, o1, none⟩) n L) (h2 : Row W (some ⟨bm, om, none⟩) n2 (mL L)) => wayR_any true (some ⟨b1, o1, none⟩) n c n2 c2 L (d - (k + 1)) (some ⟨bm, om, none⟩) (k + 1) d (sk L d) W rfl hEnd h1 h2)
          obtain ⟨v, hv⟩ : ∃ v, v = cut (ub true L (k + 1)) := ⟨_, rfl⟩
          rw [← hv] at CY
          have hvb : v ≤ 1048577 := by rw [hv]; exact cut_le _
          have HE : Hid (sec L (k + 1) = sec L k ++ [(p2, (v : Int) + 1)]) := by show _ = _; rw [sec, if_pos (by rw [HX.out]), HX.out, ← hv]; rfl
          have w1' : IntKind.i64.wrap ((k : Int) + 1) = (k : Int) + 1 := IntWalk.i64_in _ (by omega)
          have w2' : IntKind.i64.wrap ((v : Int) + 1) = (v : Int) + 1 := IntWalk.i64_in _ (by omega)
          have hone : ∀ u ∈ ([.int .i64 p2, .int .i64 ((v : Int) + 1)] : List Value), u.oneCell' = true := by intro u hu; simp at hu; rcases hu with rfl | rfl <;> rfl
          have hsl := sec_len L k
          have h63 : (sec L k).length + 1 ≤ maxLen := by unfold maxLen; omega
          have hRI := HR.out.below (keep_below hb3 hbl)
          have hRM := HR2.out.below hbl
          obtain ⟨m, hm⟩ : ∃ m, m = (sec L k).length := ⟨_, rfl⟩
          obtain ⟨S, hS2⟩ : ∃ S, S = sec L k := ⟨_, rfl⟩
          rw [← hm, ← hS2] at hown
          rw [← hm] at h63 hsl
          have HM : Hid (m = S.length) := by show _ = _; rw [hm, hS2]
          have HE2 : Hid (sec L (k + 1) = S ++ [(p2, (v : Int) + 1)]) := by show _ = _; rw [HE.out, hS2]
          have hc2d : wr.drew.cell? ⟨b1, o1 + k * 3 + 1, none⟩ = some (.int .i64 p2) := hc2
          have hownd : wr.drew.ownsRow w2.heap.size 42 2 u8 m (ouC S) := ownP_below hown (Below.refl _ _).drew
          have hbld : Below w2.heap.size w2 wr.drew := hbl.drew
          clear hm hS2 HE hv hcs e1 e2 e3 e4 e5 e6 hEnd hS
          go_wp2_with fail
          go_region_law (first
            | (refine step_append_lies _ rfl (.tmp 35) (.tmp 52) 30 rfl w2.heap.size 42 i0 (.agg #[.int .i64 0, .int .i64 0]) 2 16 Tryd.underlying30 hi hz0 hz1 hz2 rfl (by decide) u8 m (ouC S) (by simp [Act.eval]) (ownP_below z2 (below_alloc w9 _)) ⟨w9.heap.size, 0, none⟩ 1 1 [.int .i64 p2, .int .i64 ((v : Int) + 1)] (by simp [Act.eval]) rfl (fun j u hj => World.news_of_block (new_block w9 (.cells #[.int .i64 p2, .int .i64 ((v : Int) + 1)] 42)) j u hj) hone (by omega) h63 (by omega) (keep_below z3 (below_alloc w9 _)).size _ rfl ?_; intro g cap w4 hown3 hgrow hat hltg)
            | (go_wp2_with (go_at_call 23; refine (CY.out _ (hRI.below (Below.refl _ _).drew) (hRM.below (Below.refl _ _).drew)).mono ?_; rintro e w9 ⟨rfl, hb9⟩; have z1 := keep_cell hb9 hc2d; have z2 := ownP_below hownd hb9; have z3 := keep_below hbld hb9)))
          all_goals
            have hb5 : Below w2.heap.size w2 w4 := (keep_below z3 (below_alloc w9 _)).grown hgrow (keep_below z3 (below_alloc w9 _)).size (fun g hg => (z2.lt g hg).1)
            have hO5 : w4.ownsRow w2.heap.size 42 2 (.slice (some ⟨g, 0, none⟩) (m + 1) cap) (sec L (k + 1)).length (ouC (sec L (k + 1))) := by rw [HE2.out, ouC_snoc, List.length_append, ← HM.out]; exact hown3
            clear hown3 hgrow hat z2 z3
            go_wp2
            go_roundw
            case rel => exact ⟨k + 1, by omega, by go_num, hO5, hb5⟩
            case measure => simp [intOf]; omega
        · have e23 : (p1 == 23) = false := by rw [beq_eq_false_iff_ne]; exact h23
          have hO5 : wr.ownsRow w2.heap.size 42 2 u8 (sec L (k + 1)).length (ouC (sec L (k + 1))) := by
            rw [sec, if_neg (by rw [HX.out]; exact h23)]; exact hown
          clear h23 hown
          go_wp2
          go_roundw
          case rel => exact ⟨k + 1, by omega, by go_num, hO5, hbl⟩
          case measure => simp [intOf]; omega
      · obtain rfl : k = n := by omega
        obtain ⟨a', c', rfl, hP⟩ := RowP.own hown
        have HP : Hid (RowP wr a' (sec L k).length (sA L)) := by show RowP _ _ _ _; rw [HS.out, ← HL.out]; exact hP
        clear hown hP
        go_wp2
        go_ret2
        exact ⟨_, _, _, by rw [H0.out]; rfl, HP.out, keep_below hb3 hbl⟩
  · have HS : Hid (sA L = []) := by show _ = _; unfold sA; rw [if_neg h0]
    obtain ⟨x, hx⟩ : ∃ x, x = cE true L := ⟨_, rfl⟩
    rw [← hx] at cw h0 ⊢
    generalize cW true L = W0 at cw
    have e1 : (x != 0) = true := by simpa using h0
    have e2 : (x == 0) = false := by simpa using h0
    have CW := Lib.hid cw
    clear cw hr hx h0
    go_enter Tryd.func14, Tryd.ntmps14
    go_wp2_with (first | (go_at_call 10; refine CW.out.mono ?_; rintro e w1 ⟨rfl, hb1⟩))
    go_ret2
    exact ⟨_, _, _, rfl, by rw [HS.out]; exact RowP.nil _ _, hb1⟩
end Go.Proofs.YtacgnofmccennaaDoor
