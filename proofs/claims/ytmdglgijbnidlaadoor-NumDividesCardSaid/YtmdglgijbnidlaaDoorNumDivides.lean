/- What is proved here: for every two numbers the law NumDivides answers true. Condition: the package-level variable num.names starts as the program's text lays it (the card ties that to the text); code of other packages of the project could still write it. -/
import Derived.Test.YtmdglgijbnidlaaDoorLaid
import Derived.Test.YtmdglgijbnidlaaDoorTie
import Derived.Test.YtmdglgijbnidlaaDoorCards
import Derived.SevenTiedAt
import Derived.Lib.Hide
namespace Go.Proofs.YtmdglgijbnidlaaDoor.numDivides
open Go Go.ChangeShapes Go.WideShapes Go.ChangeAt Go.WideMaps Go.WideElems Go.RowKit
set_option linter.unusedVariables false

theorem fit {a : Int} (h : (Lit.int .i64 a).wf = true) : fits a := by
  have := bounds_i64 h; unfold fits; omega

theorem near_any (a b : Int) (hb : fits b) (hz : ¬ b = 0) :
    (decide (val 5 a b < b) = true ∧ decide (wrap64 (-b) < val 5 a b) = true) ∨ (decide (val 5 a b < b) = false ∧ decide (b < val 5 a b) = true ∧ decide (val 5 a b < wrap64 (-b)) = true) ∨
      (decide (val 5 a b < b) = false ∧ decide (b < val 5 a b) = true ∧ decide (val 5 a b < wrap64 (-b)) = false ∧ (b == -9223372036854775808) = true) := by
  have h := mod_near (a := a) hz
  generalize val 5 a b = m at h ⊢
  unfold fits at hb
  by_cases e : b = -9223372036854775808
  · subst e
    have hw : wrap64 (-(-9223372036854775808)) = -9223372036854775808 := by decide +kernel
    rw [hw]
    refine Or.inr (Or.inr ⟨?_, ?_, ?_, rfl⟩)
    · exact decide_eq_false (by omega)
    · exact decide_eq_true (by omega)
    · exact decide_eq_false (by omega)
  · have hw : wrap64 (-b) = -b := by unfold wrap64; omega
    rw [hw]
    by_cases hp : 0 < b
    · exact Or.inl ⟨decide_eq_true (by omega), decide_eq_true (by omega)⟩
    · exact Or.inr (Or.inl ⟨decide_eq_false (by omega), decide_eq_true (by omega), decide_eq_true (by omega)⟩)
theorem sign_any (a b : Int) : (decide (0 ≤ val 5 a b) = true ∧ decide (val 5 a b ≤ 0) = true) ∨ (decide (0 ≤ val 5 a b) = true ∧ decide (val 5 a b ≤ 0) = false ∧ decide (0 < a) = true) ∨
    (decide (0 ≤ val 5 a b) = false ∧ decide (a < 0) = true ∧ decide (val 5 a b ≤ 0) = true) := by
  by_cases h : 0 ≤ val 5 a b
  · by_cases h2 : val 5 a b ≤ 0
    · exact Or.inl ⟨decide_eq_true h, decide_eq_true h2⟩
    · refine Or.inr (Or.inl ⟨decide_eq_true h, decide_eq_false h2, decide_eq_true ?_⟩)
      by_cases h3 : 0 < a
      · exact h3
      · exact absurd (mod_neg (b := b) (by omega : a ≤ 0)) h2
  · refine Or.inr (Or.inr ⟨decide_eq_false h, decide_eq_true ?_, decide_eq_true (by omega)⟩)
    by_cases h3 : a < 0
    · exact h3
    · exact absurd (mod_pos (b := b) (by omega : 0 ≤ a)) h
set_option maxHeartbeats 4000000

set_option maxRecDepth 100000 in
theorem walk (a0 : Int) (a1 : Int) (w0 : (Lit.int .i64 a0).wf = true) (w1 : (Lit.int .i64 a1).wf = true) (w : World) (hn : Nam w) :
    Calls Tryd.prog 4 #[.int .i64 a0, .int .i64 a1] w fun e w' => e = .returned (.bool true) ∧ Grown w w' := by
  have G := Grown.refl w
  have ha : fits a0 := fit w0
  have hb : fits a1 := fit w1
  clear w0 w1
  by_cases hz : a1 = 0
  · subst hz
    have t1 : val 4 a0 0 = 0 := by rw [val4, if_pos rfl]
    have t2 : val 5 a0 0 = 0 := by rw [val5, if_pos rfl]
    have l1 : bad 4 0 = true := by decide
    have l2 : bad 5 0 = true := by decide
    clear ha hb
    go_enter Tryd.func4, Tryd.ntmps4
    go_wp2_with (first
    | (go_at_call 11; refine (two_any _ _ _ _).mono ?_; rintro e w' ⟨rfl, hg⟩; replace hn := nam_grown hn hg; replace G := grown_trans G hg; clear hg)
    | (go_at_call 13; refine (neg_any _ _).mono ?_; rintro e w' ⟨rfl, rfl⟩)
    | (go_at_call 14; refine (not_any _ _).mono ?_; rintro e w' ⟨rfl, rfl⟩)
    | (go_at_call 16; refine (bool_any _ _).mono ?_; rintro e w' ⟨rfl, rfl⟩)
    | (go_at_call 17; refine (name_any _ _ hn).mono ?_; rintro e w' ⟨rfl, rfl⟩)
    | (go_at_call 19; refine (known_any _ hn).mono ?_; rintro e w' ⟨rfl, hg⟩; replace G := grown_trans G hg; clear hg))
    go_ret
    exact ⟨rfl, G⟩
  · have t1 : (val 1 (val 3 a1 (val 4 a0 a1)) (val 5 a0 a1) == a0) = true := by rw [div_back ha hz]; simp
    have l1 : bad 4 a1 = false := by simp [bad, hz]
    have l2 : bad 5 a1 = false := by simp [bad, hz]
    have hz1 : (a1 == 0) = false := by simpa using hz
    have near := near_any a0 a1 hb hz
    have sign := sign_any a0 a1
    clear ha hb hz
    rcases near with ⟨n1, n2⟩ | ⟨n1, n2, n3⟩ | ⟨n1, n2, n3, n4⟩ <;> rcases sign with ⟨s1, s2⟩ | ⟨s1, s2, s3⟩ | ⟨s1, s2, s3⟩
    all_goals
      go_enter Tryd.func4, Tryd.ntmps4
      go_wp2_with (first
    | (go_at_call 11; refine (two_any _ _ _ _).mono ?_; rintro e w' ⟨rfl, hg⟩; replace hn := nam_grown hn hg; replace G := grown_trans G hg; clear hg)
    | (go_at_call 13; refine (neg_any _ _).mono ?_; rintro e w' ⟨rfl, rfl⟩)
    | (go_at_call 14; refine (not_any _ _).mono ?_; rintro e w' ⟨rfl, rfl⟩)
    | (go_at_call 16; refine (bool_any _ _).mono ?_; rintro e w' ⟨rfl, rfl⟩)
    | (go_at_call 17; refine (name_any _ _ hn).mono ?_; rintro e w' ⟨rfl, rfl⟩)
    | (go_at_call 19; refine (known_any _ hn).mono ?_; rintro e w' ⟨rfl, hg⟩; replace G := grown_trans G hg; clear hg))
      go_ret
      exact ⟨rfl, G⟩

set_option maxRecDepth 100000 in
theorem lifted (os : Os) (started : os.Started) (H : Type) (enc : TypeId × Value → H) :
    ReturnsInHanded {} Tryd.checked os 4 .any (fun w args => (Rows.numDividesSpec.pre enc Tryd.prog Tryd.f4 [] false w args ∧ laidMetH Tryd.prog laid1 w) ∧ sizedMet enc Tryd.prog Tryd.f4 (OpenSpec.ofChange Rows.numDividesSpec) false w args)
      (Rows.numDividesSpec.post enc Tryd.prog Tryd.f4 false true false false) := by
  refine returnsInHanded_of_change_and (C := Tryd.checked) (X := fun w _ => laidMetH Tryd.prog laid1 w) (fun _ _ _ hh h => h.of_heap hh) own started (by kernel_rfl) Tryd.func4
    (ChangeSpec.witness_shaped (enc := enc) (C := Tryd.checked) (os := os) (X := fun w _ => laidMetH Tryd.prog laid1 w) false (World.doorLaid Tryd.prog 400 os) #[.int .i64 0, .int .i64 0] 8 rfl (World.shaped_of_RefB (by kernel_rfl) (by kernel_rfl)) (by kernel_rfl) (by kernel_rfl) (by kernel_rfl) (door_met os _)) ?_
  intro W base args ds gs before hval0 hW _ _ hL _
  have hval : ∀ (j : Nat) t v, Tryd.f4.params[j]? = some t → args[j]? = some v → Value.okWide Tryd.prog W .any base t v := hval0
  have hW' := hW
  obtain ⟨p, q, hA0, hV, rfl, hfz, hnd⟩ := hW
  have hA : DataW.TrodAll enc Tryd.prog W 0 (fun _ => true) true Tryd.f4.params.toList args.toList ds p := hA0
  rw [Tryd.params4] at hA hval
  obtain ⟨v0, vs0, d0, ds0, p0, q0, hargs, rfl, rfl, h0, r0⟩ := trodAll_cons hA
  obtain ⟨v1, vs1, d1, ds1, p1, q1, rfl, rfl, rfl, h1, r1⟩ := trodAll_cons r0
  obtain ⟨rfl, rfl, rfl⟩ := trodAll_nil r1
  obtain rfl : args = #[v0, v1] := by cases args; simp_all
  obtain ⟨rfl, rfl⟩ := trodVars_none hV
  obtain ⟨a0, rfl, rfl, rfl, w0⟩ := open_int Tryd.underlying3 (hval 0 3 v0 rfl rfl) h0
  obtain ⟨a1, rfl, rfl, rfl, w1⟩ := open_int Tryd.underlying3 (hval 1 3 v1 rfl rfl) h1
  have hN := of_laid hL
  clear hA0 hval0
  simp only [List.append_nil] at hW'
  refine (walk a0 a1 w0 w1 W hN).mono fun e W' ⟨he, hg⟩ => ?_
  subst he
  exact ⟨_, rfl, post_of_same (pa := []) (pv := []) hW' (fun _ _ _ => (trodAll_cons_mk (shut_bool Tryd.underlying4 _) trodAll_mk0)) (fun sp _ => (trodAll_cons_mk (shut_int Tryd.underlying3 w0) (trodAll_cons_mk (shut_int Tryd.underlying3 w1) trodAll_mk0))) (fun _ _ => rfl) rfl
    (hg.frame _) hg.2.1 (ok_one (by kernel_rfl) rfl (okWide_bool_mk Tryd.underlying4 _))⟩

theorem said : Rows.NumDividesSaid :=
  OpenClaim.holds_of_wide 4 Tryd.f4 rfl rfl rfl rfl rfl rfl rfl ⟨rfl, rfl, rfl, rfl, rfl⟩ rfl rfl rfl rfl rfl (by kernel_rfl) Tryd.func4 (by kernel_rfl)
    (of_decide_eq_true (by kernel_rfl)) (by unfold Func.isWrapper; first | (rw [if_pos (by decide +kernel)]; kernel_rfl) | (rw [if_neg (by decide +kernel)]; exact ⟨rfl, rfl⟩))
    (fun os started H enc _ => lifted os started H enc)

theorem card_holds : Rows.NumDividesCardSaid :=
  Claim7.holds_tied_plain_at .later [] [.data] true (true, "10c0927908242dc53bb92db572e5e4fb73bca973df39c6481d68675944732c4a") false
    said (fun _ h => by cases h) (by kernel_rfl) (fun _ h => by cases h) numDivides_row_tie rfl ⟨rfl, rfl⟩ (by kernel_rfl) rfl
    (fun f fn hf hfn => by
      obtain rfl : f = 4 := Option.some.inj ((show Tryd.prog.funcNamed "camshaft/camshaftlaw01.NumDivides" = some 4 by kernel_rfl).symm.trans hf) |>.symm
      obtain rfl : fn = Tryd.f4 := (Option.some.inj (Tryd.func4.symm.trans hfn)).symm
      exact ⟨by kernel_rfl, fun j t ht => by
        rw [Tryd.params4] at ht
        have hm : t ∈ [3, 3] := by simpa using Array.mem_of_getElem? ht
        have hall : ([3, 3].all fun u => !Tryd.prog.wantsStandIn u) = true := by kernel_rfl
        exact (show Tryd.prog.wantsStandIn t = false by simpa using List.all_eq_true.1 hall t hm)⟩)
    (by kernel_rfl)
#print axioms card_holds
end Go.Proofs.YtmdglgijbnidlaaDoor.numDivides
