/- What is proved here: for every two numbers the law NumSides answers true. Condition: the package-level variable num.names starts as the program's text lays it (the card ties that to the text); code of other packages of the project could still write it. -/
import Derived.Test.YtmdglgijbnidlaaDoorLaid
import Derived.Test.YtmdglgijbnidlaaDoorTie
import Derived.Test.YtmdglgijbnidlaaDoorCards
import Derived.SevenTiedAt
import Derived.Lib.Hide
namespace Go.Proofs.YtmdglgijbnidlaaDoor.numSides
open Go Go.ChangeShapes Go.WideShapes Go.ChangeAt Go.WideMaps Go.WideElems Go.RowKit
set_option linter.unusedVariables false

theorem fit {a : Int} (h : (Lit.int .i64 a).wf = true) : fits a := by
  have := bounds_i64 h; unfold fits; omega

def opAt (k : Nat) : Int := ([1, 3, 6, 7, 8, 12] : List Int).getD k 0
def RowAt (w wr : World) : Prop := w.heap.size < wr.heap.size ∧ ∀ j : Nat, j < 6 → wr.cell? ⟨w.heap.size, j, none⟩ = some (.int .i64 (opAt j))
theorem row_grown {w a b : World} (h : RowAt w a) (g : Grown a b) : RowAt w b :=
  ⟨Nat.lt_of_lt_of_le h.1 g.2.2, fun j hj => (g.1.cell h.1 (fun x => x)).trans (h.2 j hj)⟩
theorem row_start (w : World) : RowAt w (w.alloc (Obj.cells #[Value.int IntKind.i64 1, Value.int IntKind.i64 3, Value.int IntKind.i64 6, Value.int IntKind.i64 7, Value.int IntKind.i64 8, Value.int IntKind.i64 12] 3)) := by
  refine ⟨by simp, fun j hj => ?_⟩
  match j, hj with
  | 0, _ => simp [opAt]
  | 1, _ => simp [opAt]
  | 2, _ => simp [opAt]
  | 3, _ => simp [opAt]
  | 4, _ => simp [opAt]
  | 5, _ => simp [opAt]
theorem bad_at (b : Int) (k : Nat) (h : k < 6) : bad (opAt k) b = false := by
  match k, h with
  | 0, _ => simp [bad, opAt]
  | 1, _ => simp [bad, opAt]
  | 2, _ => simp [bad, opAt]
  | 3, _ => simp [bad, opAt]
  | 4, _ => simp [bad, opAt]
  | 5, _ => simp [bad, opAt]
theorem sides_same {a b : Int} (ha : fits a) (hb : fits b) (k : Nat) (h : k < 6) : (val (opAt k) a b != val (opAt k) b a) = false := by
  have : val (opAt k) a b = val (opAt k) b a := by
    match k, h with
    | 0, _ => exact val_comm1
    | 1, _ => exact val_comm3
    | 2, _ => exact val_comm6 ha hb
    | 3, _ => exact val_comm7 ha hb
    | 4, _ => exact val_comm8 ha hb
    | 5, _ => exact val_comm12
  rw [this]; simp
theorem one_of (a b : Int) : (wrap64 (wrap64 (val 11 a b + val 11 b a) + val 12 a b) == 1) = true := by
  have : wrap64 (wrap64 (val 11 a b + val 11 b a) + val 12 a b) = 1 := by
    rw [val11, val11, val12]; unfold wrap64
    repeat' split
    all_goals omega
  rw [this]; rfl

set_option maxRecDepth 100000 in
theorem walk (a0 : Int) (a1 : Int) (w0 : (Lit.int .i64 a0).wf = true) (w1 : (Lit.int .i64 a1).wf = true) (w : World) (hn : Nam w) :
    Calls Tryd.prog 6 #[.int .i64 a0, .int .i64 a1] w fun e w' => e = .returned (.bool true) ∧ Grown w w' := by
  have G := Grown.refl w
  have ha : fits a0 := fit w0
  have hb : fits a1 := fit w1
  have hs : ∀ k : Nat, k < 6 → (val (opAt k) a0 a1 != val (opAt k) a1 a0) = false := fun k hk => sides_same ha hb k hk
  have t1 : (wrap64 (wrap64 (val 11 a0 a1 + val 11 a1 a0) + val 12 a0 a1) == 1) = true := one_of a0 a1
  have t2 : (val 1 (val 6 a0 a1) (val 7 a0 a1) == val 1 a0 a1) = true := by rw [both_sum ha hb]; simp
  have HS := Lib.hid hs
  have H1 := Lib.hid t1
  have H2 := Lib.hid t2
  clear w0 w1 ha hb hs t1 t2
  have R0 := row_start w
  go_enter Tryd.func6, Tryd.ntmps6
  go_wp2
  go_loopw [6] (fun i wr => ∃ k : Nat, k ≤ 6 ∧ i = .int .i64 k ∧ Grown w wr ∧ Nam wr ∧ RowAt w wr) (fun i _ => 6 - (intOf i).toNat)
  case atStart => exact ⟨0, Nat.zero_le _, rfl, G.alloc _ _, nam_grown hn ((Grown.refl _).alloc _ _), R0⟩
  case round =>
    clear G hn R0
    obtain ⟨k, hk, rfl, G, hn, R⟩ := hrel
    by_cases hlt : k < 6
    · have s1 := HS.out k hlt
      have s2 := bad_at a0 k hlt
      have s3 := bad_at a1 k hlt
      have hc := R.2 k hlt
      go_wp2_with (go_at_call 11; refine (two_any _ _ _ _).mono ?_; rintro e w' ⟨rfl, hg⟩; replace hn := nam_grown hn hg; replace G := grown_trans G hg; replace R := row_grown R hg; replace hc := R.2 k hlt; clear hg)
      go_roundw
      case rel => exact ⟨k + 1, by omega, by go_num, G, hn, R⟩
      case measure => simp [intOf]; omega
    · have t1 := H1.out
      have t2 := H2.out
      go_wp2_with (first
    | (go_at_call 11; refine (two_any _ _ _ _).mono ?_; rintro e w' ⟨rfl, hg⟩; replace hn := nam_grown hn hg; replace G := grown_trans G hg; clear hg)
    | (go_at_call 13; refine (neg_any _ _).mono ?_; rintro e w' ⟨rfl, rfl⟩)
    | (go_at_call 14; refine (not_any _ _).mono ?_; rintro e w' ⟨rfl, rfl⟩)
    | (go_at_call 16; refine (bool_any _ _).mono ?_; rintro e w' ⟨rfl, rfl⟩)
    | (go_at_call 17; refine (name_any _ _ hn).mono ?_; rintro e w' ⟨rfl, rfl⟩)
    | (go_at_call 19; refine (known_any _ hn).mono ?_; rintro e w' ⟨rfl, hg⟩; replace G := grown_trans G hg; clear hg))
      go_ret
      exact ⟨rfl, G⟩

set_option maxRecDepth 100000 in
theorem lifted (os : Os) (started : os.Started) (H : Type) (enc : TypeId × Value → H) :
    ReturnsInHanded {} Tryd.checked os 6 .any (fun w args => (Rows.numSidesSpec.pre enc Tryd.prog Tryd.f6 [] false w args ∧ laidMetH Tryd.prog laid1 w) ∧ sizedMet enc Tryd.prog Tryd.f6 (OpenSpec.ofChange Rows.numSidesSpec) false w args)
      (Rows.numSidesSpec.post enc Tryd.prog Tryd.f6 false true false false) := by
  refine returnsInHanded_of_change_and (C := Tryd.checked) (X := fun w _ => laidMetH Tryd.prog laid1 w) (fun _ _ _ hh h => h.of_heap hh) own started (by kernel_rfl) Tryd.func6
    (ChangeSpec.witness_shaped (enc := enc) (C := Tryd.checked) (os := os) (X := fun w _ => laidMetH Tryd.prog laid1 w) false (World.doorLaid Tryd.prog 400 os) #[.int .i64 0, .int .i64 0] 8 rfl (World.shaped_of_RefB (by kernel_rfl) (by kernel_rfl)) (by kernel_rfl) (by kernel_rfl) (by kernel_rfl) (door_met os _)) ?_
  intro W base args ds gs before hval0 hW _ _ hL _
  have hval : ∀ (j : Nat) t v, Tryd.f6.params[j]? = some t → args[j]? = some v → Value.okWide Tryd.prog W .any base t v := hval0
  have hW' := hW
  obtain ⟨p, q, hA0, hV, rfl, hfz, hnd⟩ := hW
  have hA : DataW.TrodAll enc Tryd.prog W 0 (fun _ => true) true Tryd.f6.params.toList args.toList ds p := hA0
  rw [Tryd.params6] at hA hval
  obtain ⟨v0, vs0, d0, ds0, p0, q0, hargs, rfl, rfl, h0, r0⟩ := trodAll_cons hA
  obtain ⟨v1, vs1, d1, ds1, p1, q1, rfl, rfl, rfl, h1, r1⟩ := trodAll_cons r0
  obtain ⟨rfl, rfl, rfl⟩ := trodAll_nil r1
  obtain rfl : args = #[v0, v1] := by cases args; simp_all
  obtain ⟨rfl, rfl⟩ := trodVars_none hV
  obtain ⟨a0, rfl, rfl, rfl, w0⟩ := open_int Tryd.underlying3 (hval 0 3 v0 rfl rfl) h0
  obtain ⟨a1, rfl, rfl, rfl, w1⟩ := open_int Tryd.underlying3 (hval 1 3 v1 rfl rfl) h1
  have hN := of_laid hL
  clear hA0 hval0
  simp only [List.append_nil] at hW'
  refine (walk a0 a1 w0 w1 W hN).mono fun e W' ⟨he, hg⟩ => ?_
  subst he
  exact ⟨_, rfl, post_of_same (pa := []) (pv := []) hW' (fun _ _ _ => (trodAll_cons_mk (shut_bool Tryd.underlying4 _) trodAll_mk0)) (fun sp _ => (trodAll_cons_mk (shut_int Tryd.underlying3 w0) (trodAll_cons_mk (shut_int Tryd.underlying3 w1) trodAll_mk0))) (fun _ _ => rfl) rfl
    (hg.frame _) hg.2.1 (ok_one (by kernel_rfl) rfl (okWide_bool_mk Tryd.underlying4 _))⟩

theorem said : Rows.NumSidesSaid :=
  OpenClaim.holds_of_wide 6 Tryd.f6 rfl rfl rfl rfl rfl rfl rfl ⟨rfl, rfl, rfl, rfl, rfl⟩ rfl rfl rfl rfl rfl (by kernel_rfl) Tryd.func6 (by kernel_rfl)
    (of_decide_eq_true (by kernel_rfl)) (by unfold Func.isWrapper; first | (rw [if_pos (by decide +kernel)]; kernel_rfl) | (rw [if_neg (by decide +kernel)]; exact ⟨rfl, rfl⟩))
    (fun os started H enc _ => lifted os started H enc)

theorem card_holds : Rows.NumSidesCardSaid :=
  Claim7.holds_tied_plain_at .later [] [.data] true (true, "10c0927908242dc53bb92db572e5e4fb73bca973df39c6481d68675944732c4a") false
    said (fun _ h => by cases h) (by kernel_rfl) (fun _ h => by cases h) numSides_row_tie rfl ⟨rfl, rfl⟩ (by kernel_rfl) rfl
    (fun f fn hf hfn => by
      obtain rfl : f = 6 := Option.some.inj ((show Tryd.prog.funcNamed "camshaft/camshaftlaw01.NumSides" = some 6 by kernel_rfl).symm.trans hf) |>.symm
      obtain rfl : fn = Tryd.f6 := (Option.some.inj (Tryd.func6.symm.trans hfn)).symm
      exact ⟨by kernel_rfl, fun j t ht => by
        rw [Tryd.params6] at ht
        have hm : t ∈ [3, 3] := by simpa using Array.mem_of_getElem? ht
        have hall : ([3, 3].all fun u => !Tryd.prog.wantsStandIn u) = true := by kernel_rfl
        exact (show Tryd.prog.wantsStandIn t = false by simpa using List.all_eq_true.1 hall t hm)⟩)
    (by kernel_rfl)
#print axioms card_holds
end Go.Proofs.YtmdglgijbnidlaaDoor.numSides
