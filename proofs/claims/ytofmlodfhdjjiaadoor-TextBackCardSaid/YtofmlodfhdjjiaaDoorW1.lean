/- What is proved here: the walk of the law TextBack. Conditions: the rows fit; the listed variables hold what their initialisers lay ('Env'). -/
import Derived.Test.YtofmlodfhdjjiaaDoorKnown
namespace Go.Proofs.YtofmlodfhdjjiaaDoor
open Go.ChangeShapes Go.WideShapes Go.RowKit

set_option maxHeartbeats 4000000 in
set_option maxRecDepth 100000 in
theorem back_walk (a : Option Addr) (n c : Nat) (L : List (Int × Int × Int)) (s : ByteArray) (hs : s.size ≤ maxLen) (hnm : n ≤ maxLen) (w : World) (hE : Env w) (hr : RowI w a n L) (hf : AllFitI L) :
    Calls Tryd.prog 5 #[.slice a n c, .string s] w fun e w' => e = .returned (.bool true) ∧ Below w.heap.size w w' := by
  have CK := Lib.hid known_any
  have HE := Lib.hid hE
  unfold maxLen at hs hnm
  by_cases h1 : 250 < n
  · clear hr hf
    have d1 : decide ((250 : Int) < n) = true := by simp; omega
    go_enter Tryd.func5, Tryd.ntmps5
    go_wp2_with (go_at_call 10; refine (CK.out _ HE.out).mono ?_; rintro e w2 ⟨rfl, hb⟩)
    go_ret
    exact ⟨rfl, hb⟩
  by_cases h2 : 3000 < s.size
  · clear hr hf
    have d1 : decide ((250 : Int) < n) = false := by simp; omega
    have d2 : decide ((3000 : Int) < s.size) = true := by simp; omega
    go_enter Tryd.func5, Tryd.ntmps5
    go_wp2_with (go_at_call 10; refine (CK.out _ HE.out).mono ?_; rintro e w2 ⟨rfl, hb⟩)
    go_ret
    exact ⟨rfl, hb⟩
  have d1 : decide ((250 : Int) < n) = false := by simp; omega
  have d2 : decide ((3000 : Int) < s.size) = false := by simp; omega
  have HR0 := Lib.hid hr
  have HF := Lib.hid hf
  obtain ⟨S, hS⟩ : ∃ S, S = bs (showL L) := ⟨_, rfl⟩
  have HS : Hid (showL L = S.data.toList) := by show _ = _; rw [hS, bs_data]
  have hSl : S.size ≤ 1000000 := by rw [hS, bs_size]; have := show_len hf; omega
  obtain ⟨M, hM⟩ : ∃ M, M = (if L.length ≤ 200 ∧ allR L = true then L else []) := ⟨_, rfl⟩
  have HP : Hid (parse S.data.toList = (M, 0)) := by show _ = _; rw [← HS.out, parse_show hf, hM]
  obtain ⟨⟨X, F⟩, hX⟩ : ∃ r, parse s.data.toList = r := ⟨_, rfl⟩
  have HX := Lib.hid hX
  have hcase : (S.toList.isEmpty = true ∧ M = []) ∨ (S.toList.isEmpty = false ∧ M = L) := by
    by_cases he : showL L = []
    · left
      refine ⟨by rw [Lib.toList_data, ← HS.out, he]; rfl, ?_⟩
      have := HP.out
      rw [← HS.out, he, parse_nil] at this
      injection this with this; exact this.symm
    · right
      refine ⟨by rw [Lib.toList_data, ← HS.out]; simpa using he, ?_⟩
      obtain ⟨q1, q2, _⟩ := show_some he
      rw [hM, if_pos ⟨q1, q2⟩]
  clear hE hr hf hS hM hX
  go_enter Tryd.func5, Tryd.ntmps5
  go_wp2_with fail
  refine (show_at HF.out HS.out _ HR0.out HE.out).mono ?_; rintro e w1 ⟨rfl, hb⟩
  have G := hb
  have HR := Lib.hid (HR0.out.below hb); clear hb HR0
  go_wp2_with fail
  refine (parse_at hSl HP.out _ (HE.out.below G)).mono ?_; rintro e w2 ⟨a2, n2, c2, rfl, hR, hb⟩
  replace G := keep_below G hb; replace HR := Lib.hid (HR.out.below hb); clear hb
  have HM := Lib.hid hR; clear hR
  go_wp2_with fail
  refine (parse_at (by omega) HX.out _ (HE.out.below G)).mono ?_; rintro e w3 ⟨a3, n3, c3, rfl, hR, hb⟩
  replace G := keep_below G hb; replace HR := Lib.hid (HR.out.below hb); replace HM := Lib.hid (HM.out.below hb); clear hb
  have HXr := Lib.hid hR; clear hR
  have hfin : ∀ (W : World) (K : Prop), Below w.heap.size w W → (Below w.heap.size w W → K) → K := fun W K h k => k h
  clear hfin
  by_cases hF : F = 0
  · subst hF
    have HB := Lib.hid (parse_back HX.out)
    have HXs : Hid (showL X = s.data.toList) := show_parse HX.out
    go_wp2_with fail
    refine (show_at HB.out.2.2.1 HXs.out _ HXr.out (HE.out.below G)).mono ?_; rintro e w4 ⟨rfl, hb⟩
    replace G := keep_below G hb; replace HR := Lib.hid (HR.out.below hb); replace HM := Lib.hid (HM.out.below hb); clear hb HXr HB HXs HX
    rcases hcase with ⟨he, hM⟩ | ⟨he, hM⟩
    · have hn2 : n2 = 0 := by have := HM.out.1; rw [hM] at this; exact this
      subst hn2
      go_wp2_with (go_at_call 10; refine (CK.out _ (HE.out.below G)).mono ?_; rintro e w5 ⟨rfl, hb5⟩)
      go_ret
      exact ⟨rfl, keep_below G hb5⟩
    · have he2 : ¬ S.toList = [] := by intro h; rw [h] at he; cases he
      have he3 : (S.toList == []) = false := by simpa using he2
      subst hM
      have hn2 : n2 = n := by have h1 := HM.out.1; have h2 := HR.out.1; omega
      subst hn2
      have CS := Lib.hid (fun (W : World) (h : W = w4) => (by rw [h]; exact sameR_at (r := true) w4 (by simp) HM.out HR.out (by omega) (by omega) : Calls Tryd.prog 19 #[.slice a2 n2 c2, .slice a n2 c] W fun e w' => e = .returned (.bool true) ∧ Below W.heap.size W w'))
      go_wp2_with fail
      refine (CS.out _ rfl).mono ?_; rintro e w5 ⟨rfl, hb⟩
      replace G := keep_below G hb; clear hb HM HR CS
      go_wp2_with (go_at_call 10; refine (CK.out _ (HE.out.below G)).mono ?_; rintro e w6 ⟨rfl, hb6⟩)
      go_ret
      exact ⟨rfl, keep_below G hb6⟩
  · have hX0 := parse_err HX.out hF
    have hn3 : n3 = 0 := by have := HXr.out.1; rw [hX0] at this; exact this
    subst hn3
    have f1 : (F == 0) = false := by simpa using hF
    have f2 : (F != 0) = true := by simpa using hF
    clear HXr HX hX0
    rcases hcase with ⟨he, hM⟩ | ⟨he, hM⟩
    · have hn2 : n2 = 0 := by have := HM.out.1; rw [hM] at this; exact this
      subst hn2
      go_wp2_with (go_at_call 10; refine (CK.out _ (HE.out.below G)).mono ?_; rintro e w5 ⟨rfl, hb5⟩)
      go_ret
      exact ⟨rfl, keep_below G hb5⟩
    · have he2 : ¬ S.toList = [] := by intro h; rw [h] at he; cases he
      have he3 : (S.toList == []) = false := by simpa using he2
      subst hM
      have hn2 : n2 = n := by have h1 := HM.out.1; have h2 := HR.out.1; omega
      subst hn2
      have CS := Lib.hid (fun (W : World) (h : W = w3) => (by rw [h]; exact sameR_at (r := true) w3 (by simp) HM.out HR.out (by omega) (by omega) : Calls Tryd.prog 19 #[.slice a2 n2 c2, .slice a n2 c] W fun e w' => e = .returned (.bool true) ∧ Below W.heap.size W w'))
      go_wp2_with fail
      refine (CS.out _ rfl).mono ?_; rintro e w5 ⟨rfl, hb⟩
      replace G := keep_below G hb; clear hb HM HR CS
      go_wp2_with (go_at_call 10; refine (CK.out _ (HE.out.below G)).mono ?_; rintro e w6 ⟨rfl, hb6⟩)
      go_ret
      exact ⟨rfl, keep_below G hb6⟩
end Go.Proofs.YtofmlodfhdjjiaaDoor
