/- What is proved here: the walk of the law TextTwice. Conditions: the listed variables hold what their initialisers lay ('Env'). -/
import Derived.Test.YtofmlodfhdjjiaaDoorKnown
namespace Go.Proofs.YtofmlodfhdjjiaaDoor
open Go.ChangeShapes Go.WideShapes Go.RowKit

set_option maxHeartbeats 4000000 in
set_option maxRecDepth 100000 in
theorem twice_walk (s : ByteArray) (hs : s.size ≤ maxLen) (w : World) (hE : Env w) :
    Calls Tryd.prog 9 #[.string s] w fun e w' => e = .returned (.bool true) ∧ Below w.heap.size w w' := by
  have CK := Lib.hid known_any
  have HE := Lib.hid hE
  unfold maxLen at hs
  by_cases h1 : 2500 < s.size
  · have d1 : decide ((2500 : Int) < s.size) = true := by simp; omega
    go_enter Tryd.func9, Tryd.ntmps9
    go_wp2_with (go_at_call 10; refine (CK.out _ HE.out).mono ?_; rintro e w2 ⟨rfl, hb⟩)
    go_ret
    exact ⟨rfl, hb⟩
  have d1 : decide ((2500 : Int) < s.size) = false := by simp; omega
  obtain ⟨⟨L, E⟩, hX⟩ : ∃ r, parse s.data.toList = r := ⟨_, rfl⟩
  have HX := Lib.hid hX
  obtain ⟨⟨Y, F⟩, hY⟩ : ∃ r, parse (s ++ ⟨#[78, 79, 78, 69, 10]⟩ : ByteArray).data.toList = r := ⟨_, rfl⟩
  have hF : F ≠ 0 := by
    have := parse_none s.data.toList
    rw [app_list] at hY
    rw [show s.data.toList ++ [78, 79, 78, 69, 10] = s.data.toList ++ (⟨#[78, 79, 78, 69, 10]⟩ : ByteArray).data.toList from rfl, hY] at this
    exact this
  have hsz : (s ++ ⟨#[78, 79, 78, 69, 10]⟩ : ByteArray).size ≤ 1000000 := by
    rw [ByteArray.size_append]
    have : (⟨#[78, 79, 78, 69, 10]⟩ : ByteArray).size = 5 := rfl
    omega
  have CY : Hid (∀ W, Env W → Calls Tryd.prog 15 #[.string (s ++ ⟨#[78, 79, 78, 69, 10]⟩)] W (GotR (Y, F) W)) := fun W h => parse_at hsz hY W h
  have f1 : (F != 0) = true := by simpa using hF
  have f2 : (F == 0) = false := by simpa using hF
  clear hE hX hY hF hsz
  go_enter Tryd.func9, Tryd.ntmps9
  go_wp2_with fail
  refine (parse_at (by omega) HX.out _ HE.out).mono ?_; rintro e w1 ⟨a1, n1, c1, rfl, hR, hb⟩
  have G := hb; clear hb
  have HR := Lib.hid hR; clear hR
  go_wp2_with fail
  refine (CY.out _ (HE.out.below G)).mono ?_; rintro e w2 ⟨a2, n2, c2, rfl, hR, hb⟩
  replace G := keep_below G hb; replace HR := Lib.hid (HR.out.below hb); clear hb hR
  by_cases hE0 : E = 0
  · subst hE0
    have HB := Lib.hid (parse_back HX.out)
    have HXs : Hid (showL L = s.data.toList) := show_parse HX.out
    go_wp2_with fail
    refine (show_at HB.out.2.2.1 HXs.out _ HR.out (HE.out.below G)).mono ?_; rintro e w4 ⟨rfl, hb⟩
    replace G := keep_below G hb; replace HR := Lib.hid (HR.out.below hb); clear hb HXs
    go_wp2_with fail
    refine (parse_at (by omega) HX.out _ (HE.out.below G)).mono ?_; rintro e w5 ⟨a5, n5, c5, rfl, hR, hb⟩
    replace G := keep_below G hb; replace HR := Lib.hid (HR.out.below hb); clear hb
    have HM := Lib.hid hR; clear hR
    have hl1 : n1 ≤ 1000000 := by have h1 : n1 = L.length := HR.out.1; have h2 := HB.out.1; omega
    have hl2 : n5 ≤ 1000000 := by have h1 : n5 = L.length := HM.out.1; have h2 := HB.out.1; omega
    go_wp2_with fail
    refine (sameR_at (r := true) _ (by simp) HR.out HM.out hl1 hl2).mono ?_; rintro e w6 ⟨rfl, hb⟩
    replace G := keep_below G hb; clear hb HM HR
    go_wp2_with (go_at_call 10; refine (CK.out _ (HE.out.below G)).mono ?_; rintro e w7 ⟨rfl, hb7⟩)
    go_ret
    exact ⟨rfl, keep_below G hb7⟩
  · have hX0 := parse_err HX.out hE0
    have hn3 : n1 = 0 := by have := HR.out.1; rw [hX0] at this; exact this
    subst hn3
    have g1 : (E == 0) = false := by simpa using hE0
    have g2 : (E != 0) = true := by simpa using hE0
    clear HX hX0 HR
    go_wp2_with (go_at_call 10; refine (CK.out _ (HE.out.below G)).mono ?_; rintro e w7 ⟨rfl, hb7⟩)
    go_ret
    exact ⟨rfl, keep_below G hb7⟩
end Go.Proofs.YtofmlodfhdjjiaaDoor
