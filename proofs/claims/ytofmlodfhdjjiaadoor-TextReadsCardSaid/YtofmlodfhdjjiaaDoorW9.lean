/- What is proved here: the walk of the law TextReads. Conditions: the listed variables hold what their initialisers lay ('Env'). -/
import Derived.Test.YtofmlodfhdjjiaaDoorKnown
import Derived.Test.YtofmlodfhdjjiaaDoorParR
namespace Go.Proofs.YtofmlodfhdjjiaaDoor
open Go.ChangeShapes Go.WideShapes Go.RowKit

set_option maxHeartbeats 4000000 in
set_option maxRecDepth 100000 in
theorem reads_walk (s t : ByteArray) (hs : s.size ≤ maxLen) (ht : t.size ≤ maxLen) (w : World) (hE : Env w) :
    Calls Tryd.prog 4 #[.string s, .string t] w fun e w' => e = .returned (.bool true) ∧ Below w.heap.size w w' := by
  have CK := Lib.hid known_any
  have HE := Lib.hid hE
  unfold maxLen at hs ht
  by_cases h1 : 3000 < s.size
  · have d1 : decide ((3000 : Int) < s.size) = true := by simp; omega
    go_enter Tryd.func4, Tryd.ntmps4
    go_wp2_with (go_at_call 10; refine (CK.out _ HE.out).mono ?_; rintro e w2 ⟨rfl, hb⟩)
    go_ret
    exact ⟨rfl, hb⟩
  by_cases h2 : 100 < t.size
  · have d1 : decide ((3000 : Int) < s.size) = false := by simp; omega
    have d2 : decide ((100 : Int) < t.size) = true := by simp; omega
    go_enter Tryd.func4, Tryd.ntmps4
    go_wp2_with (go_at_call 10; refine (CK.out _ HE.out).mono ?_; rintro e w2 ⟨rfl, hb⟩)
    go_ret
    exact ⟨rfl, hb⟩
  have d1 : decide ((3000 : Int) < s.size) = false := by simp; omega
  have d2 : decide ((100 : Int) < t.size) = false := by simp; omega
  obtain ⟨⟨L, E⟩, hX⟩ : ∃ r, r = parse s.data.toList := ⟨_, rfl⟩
  obtain ⟨⟨x, F⟩, hY⟩ : ∃ r, r = num t.data.toList := ⟨_, rfl⟩
  have hLl : L.length ≤ 200 := by
    by_cases hE0 : E = 0
    · subst hE0; exact (parse_back hX.symm).1
    · rw [parse_err hX.symm hE0]; simp
  have c1 := fun W h => parse_any s (by omega) W h
  have c2 := fun W => parseR_any s (by omega) W
  have c3 := fun W h => number_any t (by omega) W h
  have c4 := fun W => numberR_any t (by omega) W
  rw [← hX] at c1 c2
  rw [← hY] at c3 c4
  have C1 := Lib.hid c1
  have C2 := Lib.hid c2
  have C3 := Lib.hid c3
  have C4 := Lib.hid c4
  clear c1 c2 c3 c4 hX hY hE
  go_enter Tryd.func4, Tryd.ntmps4
  go_wp2_with fail
  refine (C1.out _ HE.out).mono ?_; rintro e w1 ⟨a1, n1, k1, rfl, hR, hb⟩
  have G := hb; clear hb
  have HR := Lib.hid hR; clear hR
  go_wp2_with fail
  refine (C2.out _).mono ?_; rintro e w2 ⟨a2, n2, k2, rfl, hR, hb⟩
  replace G := keep_below G hb; replace HR := Lib.hid (HR.out.below hb); clear hb
  have HM := Lib.hid hR; clear hR
  go_wp2_with fail
  refine (C3.out _ (HE.out.below G)).mono ?_; rintro e w3 ⟨rfl, hb⟩
  replace G := keep_below G hb; replace HR := Lib.hid (HR.out.below hb); replace HM := Lib.hid (HM.out.below hb); clear hb
  go_wp2_with fail
  refine (C4.out _).mono ?_; rintro e w4 ⟨rfl, hb⟩
  replace G := keep_below G hb; replace HR := Lib.hid (HR.out.below hb); replace HM := Lib.hid (HM.out.below hb); clear hb
  have l1 : n1 ≤ 1000000 := by have h1 : n1 = L.length := HR.out.1; omega
  have l2 : n2 ≤ 1000000 := by have h1 : n2 = L.length := HM.out.1; omega
  go_wp2_with fail
  refine (sameR_at (r := true) _ (by simp) HR.out HM.out l1 l2).mono ?_; rintro e w5 ⟨rfl, hb⟩
  replace G := keep_below G hb; clear hb HM HR
  go_wp2_with (go_at_call 10; refine (CK.out _ (HE.out.below G)).mono ?_; rintro e w7 ⟨rfl, hb7⟩)
  go_ret
  exact ⟨rfl, keep_below G hb7⟩
end Go.Proofs.YtofmlodfhdjjiaaDoor
