/- What is proved here: the walk of the law TextParts, whole. Conditions: the rows fit; the listed variables hold what their initialisers lay ('Env'). -/
import Derived.Test.YtofmlodfhdjjiaaDoorW5a
namespace Go.Proofs.YtofmlodfhdjjiaaDoor
open Go.ChangeShapes Go.WideShapes Go.RowKit

set_option maxHeartbeats 4000000 in
set_option maxRecDepth 100000 in
theorem parts_walk (a b : Option Addr) (n m c d : Nat) (L M : List (Int × Int × Int)) (hnm : n ≤ maxLen) (hmm : m ≤ maxLen) (w : World) (hE : Env w) (ha : RowI w a n L) (hb : RowI w b m M) (hL : AllFitI L) (hM : AllFitI M) :
    Calls Tryd.prog 7 #[.slice a n c, .slice b m d] w fun e w' => e = .returned (.bool true) ∧ Below w.heap.size w w' := by
  have CK := Lib.hid known_any
  have HE := Lib.hid hE
  unfold maxLen at hnm hmm
  by_cases hbig : 200 < n + m ∧ n + m ≤ 9223372036854775807
  · clear ha hb
    have d1 : decide ((200 : Int) < (n : Int) + m) = true := by simp; omega
    have hw1 : IntKind.i64.wrap ((n : Int) + m) = (n : Int) + m := IntWalk.i64_in _ (by omega)
    go_enter Tryd.func7, Tryd.ntmps7
    go_wp2_with (go_at_call 10; refine (CK.out _ HE.out).mono ?_; rintro e w2 ⟨rfl, hb⟩)
    go_ret
    exact ⟨rfl, hb⟩
  have l1 := show_len hL
  have l2 := show_len hM
  by_cases hs : showL L = [] ∨ showL M = []
  · obtain ⟨y, hw1, d1⟩ : ∃ y : Int, IntKind.i64.wrap ((n : Int) + m) = y ∧ decide ((200 : Int) < y) = false := by
      by_cases hsm : n + m ≤ 200
      · exact ⟨(n : Int) + m, IntWalk.i64_in _ (by omega), by simp; omega⟩
      · refine ⟨(n : Int) + m - 18446744073709551616, ?_, by simp; omega⟩
        rw [IntKind.wrap_i64]
        omega
    obtain ⟨S, hS⟩ : ∃ S, S = bs (showL L) := ⟨_, rfl⟩
    obtain ⟨T, hT⟩ : ∃ T, T = bs (showL M) := ⟨_, rfl⟩
    have HS : Hid (showL L = S.data.toList) := by show _ = _; rw [hS, bs_data]
    have HT : Hid (showL M = T.data.toList) := by show _ = _; rw [hT, bs_data]
    have HA := Lib.hid ha
    have HB := Lib.hid hb
    have HFL := Lib.hid hL
    have HFM := Lib.hid hM
    obtain ⟨z1, i1⟩ : ∃ z, S.toList.isEmpty = z := ⟨_, rfl⟩
    have e1 : (S.toList == []) = z1 := by rw [← i1]; cases S.toList <;> rfl
    have i2 : z1 = false → T.toList.isEmpty = true := by
      intro hz
      rcases hs with h | h
      · rw [Lib.toList_data, hS, bs_data, h] at i1; rw [hz] at i1; cases i1
      · rw [Lib.toList_data, hT, bs_data, h]; rfl
    have e2 : z1 = false → (T.toList == []) = true := by
      intro hz
      have := i2 hz
      rw [List.isEmpty_iff] at this; rw [this]; rfl
    clear hs hS hT ha hb hL hM
    cases z1
    · replace i2 := i2 rfl
      replace e2 := e2 rfl
      go_enter Tryd.func7, Tryd.ntmps7
      go_wp2_with fail
      refine (show_at HFL.out HS.out _ HA.out HE.out).mono ?_; rintro e w1 ⟨rfl, hb⟩
      have G := hb
      replace HB := Lib.hid (HB.out.below hb); clear hb
      go_wp2_with fail
      refine (show_at HFM.out HT.out _ HB.out (HE.out.below G)).mono ?_; rintro e w2 ⟨rfl, hb⟩
      replace G := keep_below G hb; clear hb
      go_wp2_with (go_at_call 10; refine (CK.out _ (HE.out.below G)).mono ?_; rintro e w7 ⟨rfl, hb7⟩)
      go_ret
      exact ⟨rfl, keep_below G hb7⟩
    · clear i2 e2
      go_enter Tryd.func7, Tryd.ntmps7
      go_wp2_with fail
      refine (show_at HFL.out HS.out _ HA.out HE.out).mono ?_; rintro e w1 ⟨rfl, hb⟩
      have G := hb
      replace HB := Lib.hid (HB.out.below hb); clear hb
      go_wp2_with fail
      refine (show_at HFM.out HT.out _ HB.out (HE.out.below G)).mono ?_; rintro e w2 ⟨rfl, hb⟩
      replace G := keep_below G hb; clear hb
      go_wp2_with (go_at_call 10; refine (CK.out _ (HE.out.below G)).mono ?_; rintro e w7 ⟨rfl, hb7⟩)
      go_ret
      exact ⟨rfl, keep_below G hb7⟩
  · have h1 : showL L ≠ [] := fun e => hs (Or.inl e)
    have h2 : showL M ≠ [] := fun e => hs (Or.inr e)
    obtain ⟨p1, p2, p3⟩ := show_some h1
    obtain ⟨q1, q2, q3⟩ := show_some h2
    have hsm : n + m ≤ 200 := by
      have a1 := ha.1; have b1 := hb.1
      by_cases hsm : n + m ≤ 200
      · exact hsm
      · exact absurd ⟨by omega, by omega⟩ hbig
    have hn0 : 0 < n := by
      rw [ha.1]
      apply List.length_pos_iff.2
      rintro rfl
      exact h1 rfl
    have hm0 : 0 < m := by
      rw [hb.1]
      apply List.length_pos_iff.2
      rintro rfl
      exact h2 rfl
    have hX : parse (flatL L ++ flatL M) = (L ++ M, 0) := by
      rw [← flatL_append]
      refine parse_flat ?_ ?_ ?_
      · have a1 := ha.1; have b1 := hb.1; rw [List.length_append]; omega
      · rw [allR_append, p2, q2]; rfl
      · intro i hi
        rcases List.mem_append.1 hi with hi | hi
        · exact hL i hi
        · exact hM i hi
    have ne1 : (bs (showL L)).toList ≠ [] := by rw [Lib.toList_data, bs_data]; exact h1
    have ne2 : (bs (showL M)).toList ≠ [] := by rw [Lib.toList_data, bs_data]; exact h2
    refine parts_main a b n m c d L M (by omega) hn0 hm0 w hE ha hb hL hM (bs (showL L)) (bs (showL M)) (by rw [bs_size]; omega) (by rw [bs_size]; omega) (bs_data _).symm (bs_data _).symm ?_ ?_ (by simpa using ne1) (by simpa using ne2)
    · show _ = _
      rw [app_list, bs_data, bs_data, p3, q3]; exact hX
    · show _ = _
      rw [bs_data, p3, count_flat p2, ha.1]
end Go.Proofs.YtofmlodfhdjjiaaDoor
