/- What is proved here: the walk of the law TextNumbers. Conditions: the number fits; the listed variables hold what their initialisers lay ('Env'). -/
import Derived.Test.YtofmlodfhdjjiaaDoorKnown
namespace Go.Proofs.YtofmlodfhdjjiaaDoor
open Go.ChangeShapes Go.WideShapes Go.RowKit

theorem push_right (n : Int) : right (1, n, 0) = true := by
  show (kn 1 && (rA 1 n && rB 1 0)) = true
  have : rA 1 n = true := by unfold rA; rw [if_pos rfl]
  rw [this]; decide +kernel
theorem push_line (n : Int) : line (1, n, 0) = [80, 85, 83, 72, 32] ++ Lib.itoa n ++ [10] := by
  rw [line_right (push_right n)]
  have e : numsT (1, n, 0) = 32 :: Lib.itoa n := by
    show (if nargs 1 = 0 then [] else if nargs 1 = 1 then 32 :: Lib.itoa n else _) = _
    rw [if_neg (by decide +kernel), if_pos (by decide +kernel)]
  have e2 : (onm 1).data.toList = [80, 85, 83, 72] := by decide +kernel
  show ((onm 1).data.toList ++ numsT (1, n, 0)) ++ [10] = _
  rw [e, e2]; simp
theorem fits_push {n : Int} (h : Fits n) : FitsI (1, n, 0) := ⟨show Fits 1 from fits_small (by decide) (by decide), h, fits0⟩
set_option maxHeartbeats 4000000 in
set_option maxRecDepth 100000 in
theorem numbers_walk (n : Int) (hf : Fits n) (s : ByteArray) (hs : s.size ≤ maxLen) (w : World) (hE : Env w) :
    Calls Tryd.prog 6 #[.int .i64 n, .string s] w fun e w' => e = .returned (.bool true) ∧ Below w.heap.size w w' := by
  have CK := Lib.hid known_any
  have HE := Lib.hid hE
  unfold maxLen at hs
  by_cases h1 : 100 < s.size
  · have d1 : decide ((100 : Int) < s.size) = true := by simp; omega
    go_enter Tryd.func6, Tryd.ntmps6
    go_wp2_with (go_at_call 10; refine (CK.out _ HE.out).mono ?_; rintro e w2 ⟨rfl, hb⟩)
    go_ret
    exact ⟨rfl, hb⟩
  have d1 : decide ((100 : Int) < s.size) = false := by simp; omega
  obtain ⟨S, hS⟩ : ∃ S, S = bs ([80, 85, 83, 72, 32] ++ Lib.itoa n ++ [10]) := ⟨_, rfl⟩
  obtain ⟨k, hk⟩ : ∃ k, k = (Lib.itoa n).length := ⟨_, rfl⟩
  have hk1 : 1 ≤ k := by rw [hk]; exact List.length_pos_iff.2 (itoa_ne n)
  have hk2 : k ≤ 21 := by rw [hk]; exact itoa_len hf
  have hsz : S.size = k + 6 := by rw [hS, bs_size]; simp [hk]
  have x1 : S.extract 0 5 = ⟨#[80, 85, 83, 72, 32]⟩ := by
    rw [← bs_of (S.extract 0 5), take_of_extract, hS, bs_data]; simp [bs]
  have x2 : S.extract 5 (k + 5) = bs (Lib.itoa n) := by
    rw [← bs_of (S.extract 5 (k + 5)), Lib.extract_data, hS, bs_data]
    congr 1
    simp [hk]
  have x3 : S[k + 5]'(by omega) = 10 := by
    have h : S.data.toList[k + 5]'(by rw [← Lib.size_eq]; omega) = 10 := by
      simp only [hS, bs_data]
      rw [List.getElem_append_right (by simp [hk])]
      simp [hk]
    exact h
  have HS : Hid (line (1, n, 0) = S.data.toList) := by show _ = _; rw [push_line, hS, bs_data]
  have HN : Hid (num (bs (Lib.itoa n)).data.toList = (n, 0)) := by show _ = _; rw [bs_data, num_itoa hf]
  have b1 := build_at1
  have HF := Lib.hid (fits_push hf)
  have hk5 : k + 5 < S.size := by omega
  have x4 : S[k + 5] = 10 := x3
  clear x3
  clear hS hE hf
  clear hk
  go_enter Tryd.func6, Tryd.ntmps6
  go_wp2_with fail
  refine (line_at HF.out HS.out _ HE.out).mono ?_; rintro e w1 ⟨rfl, hb⟩
  have G := hb; clear hb
  go_wp2_with fail
  refine (number_at (by rw [bs_size]; have h : (Lib.itoa n).length ≤ 21 := itoa_len HF.out.2.1; omega) HN.out _ (HE.out.below G)).mono ?_; rintro e w2 ⟨rfl, hb⟩
  replace G := keep_below G hb; clear hb
  obtain ⟨⟨v, F⟩, hX⟩ : ∃ r, num s.data.toList = r := ⟨_, rfl⟩
  have HX := Lib.hid hX
  clear hX
  go_wp2_with fail
  refine (number_at (by omega) HX.out _ (HE.out.below G)).mono ?_; rintro e w3 ⟨rfl, hb⟩
  replace G := keep_below G hb; clear hb
  by_cases hF : F = 0
  · subst hF
    have hok := num_ok (l := s.data.toList) (by rw [HX.out])
    rw [HX.out] at hok
    simp only at hok
    have HFv := Lib.hid (fits_push hok.2)
    have HL : Hid (line (1, v, 0) = ((⟨#[80, 85, 83, 72, 32]⟩ ++ s) ++ ⟨#[10]⟩ : ByteArray).data.toList) := by
      show _ = _
      rw [push_line, hok.1, app_list, app_list]
    clear hok HX HN HS x1 x2 x4
    go_wp2_with fail
    refine (line_at HFv.out HL.out _ (HE.out.below G)).mono ?_; rintro e w4 ⟨rfl, hb⟩
    replace G := keep_below G hb; clear hb
    go_wp2_with (go_at_call 10; refine (CK.out _ (HE.out.below G)).mono ?_; rintro e w7 ⟨rfl, hb7⟩)
    go_ret
    exact ⟨rfl, keep_below G hb7⟩
  · have hbad := num_bad (l := s.data.toList) (by rw [HX.out]; exact hF)
    rw [HX.out] at hbad
    injection hbad with hv hF3
    subst hv hF3
    clear HX HN HS x1 x2 x4
    go_wp2_with (go_at_call 10; refine (CK.out _ (HE.out.below G)).mono ?_; rintro e w7 ⟨rfl, hb7⟩)
    go_ret
    exact ⟨rfl, keep_below G hb7⟩
end Go.Proofs.YtofmlodfhdjjiaaDoor
