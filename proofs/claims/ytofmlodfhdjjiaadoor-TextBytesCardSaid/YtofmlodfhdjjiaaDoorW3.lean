/- What is proved here: the walk of the law TextBytes. Conditions: the rows fit; the listed variables hold what their initialisers lay ('Env'). -/
import Derived.Test.YtofmlodfhdjjiaaDoorKnown
namespace Go.Proofs.YtofmlodfhdjjiaaDoor
open Go.ChangeShapes Go.WideShapes Go.RowKit

set_option maxHeartbeats 8000000 in
set_option maxRecDepth 100000 in
theorem bytes_main (a b : Option Addr) (n m c d : Nat) (L M X : List (Int × Int × Int)) (hn : n ≤ 200) (hm : m ≤ 200) (w : World) (HE : Hid (Env w)) (HA : Hid (RowI w a n L)) (HB : Hid (RowI w b m M)) (HFL : Hid (AllFitI L)) (HFM : Hid (AllFitI M)) (HFX : Hid (AllFitI X))
    (S T P Q : ByteArray) (hSl : S.size ≤ 1000000) (HS : Hid (showL L = S.data.toList)) (HT : Hid (showL M = T.data.toList)) (HP : Hid (cod L = P.data.toList)) (HQ : Hid (cod M = Q.data.toList)) (HX : Hid (parse S.data.toList = (X, 0))) (HXP : Hid (cod X = P.data.toList))
    (z1 z2 z3 : Bool) (e1 : (S.toList == []) = z1) (e2 : (P.toList == []) = z1) (e3 : (T.toList == []) = z2) (e4 : (Q.toList == []) = z2) (i1 : S.toList.isEmpty = z1) (i2 : P.toList.isEmpty = z1) (i3 : T.toList.isEmpty = z2) (i4 : Q.toList.isEmpty = z2) (e5 : (S.toList == T.toList) = z3) (e6 : (P.toList == Q.toList) = z3) :
    Calls Tryd.prog 8 #[.slice a n c, .slice b m d] w fun e w' => e = .returned (.bool true) ∧ Below w.heap.size w w' := by
  have CK := Lib.hid known_any
  have d1 : decide ((200 : Int) < n) = false := by simp; omega
  have d2 : decide ((200 : Int) < m) = false := by simp; omega
  cases z1 <;> cases z2 <;> cases z3
  all_goals
    go_enter Tryd.func8, Tryd.ntmps8
    go_wp2_with fail
    refine (show_at HFL.out HS.out _ HA.out HE.out).mono ?_; rintro e w1 ⟨rfl, hb⟩
    have G := hb
    replace HA := Lib.hid (HA.out.below hb); replace HB := Lib.hid (HB.out.below hb); clear hb
    go_wp2_with fail
    refine (show_at HFM.out HT.out _ HB.out (HE.out.below G)).mono ?_; rintro e w2 ⟨rfl, hb⟩
    replace G := keep_below G hb; replace HA := Lib.hid (HA.out.below hb); replace HB := Lib.hid (HB.out.below hb); clear hb
    go_wp2_with fail
    refine (code_at HFL.out HP.out _ HA.out (HE.out.below G)).mono ?_; rintro e w3 ⟨rfl, hb⟩
    replace G := keep_below G hb; replace HA := Lib.hid (HA.out.below hb); replace HB := Lib.hid (HB.out.below hb); clear hb
    go_wp2_with fail
    refine (code_at HFM.out HQ.out _ HB.out (HE.out.below G)).mono ?_; rintro e w4 ⟨rfl, hb⟩
    replace G := keep_below G hb; replace HA := Lib.hid (HA.out.below hb); replace HB := Lib.hid (HB.out.below hb); clear hb
    go_wp2_with fail
    refine (parse_at hSl HX.out _ (HE.out.below G)).mono ?_; rintro e w5 ⟨a5, n5, c5, rfl, hR, hb⟩
    replace G := keep_below G hb; replace HA := Lib.hid (HA.out.below hb); replace HB := Lib.hid (HB.out.below hb); clear hb
    have HR := Lib.hid hR; clear hR
    go_wp2_with fail
    refine (code_at HFX.out HXP.out _ HR.out (HE.out.below G)).mono ?_; rintro e w6 ⟨rfl, hb⟩
    replace G := keep_below G hb; replace HA := Lib.hid (HA.out.below hb); replace HB := Lib.hid (HB.out.below hb); clear hb HR
    go_wp2_with fail
    refine (code_at HFL.out HP.out _ HA.out (HE.out.below G)).mono ?_; rintro e w7 ⟨rfl, hb⟩
    replace G := keep_below G hb; replace HA := Lib.hid (HA.out.below hb); replace HB := Lib.hid (HB.out.below hb); clear hb
    go_wp2_with fail
    refine (code_at HFL.out HP.out _ HA.out (HE.out.below G)).mono ?_; rintro e w8 ⟨rfl, hb⟩
    replace G := keep_below G hb; replace HA := Lib.hid (HA.out.below hb); replace HB := Lib.hid (HB.out.below hb); clear hb
    go_wp2_with fail
    refine (code_at HFM.out HQ.out _ HB.out (HE.out.below G)).mono ?_; rintro e w9 ⟨rfl, hb⟩
    replace G := keep_below G hb; replace HA := Lib.hid (HA.out.below hb); replace HB := Lib.hid (HB.out.below hb); clear hb
    go_wp2_with (go_at_call 10; refine (CK.out _ (HE.out.below G)).mono ?_; rintro e w10 ⟨rfl, hb10⟩)
    go_ret
    exact ⟨rfl, keep_below G hb10⟩
theorem isE (S : ByteArray) : S.toList.isEmpty = (S.toList == []) := by cases S.toList <;> rfl
theorem nil_same {S P : ByteArray} (h : S.data.toList = [] ↔ P.data.toList = []) : (S.toList == []) = (P.toList == []) := by
  rw [Bool.eq_iff_iff, beq_iff_eq, beq_iff_eq, Lib.toList_data, Lib.toList_data]; exact h
theorem bytes_walk (a b : Option Addr) (n m c d : Nat) (L M : List (Int × Int × Int)) (hnm : n ≤ maxLen) (hmm : m ≤ maxLen) (w : World) (hE : Env w) (ha : RowI w a n L) (hb : RowI w b m M) (hL : AllFitI L) (hM : AllFitI M) :
    Calls Tryd.prog 8 #[.slice a n c, .slice b m d] w fun e w' => e = .returned (.bool true) ∧ Below w.heap.size w w' := by
  have CK := Lib.hid known_any
  have HE := Lib.hid hE
  unfold maxLen at hnm hmm
  by_cases h1 : 200 < n
  · clear ha hb
    have d1 : decide ((200 : Int) < n) = true := by simp; omega
    go_enter Tryd.func8, Tryd.ntmps8
    go_wp2_with (go_at_call 10; refine (CK.out _ HE.out).mono ?_; rintro e w2 ⟨rfl, hb⟩)
    go_ret
    exact ⟨rfl, hb⟩
  by_cases h2 : 200 < m
  · clear ha hb
    have d1 : decide ((200 : Int) < n) = false := by simp; omega
    have d2 : decide ((200 : Int) < m) = true := by simp; omega
    go_enter Tryd.func8, Tryd.ntmps8
    go_wp2_with (go_at_call 10; refine (CK.out _ HE.out).mono ?_; rintro e w2 ⟨rfl, hb⟩)
    go_ret
    exact ⟨rfl, hb⟩
  have hsl := show_len hL
  have e1 : (showL L = [] ↔ cod L = []) := show_cod
  have e2 : (showL M = [] ↔ cod M = []) := show_cod
  have e3 := show_same hL hM
  obtain ⟨X, hX, hXL⟩ : ∃ X, parse (showL L) = (X, 0) ∧ cod X = cod L := by
    refine ⟨_, parse_show hL, ?_⟩
    split
    · rfl
    · rename_i h
      have : cod L = [] := by unfold cod; rw [if_neg h]
      rw [this]; rfl
  have q1 : ((bs (showL L)).toList == []) = ((bs (cod L)).toList == []) := nil_same (by rw [bs_data, bs_data]; exact e1)
  have q2 : ((bs (showL M)).toList == []) = ((bs (cod M)).toList == []) := nil_same (by rw [bs_data, bs_data]; exact e2)
  have q3 : ((bs (showL L)).toList == (bs (showL M)).toList) = ((bs (cod L)).toList == (bs (cod M)).toList) := by
    rw [Bool.eq_iff_iff, beq_iff_eq, beq_iff_eq, Lib.toList_data, Lib.toList_data, Lib.toList_data, Lib.toList_data, bs_data, bs_data, bs_data, bs_data]; exact e3
  exact bytes_main a b n m c d L M X (by omega) (by omega) w hE ha hb hL hM (parse_back hX).2.2.1 (bs (showL L)) (bs (showL M)) (bs (cod L)) (bs (cod M)) (by rw [bs_size]; omega)
    (bs_data _).symm (bs_data _).symm (bs_data _).symm (bs_data _).symm (by show _ = _; rw [bs_data]; exact hX) (by show _ = _; rw [bs_data]; exact hXL)
    _ _ _ rfl q1.symm rfl q2.symm (isE _) ((isE _).trans q1.symm) (isE _) ((isE _).trans q2.symm) rfl q3.symm
end Go.Proofs.YtofmlodfhdjjiaaDoor
