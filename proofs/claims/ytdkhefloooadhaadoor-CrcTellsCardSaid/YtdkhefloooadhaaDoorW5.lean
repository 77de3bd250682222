/- What is proved here: contracts of the document's Of, Seal and Open, and the walk of the law CrcTells. Conditions: each string of a contract has at most a million bytes; for the law the table of half bytes holds what it is laid as. -/
import Derived.Test.YtdkhefloooadhaaDoorRef
namespace Go.Proofs.YtdkhefloooadhaaDoor
open Go.ChangeShapes Go.WideShapes Go.RowKit

set_option maxRecDepth 100000 in
theorem ofR_any (s : ByteArray) (hs : s.size ≤ 1000000) (w : World) :
    Calls Tryd.prog 14 #[.string s] w fun e w' => e = .returned (.int .i64 (crc 0#16 s.data.toList).toNat) ∧ w = w' := by
  have c := Lib.hid (onR_any 0 s hs w)
  rw [show sm 0 = 0#16 by decide +kernel] at c
  go_enter Tryd.func14, Tryd.ntmps14
  go_wp2_with (go_at_call 16; refine c.out.mono ?_; rintro e w' ⟨rfl, rfl⟩)
  go_ret
  exact ⟨rfl, rfl⟩

set_option maxHeartbeats 1000000 in
set_option maxRecDepth 100000 in
theorem sealR_any (s : ByteArray) (hs : s.size ≤ 1000000) (w : World) :
    Calls Tryd.prog 18 #[.string s] w fun e w' => e = .returned (.string (bs (s.data.toList ++ sb s.data.toList))) ∧ Below w.heap.size w w' := by
  have C := Lib.hid (ofR_any s hs w)
  have HE : Hid (bs (s.data.toList ++ sb s.data.toList) = s ++ bs (sb s.data.toList)) := by
    show _ = _
    rw [← bs_of (s ++ _), app_list, bs_data]
  rw [HE.out]
  obtain ⟨c, hc⟩ : ∃ c, crc 0#16 s.data.toList = c := ⟨_, rfl⟩
  unfold sb
  rw [hc] at C ⊢
  have hcv := conv_two ((c.toNat : Int) / 256) ((c.toNat : Int) % 256) (hiB c) (loB c) (by rw [hiB_nat]; omega) (by rw [loB_nat]; omega) w
  obtain ⟨B, hB⟩ : ∃ B, bs [hiB c, loB c] = B := ⟨_, rfl⟩
  have hBs : B.size ≤ 2 := by rw [← hB, bs_size]; exact Nat.le_refl _
  rw [hB] at hcv ⊢
  clear hc hB HE
  go_enter Tryd.func18, Tryd.ntmps18
  go_wp2_with (go_at_call 14; refine C.out.mono ?_; rintro e w' ⟨rfl, rfl⟩)
  go_ret
  exact ⟨rfl, (Below.refl _ _).alloc (Nat.le_refl _) _⟩

set_option maxHeartbeats 2000000 in
set_option maxRecDepth 100000 in
theorem openR_any (s : ByteArray) (hs : s.size ≤ 1000000) (w : World) :
    Calls Tryd.prog 12 #[.string s] w fun e w' => e = .returned (.tuple #[.string (bs (opn s.data.toList).1), .int .i64 (opn s.data.toList).2]) ∧ Below w.heap.size w w' := by
  have hsz : s.data.toList.length = s.size := by simp
  by_cases h2 : s.size < 2
  · have H : Hid (opn s.data.toList = ([], 2)) := by show _ = _; unfold opn; rw [if_pos (by omega)]
    rw [H.out]
    clear hsz H
    go_enter Tryd.func12, Tryd.ntmps12
    go_wp2
    go_ret2
    exact ⟨rfl, Below.refl _ _⟩
  obtain ⟨m, hm⟩ : ∃ m : Nat, s.size = m + 2 := ⟨s.size - 2, by omega⟩
  have hX : (s.extract 0 m).data.toList = s.data.toList.take m := by rw [Lib.extract_data]; simp
  obtain ⟨X, hXe⟩ : ∃ X, s.extract 0 m = X := ⟨_, rfl⟩
  rw [hXe] at hX
  have hXs : X.size ≤ 1000000 := by rw [Lib.size_eq, hX, List.length_take]; omega
  have C := Lib.hid (fun W => sealR_any X hXs W)
  obtain ⟨B, hB⟩ : ∃ B, bs (X.data.toList ++ sb X.data.toList) = B := ⟨_, rfl⟩
  rw [hB] at C
  have hiff : B.data.toList = s.data.toList ↔ s.data.toList.drop m = sb X.data.toList := by
    rw [← hB, bs_data, hX]
    constructor
    · intro h
      have h1 := congrArg (List.drop m) h
      rw [← h1, List.drop_append_of_le_length (by rw [List.length_take]; omega), List.drop_of_length_le (by rw [List.length_take]; omega), List.nil_append]
    · intro h; rw [← h, List.take_append_drop]
  by_cases hq : s.data.toList.drop m = sb X.data.toList
  · have H : Hid (opn s.data.toList = (X.data.toList, 0)) := by
      show _ = _; unfold opn
      rw [if_neg (by omega), hsz, hm, show m + 2 - 2 = m by omega, ← hX, if_pos hq]
    rw [H.out]
    have hq2 : (B.toList == s.toList) = true := by rw [Lib.toList_data, Lib.toList_data, hiff.2 hq, beq_self_eq_true]
    have H2 : Hid (bs X.data.toList = X) := bs_of X
    clear hsz hq hB hX H hiff
    go_enter Tryd.func12, Tryd.ntmps12
    go_wp2_with fail
    refine (C.out _).mono ?_; rintro e w1 ⟨rfl, hb⟩
    go_wp2
    go_ret2
    exact ⟨by rw [H2.out]; rfl, hb⟩
  · have H : Hid (opn s.data.toList = ([], 5)) := by
      show _ = _; unfold opn
      rw [if_neg (by omega), hsz, hm, show m + 2 - 2 = m by omega, ← hX, if_neg hq]
    rw [H.out]
    have hq2 : (B.toList == s.toList) = false := by rw [Lib.toList_data, Lib.toList_data, beq_eq_false_iff_ne]; exact fun h => hq (hiff.1 h)
    clear hsz hq hB hX H hiff
    go_enter Tryd.func12, Tryd.ntmps12
    go_wp2_with fail
    refine (C.out _).mono ?_; rintro e w1 ⟨rfl, hb⟩
    go_wp2
    go_ret2
    exact ⟨rfl, hb⟩

set_option maxHeartbeats 1000000 in
set_option maxRecDepth 100000 in
theorem tells_walk (s : ByteArray) (sum : Int) (hs : s.size ≤ maxLen) (w : World) (hn : Hal w) :
    Calls Tryd.prog 3 #[.string s, .int .i64 sum] w fun e w' => e = .returned (.bool true) ∧ Below w.heap.size w w' := by
  replace hs : s.size ≤ 9223372036854775807 := hs
  have KN := Lib.hid known_any
  by_cases h1 : 1000 < s.size
  · go_enter Tryd.func3, Tryd.ntmps3
    go_wp2_with (go_at_call 10; refine (KN.out _ hn).mono ?_; rintro e w' ⟨rfl, hb⟩)
    go_ret
    exact ⟨rfl, hb⟩
  have h3 : s.size ≤ 1000 := by omega
  clear h1 hs
  have c1 := fun W h => open_any s (by omega) W h
  have c2 := fun W => openR_any s (by omega) W
  have c3 := fun W h => of_any s (by unfold maxLen; omega) W h
  have c4 := fun W => ofR_any s (by omega) W
  have c5 := fun W h => on_any sum s (by unfold maxLen; omega) W h
  have c6 := fun W => onR_any sum s (by omega) W
  have c7 := fun W h => sealed_any s (by omega) W h
  have c8 := fun W => sealR_any s (by omega) W
  obtain ⟨X, hX⟩ : ∃ X, bs (opn s.data.toList).1 = X := ⟨_, rfl⟩
  obtain ⟨E, hE⟩ : ∃ E, (opn s.data.toList).2 = E := ⟨_, rfl⟩
  obtain ⟨M, hM⟩ : ∃ M : Int, ((crc 0#16 s.data.toList).toNat : Int) = M := ⟨_, rfl⟩
  obtain ⟨N, hN⟩ : ∃ N : Int, ((crc (sm sum) s.data.toList).toNat : Int) = N := ⟨_, rfl⟩
  obtain ⟨S, hS⟩ : ∃ S, bs (s.data.toList ++ sb s.data.toList) = S := ⟨_, rfl⟩
  simp only [hX, hE, hM, hN, hS] at c1 c2 c3 c4 c5 c6 c7 c8
  have C1 := Lib.hid c1
  have C2 := Lib.hid c2
  have C3 := Lib.hid c3
  have C4 := Lib.hid c4
  have C5 := Lib.hid c5
  have C6 := Lib.hid c6
  have C7 := Lib.hid c7
  have C8 := Lib.hid c8
  clear c1 c2 c3 c4 c5 c6 c7 c8 hX hE hM hN hS
  have G := Below.refl w.heap.size w
  go_enter Tryd.func3, Tryd.ntmps3
  go_wp2_with fail
  refine (C1.out _ hn).mono ?_; rintro e w1 ⟨rfl, hb⟩
  replace G := G.trans (hb.mono G.size); replace hn := hn.below hb; clear hb
  go_wp2_with fail
  refine (C2.out _).mono ?_; rintro e w2 ⟨rfl, hb⟩
  replace G := G.trans (hb.mono G.size); replace hn := hn.below hb; clear hb
  go_wp2_with fail
  refine (C3.out _ hn).mono ?_; rintro e w' ⟨rfl, rfl⟩
  go_wp2_with fail
  refine (C4.out _).mono ?_; rintro e w' ⟨rfl, rfl⟩
  go_wp2_with fail
  refine (C5.out _ hn).mono ?_; rintro e w' ⟨rfl, rfl⟩
  go_wp2_with fail
  refine (C6.out _).mono ?_; rintro e w' ⟨rfl, rfl⟩
  go_wp2_with fail
  refine (C7.out _ hn).mono ?_; rintro e w3 ⟨rfl, hb⟩
  replace G := G.trans (hb.mono G.size); replace hn := hn.below hb; clear hb
  go_wp2_with fail
  refine (C8.out _).mono ?_; rintro e w4 ⟨rfl, hb⟩
  replace G := G.trans (hb.mono G.size); replace hn := hn.below hb; clear hb
  go_wp2_with fail
  refine (KN.out _ hn).mono ?_; rintro e w5 ⟨rfl, hb⟩
  replace G := G.trans (hb.mono G.size); clear hb
  go_wp2
  go_ret
  exact ⟨rfl, G⟩
end Go.Proofs.YtdkhefloooadhaaDoor
