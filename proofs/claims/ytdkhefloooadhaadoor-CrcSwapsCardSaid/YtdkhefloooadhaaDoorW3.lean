/- What is proved here: the walk of the law CrcSwaps. Condition: the table of half bytes holds what it is laid as. -/
import Derived.Test.YtdkhefloooadhaaDoorW2
import Derived.RegionTactic
import Derived.ChangeAlike
import Derived.BigRegion
import Derived.Deep.RegionHeld3
namespace Go.Proofs.YtdkhefloooadhaaDoor
open Go.ChangeShapes Go.WideShapes Go.RowKit

theorem two_split (s : ByteArray) (j : Nat) (h : j + 1 < s.size) : s.data.toList = s.data.toList.take j ++ [s[j], s[j + 1]] ++ s.data.toList.drop (j + 2) := by
  have h1 : j < s.data.toList.length := by simpa using (show j < s.size by omega)
  have h2 : j + 1 < s.data.toList.length := by simpa using h
  have e : s.data.toList.drop j = s[j] :: s[j + 1] :: s.data.toList.drop (j + 2) := by
    rw [List.drop_eq_getElem_cons h1, List.drop_eq_getElem_cons h2]; rfl
  rw [List.append_assoc, List.cons_append, List.cons_append, List.nil_append, ← e, List.take_append_drop]

set_option maxHeartbeats 1000000 in
set_option maxRecDepth 100000 in
theorem swaps_walk (s : ByteArray) (k : Nat) (hs : s.size ≤ maxLen) (hk : k < 65536) (w : World) (hn : Hal w) :
    Calls Tryd.prog 8 #[.string s, .int .u16 k] w fun e w' => e = .returned (.bool true) ∧ Below w.heap.size w w' := by
  replace hs : s.size ≤ 9223372036854775807 := hs
  have KN := Lib.hid known_any
  by_cases h1 : s.size < 2
  · go_enter Tryd.func8, Tryd.ntmps8
    go_wp2_with (go_at_call 10; refine (KN.out _ hn).mono ?_; rintro e w' ⟨rfl, hb⟩)
    go_ret
    exact ⟨rfl, hb⟩
  by_cases h2 : 500 < s.size
  · go_enter Tryd.func8, Tryd.ntmps8
    go_wp2_with (go_at_call 10; refine (KN.out _ hn).mono ?_; rintro e w' ⟨rfl, hb⟩)
    go_ret
    exact ⟨rfl, hb⟩
  have h3 : s.size ≤ 500 := by omega
  have h4 : 2 ≤ s.size := by omega
  clear h1 h2 hs
  obtain ⟨j, hj⟩ : ∃ j : Nat, (k : Int) % ((s.size : Int) - 1) = j := ⟨((k : Int) % ((s.size : Int) - 1)).toNat, by have := Int.emod_nonneg (k : Int) (show ((s.size : Int) - 1) ≠ 0 by omega); omega⟩
  have hj2 : j + 1 < s.size := by have := Int.emod_lt_of_pos (k : Int) (show 0 < ((s.size : Int) - 1) by omega); omega
  have hj1 : j < s.size := by omega
  have c1 : (0 : Int) ≤ (j : Int) := by omega
  have c2 : (j : Int) < (s.size : Int) := by omega
  have c2' : (j : Int) ≤ (s.size : Int) := by omega
  have c3 : IntKind.i64.wrap ((j : Int) + 1) = (j : Int) + 1 := IntWalk.i64_in _ (by omega)
  have c4 : ((j : Int) + 1).toNat = j + 1 := by omega
  have c5 : (j : Int) + 1 < (s.size : Int) := by omega
  have c6 : IntKind.i64.wrap ((j : Int) + 2) = (j : Int) + 2 := IntWalk.i64_in _ (by omega)
  have c7 : ((j : Int) + 2).toNat = j + 2 := by omega
  have c8 : (j : Int) + 2 ≤ (s.size : Int) := by omega
  have c9 : (0 : Int) ≤ (j : Int) + 1 := by omega
  have c10 : (0 : Int) ≤ (j : Int) + 2 := by omega
  have hcv := conv_two s[j + 1].toNat s[j].toNat s[j + 1] s[j] rfl rfl w.drew
  obtain ⟨B, hB⟩ : ∃ B, bs [s[j + 1], s[j]] = B := ⟨_, rfl⟩
  rw [hB] at hcv
  replace hcv : (convert 32 9 (.slice (some ⟨w.heap.size, 0, none⟩) 2 2)).run Tryd.prog ((w.alloc (.cells #[.int .u8 s[j + 1].toNat, .int .u8 s[j].toNat] 5)).drew) = .ok (.string B) ((w.alloc (.cells #[.int .u8 s[j + 1].toNat, .int .u8 s[j].toNat] 5)).drew) := hcv
  have hBs : B.size ≤ 2 := by rw [← hB, bs_size]; exact Nat.le_refl _
  obtain ⟨P, hP⟩ : ∃ P, s.extract 0 j = P := ⟨_, rfl⟩
  obtain ⟨Q, hQ⟩ : ∃ Q, s.extract (j + 2) s.size = Q := ⟨_, rfl⟩
  have hPs : P.size ≤ 500 := by rw [← hP]; simp; omega
  have hQs : Q.size ≤ 500 := by rw [← hQ]; simp; omega
  have hPl : P.data.toList = s.data.toList.take j := by rw [← hP, Lib.extract_data]; simp
  have hQl : Q.data.toList = s.data.toList.drop (j + 2) := by
    rw [← hQ, Lib.extract_data, List.take_of_length_le]
    simp
  have hsl := two_split s j hj2
  obtain ⟨M, hM⟩ : ∃ M : Int, ((crc 0#16 (P ++ B ++ Q).data.toList).toNat : Int) = M := ⟨_, rfl⟩
  obtain ⟨N, hN⟩ : ∃ N : Int, ((crc 0#16 s.data.toList).toNat : Int) = N := ⟨_, rfl⟩
  have C1 := Lib.hid (of_at (s := P ++ B ++ Q) (n := M) (by simp; omega) hM)
  have C2 := Lib.hid (of_at (s := s) (n := N) (by omega) hN)
  obtain ⟨b, hMN, hxy⟩ : ∃ b : Bool, (M == N) = b ∧ ((s[j].toNat : Int) == (s[j + 1].toNat : Int)) = b := by
    have hiff : M = N ↔ s[j + 1] = s[j] := by
      have h := crc_mid (s.data.toList.take j) (s.data.toList.drop (j + 2)) s[j + 1] s[j] s[j] s[j + 1] 0#16
      rw [← hsl, show s.data.toList.take j ++ [s[j + 1], s[j]] ++ s.data.toList.drop (j + 2) = (P ++ B ++ Q).data.toList by rw [app_list, app_list, hPl, hQl, ← hB, bs_data]] at h
      rw [← hM, ← hN]
      constructor
      · intro e; exact (h.1 (BitVec.eq_of_toNat_eq (by omega))).1
      · intro e; rw [h.2 ⟨e, e.symm⟩]
    refine ⟨_, rfl, ?_⟩
    by_cases e : s[j + 1] = s[j]
    · rw [hiff.2 e, e]; simp
    · have e1 : M ≠ N := fun h => e (hiff.1 h)
      have e2 : (s[j].toNat : Int) ≠ s[j + 1].toNat := fun h => e (UInt8.toNat_inj.1 (by omega))
      rw [beq_eq_false_iff_ne.2 e1, beq_eq_false_iff_ne.2 e2]
  have G : Below w.heap.size w (w.alloc (.cells #[.int .u8 s[j + 1].toNat, .int .u8 s[j].toNat] 5)).drew := ((Below.refl _ _).alloc (Nat.le_refl _) _).drew
  clear hM hN hB hsl hPl hQl
  cases b
  all_goals
    go_enter Tryd.func8, Tryd.ntmps8
    go_wp2_with fail
    go_region
    clear hcv
    generalize (w.alloc (.cells #[.int .u8 s[j + 1].toNat, .int .u8 s[j].toNat] 5)).drew = w1 at G ⊢
    have hn1 : Hal w1.drew := hn.below G.drew
    have hn2 : Hal w1 := hn.below G
    go_wp2_with fail
    go_region_held3 (fun _ => True) (trivial) (first | (go_at_call 13; refine (C1.out _ hn1).mono ?_; rintro e w' ⟨rfl, rfl⟩) | (go_at_call 13; refine (C2.out _ hn1).mono ?_; rintro e w' ⟨rfl, rfl⟩) | (go_at_call 10; refine (KN.out _ hn1).mono ?_; rintro e w' ⟨rfl, hb⟩))
    all_goals
      go_wp2
      go_ret
      exact ⟨rfl, (G.drew).trans (hb.mono G.drew.size)⟩
end Go.Proofs.YtdkhefloooadhaaDoor
