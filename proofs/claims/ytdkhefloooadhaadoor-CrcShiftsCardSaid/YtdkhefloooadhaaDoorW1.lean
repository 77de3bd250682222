/- What is proved here: the walks of the laws CrcParts and CrcShifts. Condition: the table of half bytes holds what it is laid as. -/
import Derived.Test.YtdkhefloooadhaaDoorLaid
import Derived.Deep.OwnRows
import Derived.Laws.OwnMore
namespace Go.Proofs.YtdkhefloooadhaaDoor
open Go.ChangeShapes Go.WideShapes Go.RowKit

theorem sm_next (n : Int) : sm (wrap64 (n + 65536)) = sm n := by
  apply BitVec.eq_of_toNat_eq
  have h1 := sm_val (wrap64 (n + 65536))
  have h2 := sm_val n
  unfold wrap64 at h1 ⊢
  omega
theorem on_is {s : ByteArray} {m : Int} {c : BitVec 16} (hs : s.size ≤ 1000000) (h : crc (sm m) s.data.toList = c) (w : World) (hn : Hal w) :
    Calls Tryd.prog 15 #[.int .i64 m, .string s] w fun r w' => r = .returned (.int .i64 c.toNat) ∧ w = w' := by
  have := on_any m s (by unfold maxLen; omega) w hn
  rw [h] at this; exact this
theorem of_is {s : ByteArray} {c : BitVec 16} (hs : s.size ≤ 1000000) (h : crc 0#16 s.data.toList = c) (w : World) (hn : Hal w) :
    Calls Tryd.prog 13 #[.string s] w fun r w' => r = .returned (.int .i64 c.toNat) ∧ w = w' := by
  have := of_any s (by unfold maxLen; omega) w hn
  rw [h] at this; exact this

set_option maxHeartbeats 1000000 in
set_option maxRecDepth 100000 in
theorem parts_walk (sum : Int) (s t : ByteArray) (hs : s.size ≤ maxLen) (ht : t.size ≤ maxLen) (w : World) (hn : Hal w) :
    Calls Tryd.prog 7 #[.int .i64 sum, .string s, .string t] w fun e w' => e = .returned (.bool true) ∧ Below w.heap.size w w' := by
  replace hs : s.size ≤ 9223372036854775807 := hs
  replace ht : t.size ≤ 9223372036854775807 := ht
  have K := Lib.hid known_any
  by_cases h1 : 500 < s.size
  · go_enter Tryd.func7, Tryd.ntmps7
    go_wp2_with (go_at_call 10; refine (K.out _ hn).mono ?_; rintro e w' ⟨rfl, hb⟩)
    go_ret
    exact ⟨rfl, hb⟩
  by_cases h2 : 500 < t.size
  · go_enter Tryd.func7, Tryd.ntmps7
    go_wp2_with (go_at_call 10; refine (K.out _ hn).mono ?_; rintro e w' ⟨rfl, hb⟩)
    go_ret
    exact ⟨rfl, hb⟩
  have h3 : s.size ≤ 500 := by omega
  have h4 : t.size ≤ 500 := by omega
  clear h1 h2 hs ht
  obtain ⟨n, hN⟩ : ∃ n, crc (sm sum) s.data.toList = n := ⟨_, rfl⟩
  obtain ⟨m, hM⟩ : ∃ m, crc n t.data.toList = m := ⟨_, rfl⟩
  have C1 := Lib.hid (on_is (s := s) (m := sum) (by omega) hN)
  have C2 := Lib.hid (on_is (s := t) (m := n.toNat) (c := m) (by omega) (by rw [sm_nat]; exact hM))
  have C3 := Lib.hid (on_is (s := s ++ t) (m := sum) (c := m) (by simp; omega) (by rw [app_list, crc_append, hN, hM]))
  have hcv := fun W => conv_two ((n.toNat : Int) / 256) ((n.toNat : Int) % 256) (hiB n) (loB n) (by rw [hiB_nat]; omega) (by rw [loB_nat]; omega) W
  obtain ⟨B, hB⟩ : ∃ B, bs [hiB n, loB n] = B := ⟨_, rfl⟩
  have hBs : B.size ≤ 2 := by rw [← hB, bs_size]; exact Nat.le_refl _
  have C4 := Lib.hid (on_at (s := B) (m := n.toNat) (n := 0) (by omega) (by rw [sm_nat, ← hB, bs_data, crc_back]; rfl))
  have C5 := Lib.hid (on_is (s := s) (m := wrap64 (sum + 65536)) (c := n) (by omega) (by rw [sm_next]; exact hN))
  rw [hB] at hcv
  have HCV := Lib.hid hcv
  clear hN hM hB hcv
  have hcv := HCV.out w
  go_enter Tryd.func7, Tryd.ntmps7
  go_wp2_with fail
  refine (C1.out _ hn).mono ?_; rintro e w' ⟨rfl, rfl⟩
  go_wp2_with fail
  refine (C2.out _ hn).mono ?_; rintro e w' ⟨rfl, rfl⟩
  go_wp2_with fail
  have G : Below w.heap.size w (w.alloc (.cells #[.int .u8 ((n.toNat : Int) / 256), .int .u8 ((n.toNat : Int) % 256)] 5)) := (Below.refl _ _).alloc (Nat.le_refl _) _
  clear hcv HCV
  generalize w.alloc (.cells #[.int .u8 ((n.toNat : Int) / 256), .int .u8 ((n.toNat : Int) % 256)] 5) = w1 at G ⊢
  replace hn := hn.below G
  refine (C3.out _ hn).mono ?_; rintro e w' ⟨rfl, rfl⟩
  go_wp2_with fail
  refine (C4.out _ hn).mono ?_; rintro e w' ⟨rfl, rfl⟩
  go_wp2_with fail
  refine (C5.out _ hn).mono ?_; rintro e w' ⟨rfl, rfl⟩
  go_wp2_with fail
  refine (K.out _ hn).mono ?_; rintro e w' ⟨rfl, hb⟩
  go_wp2
  go_ret
  exact ⟨rfl, G.trans (hb.mono G.size)⟩

theorem u8_info : (Tryd.prog.info? 5).map (fun i => (i.zero, i.size, i.bytes)) = some (some (.int .u8 0), 1, 1) := by kernel_rfl
/-- string(make([]byte, k)). -/
theorem conv_zeros (k : Nat) : ∀ W : World,
    (convert 32 9 (.slice (some ⟨W.heap.size, 0, none⟩) k k)).run Tryd.prog (W.alloc (.cells (madeCells #[.int .u8 0] k) 5)) = .ok (.string (bs (List.replicate k 0))) (W.alloc (.cells (madeCells #[.int .u8 0] k) 5)) := fun W => by
  have h := run_convert_bytes_back (P := Tryd.prog) (W.alloc (.cells (madeCells #[.int .u8 0] k) 5)) 32 9 5 ⟨W.heap.size, 0, none⟩ k (List.replicate k 0) Tryd.underlying32 Tryd.underlying5 Tryd.underlying9 (fun j hj => by
    have hj2 : j < k := by simpa using hj
    have e : (⟨W.heap.size, 0, none⟩ : Addr).add j = ⟨W.heap.size, j, none⟩ := by
      by_cases h0 : j = 0
      · subst h0; rfl
      · simp [Addr.add, h0]
    rw [e, World.cell?_alloc_mark]
    rw [← Array.getElem?_toList, toList_madeCells_one]
    simp [hj2])
  rw [List.length_replicate] at h
  exact h

set_option maxHeartbeats 1000000 in
set_option maxRecDepth 100000 in
theorem shifts_walk (s : ByteArray) (k : Nat) (sum : Int) (hs : s.size ≤ maxLen) (hk : k < 256) (w : World) (hn : Hal w) :
    Calls Tryd.prog 6 #[.string s, .int .u8 k, .int .i64 sum] w fun e w' => e = .returned (.bool true) ∧ Below w.heap.size w w' := by
  replace hs : s.size ≤ 9223372036854775807 := hs
  have KN := Lib.hid known_any
  by_cases h1 : 500 < s.size
  · go_enter Tryd.func6, Tryd.ntmps6
    go_wp2_with (go_at_call 10; refine (KN.out _ hn).mono ?_; rintro e w' ⟨rfl, hb⟩)
    go_ret
    exact ⟨rfl, hb⟩
  have h3 : s.size ≤ 500 := by omega
  clear h1 hs
  have hmk := run_make_row' (P := Tryd.prog) 32 5 (.int .u8 0) 1 Tryd.underlying32 u8_info rfl .u8 .u8 k (by omega) (by omega) w
  have hcv := conv_zeros k w
  obtain ⟨B, hB⟩ : ∃ B, bs (List.replicate k 0) = B := ⟨_, rfl⟩
  rw [hB] at hcv
  have hBs : B.size ≤ 256 := by rw [← hB, bs_size, List.length_replicate]; omega
  have G : Below w.heap.size w (w.alloc (.cells (madeCells #[.int .u8 0] k) 5)) := (Below.refl _ _).alloc (Nat.le_refl _) _
  obtain ⟨w1, hw1⟩ : ∃ w1, w.alloc (.cells (madeCells #[.int .u8 0] k) 5) = w1 := ⟨_, rfl⟩
  rw [hw1] at hmk hcv G
  obtain ⟨n, hN⟩ : ∃ n, crc (sm sum) s.data.toList = n := ⟨_, rfl⟩
  obtain ⟨m, hM⟩ : ∃ m, crc 0#16 s.data.toList = m := ⟨_, rfl⟩
  obtain ⟨N, hN2⟩ : ∃ N : Int, (n.toNat : Int) = N := ⟨_, rfl⟩
  have C1 := Lib.hid (on_at (s := s) (m := sum) (n := N) (by omega) (by rw [hN, hN2]))
  have hN0 : 0 ≤ N := by omega
  have hN1 : N < 65536 := by have := n.isLt; omega
  have C2 := Lib.hid (of_is (s := B ++ s) (c := m) (by simp; omega) (by rw [app_list, crc_append, ← hB, bs_data, crc_zeros, hM]))
  have C3 := Lib.hid (of_is (s := s) (c := m) (by omega) hM)
  have C4 := Lib.hid (on_at (s := ⟨#[]⟩) (m := N) (n := N) (by decide) (by rw [← hN2, sm_nat]; rfl))
  have hn1 := hn.below G
  clear hN hN2 hM hB hw1 hn
  go_enter Tryd.func6, Tryd.ntmps6
  go_wp2_with fail
  refine (C1.out _ hn1).mono ?_; rintro e w' ⟨rfl, rfl⟩
  go_wp2_with fail
  refine (C2.out _ hn1).mono ?_; rintro e w' ⟨rfl, rfl⟩
  go_wp2_with fail
  refine (C3.out _ hn1).mono ?_; rintro e w' ⟨rfl, rfl⟩
  go_wp2_with fail
  refine (C4.out _ hn1).mono ?_; rintro e w' ⟨rfl, rfl⟩
  go_wp2_with fail
  refine (KN.out _ hn1).mono ?_; rintro e w' ⟨rfl, hb⟩
  go_wp2
  go_ret
  exact ⟨rfl, G.trans (hb.mono G.size)⟩
end Go.Proofs.YtdkhefloooadhaaDoor
