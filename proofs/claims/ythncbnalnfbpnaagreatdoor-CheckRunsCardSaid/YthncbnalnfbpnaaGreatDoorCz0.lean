/- What is proved here: contracts of slices.Equal, Index and Contains at slices of ints. Conditions: rows are not too long. -/
import Derived.Test.YthncbnalnfbpnaaGreatDoorHi
import Derived.Test.YthncbnalnfbpnaaGreatDoorGi
namespace Go.Proofs.YthncbnalnfbpnaaGreatDoor
open Go.ChangeShapes Go.WideShapes Go.RowKit

theorem itake_same {l m : List Int} {q : Nat} {x : Int} (h1 : l[q]? = some x) (h2 : m[q]? = some x) (h : l.take q = m.take q) : l.take (q + 1) = m.take (q + 1) := by
  rw [take_cat h1, take_cat h2, h]
theorem irow_ne {l m : List Int} {q : Nat} {x y : Int} (h1 : l[q]? = some x) (h2 : m[q]? = some y) (h : x ≠ y) : decide (l = m) = false := by
  rw [decide_eq_false_iff_not]
  rintro rfl
  rw [h1] at h2
  exact h (Option.some.inj h2)
set_option maxHeartbeats 1000000 in
set_option maxRecDepth 100000 in
theorem equalI_any (a b : Option Addr) (n m c d : Nat) (L M : List Int) (w : World) (ha : Row w a n L) (hb : Row w b m M) (hn : n ≤ 140737488355328) (hm : m ≤ 140737488355328) :
    Calls Tryz.prog 107 #[.slice a n c, .slice b m d] w fun e w' => e = .returned (.bool (decide (L = M))) ∧ Below w.heap.size w w' := by
  obtain ⟨R, hR⟩ : ∃ R, R = decide (L = M) := ⟨_, rfl⟩
  rw [← hR]
  have HR := Lib.hid hR
  clear hR
  by_cases hnm : n ≠ m
  · have HQ : Hid (decide (L = M) = false) := by
      show _ = _
      rw [decide_eq_false_iff_not]
      rintro rfl
      exact hnm (ha.1.trans hb.1.symm)
    have e1 : (n == m) = false := by rw [beq_eq_false_iff_ne]; exact hnm
    have e2 : ((n : Int) == (m : Int)) = false := by rw [beq_eq_false_iff_ne]; omega
    have e3 : (n != m) = true := by simpa using hnm
    have e4 : ((n : Int) != (m : Int)) = true := by simpa [bne] using e2
    clear ha hb hnm
    go_enter Tryz.func107, Tryz.ntmps107
    go_wp2
    go_ret
    exact ⟨by rw [HR.out, HQ.out]; rfl, Below.refl _ _⟩
  obtain rfl : n = m := by omega
  clear hnm
  have HL := Lib.hid ha.1
  have HM := Lib.hid hb.1
  go_enter Tryz.func107, Tryz.ntmps107
  go_wp2
  go_loopw [13] (fun i wr => ∃ k : Nat, k ≤ n ∧ i = .int .i64 k ∧ Hid (L.take k = M.take k) ∧ Below w.heap.size w wr) (fun i _ => n - (intOf i).toNat)
  case atStart => exact ⟨0, by omega, rfl, rfl, Below.refl _ _⟩
  case round =>
    obtain ⟨k, hk, rfl, HT, hbl⟩ := hrel
    by_cases hlt : k < n
    · obtain ⟨b1, o1, p1, rfl, hB1, hx, hc1⟩ := (ha.below hbl).item hlt
      obtain ⟨b2, o2, q1, rfl, hB2, hy, hd1⟩ := (hb.below hbl).item hlt
      have HX := Lib.hid hx
      have HY := Lib.hid hy
      clear hx hy
      by_cases g1 : p1 = q1
      · subst g1
        have HT2 := Lib.hid (itake_same HX.out HY.out HT.out)
        clear HX HY HT
        go_wp2
        go_quiet (fail)
        go_wp2
        go_roundw
        case rel => exact ⟨k + 1, by omega, by go_num, HT2, hbl.trans ⟨rfl, rfl, rfl, Nat.le_refl _, fun _ _ => rfl⟩⟩
        case measure => simp [intOf]; omega
      · have HQ := Lib.hid (irow_ne HX.out HY.out g1)
        have e1 : (p1 == q1) = false := by rw [beq_eq_false_iff_ne]; exact g1
        clear HX HY HT g1
        go_wp2
        go_quiet (fail)
        go_wp2
        go_ret
        exact ⟨by rw [HR.out, HQ.out]; rfl, hbl.trans ⟨rfl, rfl, rfl, Nat.le_refl _, fun _ _ => rfl⟩⟩
    · have HQ : Hid (decide (L = M) = true) := by
        show _ = _
        rw [decide_eq_true_iff]
        have := HT.out
        rw [List.take_of_length_le (by rw [← HL.out]; omega), List.take_of_length_le (by rw [← HM.out]; omega)] at this
        exact this
      go_wp2
      go_ret
      exact ⟨by rw [HR.out, HQ.out]; rfl, hbl⟩
theorem contains_drop {l : List Int} {k : Nat} {y x : Int} (h : l[k]? = some y) : (l.drop k).contains x = ((x == y) || (l.drop (k + 1)).contains x) := by
  rw [take_cons_drop h, List.contains_cons]
set_option maxHeartbeats 1000000 in
set_option maxRecDepth 100000 in
theorem indexI_any (a : Option Addr) (n c : Nat) (L : List Int) (x : Int) (w : World) (hr : Row w a n L) (hn : n ≤ 140737488355328) :
    Calls Tryz.prog 154 #[.slice a n c, .int .i64 x] w fun e w' => ∃ i : Int, e = .returned (.int .i64 i) ∧ decide (0 ≤ i) = L.contains x ∧ Below w.heap.size w w' := by
  have HL := Lib.hid hr.1
  go_enter Tryz.func154, Tryz.ntmps154
  go_wp2
  go_loopw [8] (fun i wr => ∃ k : Nat, k ≤ n ∧ i = .int .i64 k ∧ Hid (L.contains x = (L.drop k).contains x) ∧ Below w.heap.size w wr) (fun i _ => n - (intOf i).toNat)
  case atStart => exact ⟨0, by omega, rfl, rfl, Below.refl _ _⟩
  case round =>
    obtain ⟨k, hk, rfl, HA, hbl⟩ := hrel
    by_cases hlt : k < n
    · obtain ⟨b1, o1, y, rfl, hB1, hx, hc1⟩ := (hr.below hbl).item hlt
      have HX := Lib.hid (contains_drop (x := x) hx)
      clear hx
      by_cases e : x = y
      · have HQ : Hid (L.contains x = true) := by show _ = _; rw [HA.out, HX.out, e]; simp
        have e1 : (x == y) = true := by simpa using e
        clear HA HX e
        go_wp2
        go_ret
        exact ⟨_, rfl, by rw [HQ.out]; simp, hbl⟩
      · have e1 : (x == y) = false := by simpa using e
        have HQ : Hid (L.contains x = (L.drop (k + 1)).contains x) := by
          show _ = _
          rw [HA.out, HX.out, e1, Bool.false_or]
        clear HA HX e
        go_wp2
        go_roundw
        case rel => exact ⟨k + 1, by omega, by go_num, HQ, hbl⟩
        case measure => simp [intOf]; omega
    · obtain rfl : k = n := by omega
      have HR : Hid (L.contains x = false) := by show _ = _; rw [HA.out, List.drop_of_length_le (by rw [HL.out]; exact Nat.le_refl _)]; rfl
      go_wp2
      go_ret
      exact ⟨_, rfl, by rw [HR.out]; rfl, hbl⟩
theorem containsI_any (a : Option Addr) (n c : Nat) (L : List Int) (x : Int) (w : World) (hr : Row w a n L) (hn : n ≤ 140737488355328) (r : Bool) (hq : L.contains x = r) :
    Calls Tryz.prog 138 #[.slice a n c, .int .i64 x] w fun e w' => e = .returned (.bool r) ∧ Below w.heap.size w w' := by
  have C := Lib.hid (indexI_any a n c L x w hr hn)
  have HQ := Lib.hid hq
  clear hr hn hq
  go_enter Tryz.func138, Tryz.ntmps138
  go_wp2_with (refine C.out.mono ?_; rintro e w2 ⟨i, rfl, hi0, hb2⟩; have hi := Lib.hid hi0; clear hi0)
  go_ret
  exact ⟨by rw [← HQ.out, ← hi.out]; rfl, hb2⟩
end Go.Proofs.YthncbnalnfbpnaaGreatDoor
