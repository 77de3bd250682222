/- What is proved here: contracts of the document's own small tests on images: is a number in bounds, does a row rise, does a row hold a number. Conditions: rows are not too long. -/
import Derived.Test.YthncbnalnfbpnaaGreatDoorHj
import Derived.Test.YthncbnalnfbpnaaGreatDoorCz0
import Derived.Test.YthncbnalnfbpnaaGreatDoorCk
namespace Go.Proofs.YthncbnalnfbpnaaGreatDoor
open Go.ChangeShapes Go.WideShapes Go.RowKit

set_option maxRecDepth 100000 in
theorem inR_any (n lo hi : Int) (w : World) (r : Bool) (hq : inB n lo hi = r) :
    Calls Tryz.prog 52 #[.int .i64 n, .int .i64 lo, .int .i64 hi] w fun e w' => e = .returned (.bool r) ∧ w' = w := by
  have HQ := Lib.hid hq
  clear hq
  by_cases h1 : lo ≤ n
  · by_cases h2 : n ≤ hi
    · have HR : Hid (r = true) := by have := HQ.out; rw [inB_iff.2 ⟨h1, h2⟩] at this; exact this.symm
      have d1 : decide (lo ≤ n) = true := decide_eq_true h1
      have d2 : decide (n ≤ hi) = true := decide_eq_true h2
      clear HQ
      go_enter Tryz.func52, Tryz.ntmps52
      go_wp2
      go_ret
      exact ⟨by rw [HR.out]; rfl, rfl⟩
    · have HR : Hid (r = false) := by have := HQ.out; rw [inB_f (Or.inr (by omega))] at this; exact this.symm
      have d1 : decide (lo ≤ n) = true := decide_eq_true h1
      have d2 : decide (n ≤ hi) = false := decide_eq_false h2
      clear HQ
      go_enter Tryz.func52, Tryz.ntmps52
      go_wp2
      go_ret
      exact ⟨by rw [HR.out]; rfl, rfl⟩
  · have HR : Hid (r = false) := by have := HQ.out; rw [inB_f (Or.inl (by omega))] at this; exact this.symm
    have d1 : decide (lo ≤ n) = false := decide_eq_false h1
    clear HQ
    go_enter Tryz.func52, Tryz.ntmps52
    go_wp2
    go_ret
    exact ⟨by rw [HR.out]; rfl, rfl⟩
set_option maxHeartbeats 1000000 in
set_option maxRecDepth 100000 in
theorem hasR_any (a : Option Addr) (n c : Nat) (L : List Int) (x : Int) (w : World) (hr : Row w a n L) (hn : n ≤ 140737488355328) (r : Bool) (hq : L.contains x = r) :
    Calls Tryz.prog 56 #[.slice a n c, .int .i64 x] w fun e w' => e = .returned (.bool r) ∧ Below w.heap.size w w' := by
  have HL := Lib.hid hr.1
  have HQ : Hid ((L.drop 0).contains x = r) := hq
  clear hq
  go_enter Tryz.func56, Tryz.ntmps56
  go_wp2
  go_loopw [5] (fun i wr => ∃ k : Nat, k ≤ n ∧ i = .int .i64 k ∧ Hid ((L.drop k).contains x = r) ∧ Below w.heap.size w wr) (fun i _ => n - (intOf i).toNat)
  case atStart => exact ⟨0, by omega, rfl, HQ, Below.refl _ _⟩
  case round =>
    obtain ⟨k, hk, rfl, HS, hbl⟩ := hrel
    by_cases hlt : k < n
    · obtain ⟨b1, o1, p, rfl, hB1, hx, hc1⟩ := (hr.below hbl).item hlt
      have HE := Lib.hid (contains_drop (x := x) hx)
      clear hx
      by_cases g1 : p = x
      · subst g1
        have HR : Hid (r = true) := by have := HS.out; rw [HE.out, beq_self_eq_true, Bool.true_or] at this; exact this.symm
        go_wp2
        go_ret
        exact ⟨by rw [HR.out]; rfl, hbl⟩
      · have e1 : (p == x) = false := by rw [beq_eq_false_iff_ne]; exact g1
        have e2 : (x == p) = false := by rw [beq_eq_false_iff_ne]; exact fun h => g1 h.symm
        have HT : Hid ((L.drop (k + 1)).contains x = r) := by have := HS.out; rw [HE.out, e2, Bool.false_or] at this; exact this
        clear HS HE e2 g1
        go_wp2
        go_roundw
        case rel => exact ⟨k + 1, by omega, by go_num, HT, hbl⟩
        case measure => simp [intOf]; omega
    · obtain rfl : k = n := by omega
      have HR : Hid (r = false) := by have := HS.out; rw [List.drop_of_length_le (by rw [HL.out]; exact Nat.le_refl _)] at this; exact this.symm
      go_wp2
      go_ret
      exact ⟨by rw [HR.out]; rfl, hbl⟩
/-- What stands ahead of the place k of a row that rises: nothing, or its item. -/
def Ahead (L : List Int) (k : Nat) (A : Int) : Prop := (k = 0 ∧ A = -1) ∨ (0 < k ∧ L[k - 1]? = some A ∧ 0 ≤ A)
set_option maxHeartbeats 1000000 in
set_option maxRecDepth 100000 in
theorem risesR_any (a : Option Addr) (n c : Nat) (L : List Int) (room : Int) (w : World) (hr : Row w a n L) (hn : n ≤ 140737488355328) (r : Bool) (hq : riseE (-1) room L = r) :
    Calls Tryz.prog 111 #[.slice a n c, .int .i64 room] w fun e w' => e = .returned (.bool r) ∧ Below w.heap.size w w' := by
  have HL := Lib.hid hr.1
  have HQ := Lib.hid hq
  clear hq
  go_enter Tryz.func111, Tryz.ntmps111
  go_wp2
  go_loopw [5] (fun i wr => ∃ (k : Nat), k ≤ n ∧ i = .int .i64 k ∧ Hid (∃ A, Ahead L k A ∧ riseE A room (L.drop k) = r) ∧ Below w.heap.size w wr) (fun i _ => n - (intOf i).toNat)
  case atStart => exact ⟨0, by omega, rfl, ⟨-1, Or.inl ⟨rfl, rfl⟩, HQ.out⟩, Below.refl _ _⟩
  case round =>
    obtain ⟨k, hk, rfl, HS, hbl⟩ := hrel
    by_cases hlt : k < n
    · obtain ⟨A, hA, hS⟩ := HS.out
      clear HS
      obtain ⟨b1, o1, p, rfl, hB1, hx, hc1⟩ := (hr.below hbl).item hlt
      have hE := rise_step (A := A) (room := room) hx
      rw [hE] at hS
      have i1 : (0 : Int) ≤ (k : Int) := by omega
      have i2 : (k : Int) < (n : Int) := by omega
      have hA1 : -1 ≤ A := by rcases hA with ⟨_, h⟩ | ⟨_, _, h⟩ <;> omega
      by_cases h1 : p < 0
      · have HR : Hid (r = false) := by show _ = _; rw [← hS, decide_eq_false (p := A < p) (by omega)]; rfl
        have d1 : decide (p < 0) = true := decide_eq_true h1
        clear hA hS hE hx hA1
        go_wp2
        go_quiet (fail)
        go_wp2
        go_ret
        exact ⟨by rw [HR.out]; rfl, hbl.trans ⟨rfl, rfl, rfl, Nat.le_refl _, fun _ _ => rfl⟩⟩
      have d1 : decide (p < 0) = false := decide_eq_false h1
      by_cases h2 : room ≤ p
      · have HR : Hid (r = false) := by show _ = _; rw [← hS, decide_eq_false (p := p < room) (by omega), Bool.false_and, Bool.and_false]
        have d2 : decide (room ≤ p) = true := decide_eq_true h2
        clear hA hS hE hx hA1
        go_wp2
        go_quiet (fail)
        go_wp2
        go_ret
        exact ⟨by rw [HR.out]; rfl, hbl.trans ⟨rfl, rfl, rfl, Nat.le_refl _, fun _ _ => rfl⟩⟩
      have d2 : decide (room ≤ p) = false := decide_eq_false h2
      rw [decide_eq_true (p := p < room) (by omega), Bool.true_and] at hS
      rcases hA with ⟨rfl, hA⟩ | ⟨k0, hA, hA2⟩
      · have HT : Hid (∃ A, Ahead L (0 + 1) A ∧ riseE A room (L.drop (0 + 1)) = r) := by
          refine ⟨p, Or.inr ⟨by omega, hx, by omega⟩, ?_⟩
          rw [← hS, decide_eq_true (p := A < p) (by omega)]; rfl
        have hc1' : wr.cell? ⟨b1, o1, none⟩ = some (.int .i64 p) := hc1
        clear hS hE hx hA1 hA
        go_wp2
        go_quiet (fail)
        go_wp2
        go_roundw
        case rel => exact ⟨1, by omega, by go_num, HT, hbl.trans ⟨rfl, rfl, rfl, Nat.le_refl _, fun _ _ => rfl⟩⟩
        case measure => simp [intOf]; omega
      · obtain ⟨b2, o2, q, ea, hB2, hy, hc2⟩ := (hr.below hbl).item (k := k - 1) (by omega)
        obtain ⟨rfl, rfl⟩ : b1 = b2 ∧ o1 = o2 := by cases ea; exact ⟨rfl, rfl⟩
        obtain rfl : q = A := Option.some.inj (hy.symm.trans hA)
        obtain ⟨j, hj⟩ : ∃ j, j = k - 1 := ⟨k - 1, rfl⟩
        rw [← hj] at hc2
        have d3 : decide (0 < k) = true := decide_eq_true k0
        have w1 : IntKind.i64.wrap ((k : Int) - 1) = (j : Int) := (IntWalk.i64_in _ (by omega)).trans (by omega)
        have i3 : (0 : Int) ≤ (j : Int) := by omega
        have i4 : (j : Int) < (n : Int) := by omega
        by_cases h3 : p ≤ q
        · have HR : Hid (r = false) := by show _ = _; rw [← hS, decide_eq_false (p := q < p) (by omega)]; rfl
          have d4 : decide (p ≤ q) = true := decide_eq_true h3
          clear hA hS hE hx hA1 hy ea hj h1 h2 h3 k0 hA2
          go_wp2
          go_quiet (fail)
          go_wp2
          go_ret
          exact ⟨by rw [HR.out]; rfl, hbl.trans ⟨rfl, rfl, rfl, Nat.le_refl _, fun _ _ => rfl⟩⟩
        · have d4 : decide (p ≤ q) = false := decide_eq_false h3
          have HT : Hid (∃ A, Ahead L (k + 1) A ∧ riseE A room (L.drop (k + 1)) = r) := by
            refine ⟨p, Or.inr ⟨by omega, hx, by omega⟩, ?_⟩
            rw [← hS, decide_eq_true (p := q < p) (by omega)]; rfl
          clear hA hS hE hx hA1 hy ea hj h1 h2 h3 k0 hA2
          go_wp2
          go_quiet (fail)
          go_wp2
          go_roundw
          case rel => exact ⟨k + 1, by omega, by go_num, HT, hbl.trans ⟨rfl, rfl, rfl, Nat.le_refl _, fun _ _ => rfl⟩⟩
          case measure => simp [intOf]; omega
    · obtain rfl : k = n := by omega
      obtain ⟨A, hA, hS⟩ := HS.out
      have HR : Hid (r = true) := by show _ = _; rw [← hS, List.drop_of_length_le (by rw [HL.out]; exact Nat.le_refl _)]; rfl
      clear hS hA HS
      go_wp2
      go_ret
      exact ⟨by rw [HR.out]; rfl, hbl⟩
end Go.Proofs.YthncbnalnfbpnaaGreatDoor
