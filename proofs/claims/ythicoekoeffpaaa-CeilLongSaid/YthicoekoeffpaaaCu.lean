/- What is proved here: contracts of the three tests that ceil.greatest is asked with. Conditions: those each theorem states. -/
import Derived.Test.YthicoekoeffpaaaGr
namespace Go.Proofs.Ythicoekoeffpaaa
open Go.ChangeShapes Go.WideShapes Go.RowKit

set_option maxHeartbeats 1000000 in
set_option maxRecDepth 100000 in
theorem hasBlock_any (k gl gb : Nat) (a : Option Addr) (n c : Nat) (L : List UsP) (b : Int) (w : World) (hl : w.cell? ⟨gl, 0, none⟩ = some (.slice a n c)) (hb : w.cell? ⟨gb, 0, none⟩ = some (.int .i64 b)) (hr : RowU w a n L) (hk : k < n) :
    Calls Try.prog 28 #[.int .i64 k, .pointer (some ⟨gl, 0, none⟩), .pointer (some ⟨gb, 0, none⟩)] w fun e w' => e = .returned (.bool ((uAt L k).bl.contains b)) ∧ Below w.heap.size w w' := by
  obtain ⟨b1, o1, u, xa, xn, xc, la, ln, lc, rfl, hB1, hx, ⟨hX, hXm⟩, _, h0, h1, h2⟩ := hr.item (Below.refl _ _) hk
  rw [uAt_some hx]
  clear hx hr
  obtain ⟨r, hq⟩ : ∃ r, u.bl.contains b = r := ⟨_, rfl⟩
  have C := Lib.hid (fun W (h : Below w.heap.size w W) => contains_any xa xn xc u.bl b W (hX.below h) hXm r hq)
  rw [hq]
  clear hq hX
  have i1 : (0 : Int) ≤ (k : Int) := by omega
  have i2 : (k : Int) < (n : Int) := by omega
  go_enter Try.func28, Try.ntmps28
  go_wp2
  go_quiet (exact Calls.quiet_of_same (C.out _ ⟨rfl, rfl, rfl, Nat.le_refl _, fun _ _ => rfl⟩))
  go_wp2
  go_ret
  exact ⟨rfl, ⟨rfl, rfl, rfl, Nat.le_refl _, fun _ _ => rfl⟩⟩
set_option maxHeartbeats 1000000 in
set_option maxRecDepth 100000 in
theorem keeps_any (k gu go gc : Nat) (p q : Int) (xa : Option Addr) (xn xc : Nat) (ca : Option Addr) (cn cc : Nat) (bl C : List Int) (w : World) (hu0 : w.cell? ⟨gu, 0, none⟩ = some (.int .i64 q)) (hu1 : w.cell? ⟨gu, 1, none⟩ = some (.slice xa xn xc))
    (ho : w.cell? ⟨go, 0, none⟩ = some (.int .i64 p)) (hc : w.cell? ⟨gc, 0, none⟩ = some (.slice ca cn cc)) (hX : Row w xa xn bl) (hC : Row w ca cn C) (hk : k < xn) (hb : ∀ b ∈ bl, 0 ≤ b ∧ b < cn) :
    Calls Try.prog 31 #[.int .i64 k, .pointer (some ⟨gu, 0, none⟩), .pointer (some ⟨go, 0, none⟩), .pointer (some ⟨gc, 0, none⟩)] w fun e w' => e = .returned (.bool (decide (q < p) && decide (p ≤ C.getD (bl.getD k 0).toNat 0))) ∧ Below w.heap.size w w' := by
  obtain ⟨b1, o1, b, rfl, hB1, hx, h1⟩ := hX.item hk
  obtain ⟨hb1, hb2⟩ := hb b (List.mem_of_getElem? hx)
  rw [getD_of hx]
  obtain ⟨m, rfl⟩ := Int.eq_ofNat_of_zero_le hb1
  have hm : m < cn := by omega
  obtain ⟨b2, o2, y, rfl, hB2, hy, h2⟩ := hC.item hm
  rw [show (Int.toNat (m : Int)) = m from rfl, getD_of hy]
  clear hx hy hX hC hb
  have i1 : (0 : Int) ≤ (k : Int) := by omega
  have i2 : (k : Int) < (xn : Int) := by omega
  have i3 : (0 : Int) ≤ (m : Int) := by omega
  have i4 : (m : Int) < (cn : Int) := by omega
  by_cases hq : q < p
  · have d1 : decide (q < p) = true := decide_eq_true hq
    by_cases hp : p ≤ y
    · have d2 : decide (p ≤ y) = true := decide_eq_true hp
      rw [d1, d2]
      go_enter Try.func31, Try.ntmps31
      go_wp2
      go_quiet (fail)
      go_wp2
      go_ret
      exact ⟨rfl, ⟨rfl, rfl, rfl, Nat.le_refl _, fun _ _ => rfl⟩⟩
    · have d2 : decide (p ≤ y) = false := decide_eq_false hp
      rw [d1, d2]
      go_enter Try.func31, Try.ntmps31
      go_wp2
      go_quiet (fail)
      go_wp2
      go_ret
      exact ⟨rfl, ⟨rfl, rfl, rfl, Nat.le_refl _, fun _ _ => rfl⟩⟩
  · have d1 : decide (q < p) = false := decide_eq_false hq
    rw [d1]
    go_enter Try.func31, Try.ntmps31
    go_wp2
    go_quiet (fail)
    go_wp2
    go_ret
    exact ⟨rfl, ⟨rfl, rfl, rfl, Nat.le_refl _, fun _ _ => rfl⟩⟩
end Go.Proofs.Ythicoekoeffpaaa
