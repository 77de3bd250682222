/- What is proved here: contracts of the document's Same (at the same lists), of the laws' light. Conditions: rows are not too long. -/
import Derived.Test.YtiibbeigkopkeaaRw
import Derived.Deep.QuietTactic
import Derived.BigQuiet
namespace Go.Proofs.Ytiibbeigkopkeaa
open Go.ChangeShapes Go.WideShapes Go.RowKit

set_option maxHeartbeats 1000000 in
set_option maxRecDepth 100000 in
theorem same_any (a b : Option Addr) (n m c d : Nat) (l : List Int) (w : World) (ha : Row w a n l) (hb : Row w b m l) (hn : n ≤ 1000000) :
    Calls Try.prog 20 #[.slice a n c, .slice b m d] w fun e w' => e = .returned (.bool true) ∧ Below w.heap.size w w' := by
  obtain rfl : m = n := hb.1.trans ha.1.symm
  go_enter Try.func20, Try.ntmps20
  go_wp2
  go_loopw [5] (fun i wr => ∃ k : Nat, k ≤ m ∧ i = .int .i64 k ∧ Below w.heap.size w wr) (fun i _ => m - (intOf i).toNat)
  case atStart => exact ⟨0, by omega, rfl, Below.refl _ _⟩
  case round =>
    obtain ⟨k, hk, rfl, hbl⟩ := hrel
    by_cases hlt : k < m
    · obtain ⟨b1, o1, rfl, hB1, hc1⟩ := ha.2 (by omega)
      obtain ⟨b2, o2, rfl, hB2, hc2⟩ := hb.2 (by omega)
      obtain ⟨x, hx⟩ : ∃ x, x = l.getD k 0 := ⟨_, rfl⟩
      have hcx : wr.cell? ⟨b1, o1 + k, none⟩ = some (.int .i64 x) := by rw [hx]; exact (hbl.cell (p := ⟨b1, o1 + k, none⟩) hB1).trans (hc1 k hlt)
      have hcy : wr.cell? ⟨b2, o2 + k, none⟩ = some (.int .i64 x) := by rw [hx]; exact (hbl.cell (p := ⟨b2, o2 + k, none⟩) hB2).trans (hc2 k hlt)
      clear hx hc1 hc2
      go_wp2
      go_quiet (fail)
      go_wp2
      go_roundw
      case rel => exact ⟨k + 1, by omega, by go_num, hbl.trans ⟨rfl, rfl, rfl, Nat.le_refl _, fun _ _ => rfl⟩⟩
      case measure => simp [intOf]; omega
    · go_wp2
      go_ret
      exact ⟨rfl, hbl⟩
/-- Rows that ask little. -/
def litU (u : RtR) : Bool := !(decide (20000 < u.D) && decide (u.D ≤ 1048576))
def litE (L : List RtR) : Bool := decide (L.length ≤ 20) && L.all litU
set_option maxHeartbeats 1000000 in
set_option maxRecDepth 100000 in
theorem light_any (a : Option Addr) (n c : Nat) (L : List RtR) (w : World) (hr : RowS w a n L) (hn : n ≤ 140737488355328) (r : Bool) (hq : litE L = r) :
    Calls Try.prog 9 #[.slice a n c] w fun e w' => e = .returned (.bool r) ∧ w' = w := by
  have HL := Lib.hid hr.1
  have HS : Hid ((decide (n ≤ 20) && (L.drop 0).all litU) = r) := by show _ = _; rw [← hq]; unfold litE; rw [hr.1]; rfl
  clear hq
  by_cases h20 : n ≤ 20
  · have d0 : decide (20 < (n : Int)) = false := decide_eq_false (by omega)
    have HS2 : Hid ((L.drop 0).all litU = r) := by have := HS.out; rw [decide_eq_true h20] at this; exact this
    have h20i : ¬ (20 : Int) < (n : Int) := by omega
    clear HS
    go_enter Try.func9, Try.ntmps9
    go_wp2
    go_loopw [3] (fun i wr => ∃ k : Nat, k ≤ n ∧ i = .int .i64 k ∧ Hid ((L.drop k).all litU = r) ∧ wr = w) (fun i _ => n - (intOf i).toNat)
    case atStart => exact ⟨0, by omega, rfl, HS2, rfl⟩
    case round =>
      obtain ⟨k, hk, rfl, HA, rfl⟩ := hrel
      by_cases hlt : k < n
      · obtain ⟨b1, o1, u, rfl, hB1, hx, h0, h1, h2, h3, h4, h5⟩ := hr.item (Below.refl _ _) hlt
        have HE := Lib.hid (all_step (f := litU) hx)
        clear hx h0 h1 h2 h4 h5
        have i1 : (0 : Int) ≤ (k : Int) := by omega
        have i2 : (k : Int) < (n : Int) := by omega
        by_cases h6 : 20000 < u.D
        · have q6 : decide (20000 < u.D) = true := decide_eq_true h6
          by_cases h7 : u.D ≤ 1048576
          · have q7 : decide (u.D ≤ 1048576) = true := decide_eq_true h7
            have HR : Hid (r = false) := by show _ = _; rw [← HA.out, HE.out]; unfold litU; rw [q6, q7]; rfl
            clear HA HE
            go_wp2
            go_ret
            exact ⟨by rw [HR.out]; rfl, rfl⟩
          · have q7 : decide (u.D ≤ 1048576) = false := decide_eq_false h7
            have HT : Hid ((L.drop (k + 1)).all litU = r) := by have := HA.out; rw [HE.out] at this; unfold litU at this; rw [q6, q7] at this; exact this
            clear HA HE
            go_wp2
            go_roundw
            case rel => exact ⟨k + 1, by omega, by go_num, HT, by trivial⟩
            case measure => simp [intOf]; omega
        · have q6 : decide (20000 < u.D) = false := decide_eq_false h6
          have HT : Hid ((L.drop (k + 1)).all litU = r) := by have := HA.out; rw [HE.out] at this; unfold litU at this; rw [q6] at this; exact this
          clear HA HE
          go_wp2
          go_roundw
          case rel => exact ⟨k + 1, by omega, by go_num, HT, by trivial⟩
          case measure => simp [intOf]; omega
      · obtain rfl : n = k := by omega
        have HR : Hid (r = true) := by show _ = _; rw [← HA.out, List.drop_of_length_le (by rw [HL.out]; exact Nat.le_refl _)]; rfl
        clear HA
        go_wp2
        go_ret
        exact ⟨by rw [HR.out]; rfl, rfl⟩
  · have d0 : decide (20 < (n : Int)) = true := decide_eq_true (by omega)
    have h20i : (20 : Int) < (n : Int) := by omega
    have HR : Hid (r = false) := by show _ = _; rw [← HS.out, decide_eq_false h20]; rfl
    clear HS
    go_enter Try.func9, Try.ntmps9
    go_wp2
    go_ret
    exact ⟨by rw [HR.out]; rfl, rfl⟩
end Go.Proofs.Ytiibbeigkopkeaa
