/- What is proved here: num.Name tells an operation's name, and the fixed calls of 'known' come out as asked. Condition: the table of names holds what its initialiser lays ('Nam'). -/
import Derived.Test.YtmdglgijbnidlaaDoorCalls
namespace Go.Proofs.YtmdglgijbnidlaaDoor
open Go.ChangeShapes Go.WideShapes Go.ChangeAt Go.RowKit

/-- The names, by their places in the table. -/
def nameOf (i : Nat) : ByteArray := ⟨([#[], #[65, 68, 68], #[83, 85, 66], #[77, 85, 76], #[68, 73, 86], #[77, 79, 68], #[65, 78, 68], #[79, 82], #[88, 79, 82], #[83, 72, 76], #[83, 72, 82], #[76, 84], #[69, 81]] : List (Array UInt8)).getD i #[]⟩
/-- The table of names lies in memory as its initialiser lays it. -/
def Nam (w : World) : Prop := 0 < w.heap.size ∧ ∀ i : Nat, i < 13 → w.cell? ⟨0, i, none⟩ = some (.string (nameOf i))
theorem nam_grown {w w' : World} (h : Nam w) (g : Grown w w') : Nam w' :=
  ⟨Nat.lt_of_lt_of_le h.1 g.2.2, fun i hi => (g.1.cell h.1 (fun x => x)).trans (h.2 i hi)⟩

theorem name_in (n : Nat) (s : ByteArray) (h1 : 1 ≤ n) (h2 : n ≤ 12) (w : World) (hc : w.cell? ⟨0, n, none⟩ = some (.string s)) :
    Calls Tryd.prog 17 #[.int .i64 n] w fun e w' => e = .returned (.string s) ∧ w = w' := by
  go_enter Tryd.func17, Tryd.ntmps17
  go_wp2
  go_ret
  exact ⟨rfl, rfl⟩
theorem name_low (op : Int) (h1 : op < 1) (w : World) :
    Calls Tryd.prog 17 #[.int .i64 op] w fun e w' => e = .returned (.string ⟨#[]⟩) ∧ w = w' := by
  go_enter Tryd.func17, Tryd.ntmps17
  go_wp2
  go_ret
  exact ⟨rfl, rfl⟩
theorem name_high (op : Int) (h1 : 12 < op) (w : World) :
    Calls Tryd.prog 17 #[.int .i64 op] w fun e w' => e = .returned (.string ⟨#[]⟩) ∧ w = w' := by
  go_enter Tryd.func17, Tryd.ntmps17
  go_wp2
  go_ret
  exact ⟨rfl, rfl⟩
/-- An operation's name, or none. -/
def nm (op : Int) : ByteArray := if 1 ≤ op ∧ op ≤ 12 then nameOf op.toNat else ⟨#[]⟩
theorem name_any (op : Int) (w : World) (hn : Nam w) :
    Calls Tryd.prog 17 #[.int .i64 op] w fun e w' => e = .returned (.string (nm op)) ∧ w = w' := by
  by_cases h : 1 ≤ op ∧ op ≤ 12
  · obtain ⟨n, rfl⟩ : ∃ n : Nat, op = n := ⟨op.toNat, by omega⟩
    have e : nm n = nameOf n := by unfold nm; rw [if_pos h]; rfl
    rw [e]
    exact name_in n _ (by omega) (by omega) w (hn.2 n (by omega))
  · have e : nm op = ⟨#[]⟩ := by unfold nm; rw [if_neg h]
    rw [e]
    by_cases h1 : op < 1
    · exact name_low op h1 w
    · exact name_high op (by omega) w

set_option maxRecDepth 100000 in
theorem known_any (w : World) (hn : Nam w) : Calls Tryd.prog 19 #[] w fun e w' => e = .returned (.bool true) ∧ Grown w w' := by
  have k1 : val 4 (-7) 2 = -3 := by decide +kernel
  have k2 : val 5 (-7) 2 = -1 := by decide +kernel
  have k3 : val 10 (-7) 1 = -4 := by decide +kernel
  have k4 : val 4 5 0 = 0 := by decide +kernel
  have k5 : val 1 9223372036854775807 1 = -9223372036854775808 := by decide +kernel
  have k6 : val 13 5 3 = 0 := by decide +kernel
  have l1 : bad 4 2 = false := by decide +kernel
  have l2 : bad 5 2 = false := by decide +kernel
  have l3 : bad 10 1 = false := by decide +kernel
  have l4 : bad 4 0 = true := by decide +kernel
  have l5 : bad 1 1 = false := by decide +kernel
  have l6 : bad 13 3 = true := by decide +kernel
  have m1 : wrap64 (-5) = -5 := by decide +kernel
  have m2 : b2i true = 1 := by decide +kernel
  have m3 : b2i false = 0 := by decide +kernel
  have m4 : nm 12 = ⟨#[69, 81]⟩ := by rfl
  have m5 : nm 0 = ⟨#[]⟩ := by rfl
  have G := Grown.refl w
  go_enter Tryd.func19, Tryd.ntmps19
  go_wp2_with (first
    | (go_at_call 11; refine (two_any _ _ _ _).mono ?_; rintro e w' ⟨rfl, hg⟩; replace hn := nam_grown hn hg; replace G := grown_trans G hg; clear hg)
    | (go_at_call 13; refine (neg_any _ _).mono ?_; rintro e w' ⟨rfl, rfl⟩)
    | (go_at_call 14; refine (not_any _ _).mono ?_; rintro e w' ⟨rfl, rfl⟩)
    | (go_at_call 16; refine (bool_any _ _).mono ?_; rintro e w' ⟨rfl, rfl⟩)
    | (go_at_call 17; refine (name_any _ _ hn).mono ?_; rintro e w' ⟨rfl, rfl⟩))
  go_ret
  exact ⟨rfl, G⟩
end Go.Proofs.YtmdglgijbnidlaaDoor
