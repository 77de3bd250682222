/- What is proved here: plain facts on which instructions can be. Conditions: none beyond those each theorem states. -/
import Derived.Test.YtkkoekfdncoifaaDoorChecked
import Derived.WalkKit
import Derived.Lib.BitFns
import Derived.Lib.Hide
import Derived.Lib.Small
import Derived.Lib.Walk
import Derived.Laws.BitsAllLaws
import Derived.Outline
import Derived.Deep.LoopGhost
import Derived.WalkSpells
import Derived.Deep.QuietTactic
import Derived.BigQuiet
namespace Go.Proofs.YtkkoekfdncoifaaDoor

/-- Is a number one of the operations? -/
def kn (o : Int) : Bool := decide (1 ≤ o ∧ o ≤ 25)
/-- How many numbers an operation has. -/
def nargs (o : Int) : Nat :=
  if o = 1 ∨ o = 5 ∨ (11 ≤ o ∧ o ≤ 16) ∨ (19 ≤ o ∧ o ≤ 21) ∨ o = 23 ∨ o = 24 then 1 else if o = 17 ∨ o = 18 then 2 else 0
def argsOf (o : Int) : Int := if kn o then nargs o else -1
/-- Is a number in its room? -/
def pl (a m : Int) : Bool := decide (0 ≤ a ∧ a < m)
def rA (o a : Int) : Bool :=
  if o = 1 then true else if o = 5 then decide (1 ≤ a ∧ a ≤ 12)
  else if (11 ≤ o ∧ o ≤ 14) ∨ o = 17 ∨ o = 18 ∨ o = 23 ∨ o = 24 then pl a 8
  else if o = 15 ∨ o = 16 then pl a 16 else if o = 19 ∨ o = 20 then pl a 200
  else if o = 21 then decide (1 ≤ a ∧ a ≤ 1000) else a == 0
def rB (o b : Int) : Bool := if o = 17 ∨ o = 18 then pl b 8 else b == 0
/-- Can an instruction be? -/
def right (i : Int × Int × Int) : Bool := kn i.1 && (rA i.1 i.2.1 && rB i.1 i.2.2)
theorem kn_iff {o : Int} : kn o = true ↔ 1 ≤ o ∧ o ≤ 25 := by unfold kn; simp
theorem pl_iff {a m : Int} : pl a m = true ↔ 0 ≤ a ∧ a < m := by unfold pl; simp
theorem right_kn {i : Int × Int × Int} (h : right i = true) : 1 ≤ i.1 ∧ i.1 ≤ 25 := by
  unfold right at h; simp only [Bool.and_eq_true] at h; exact kn_iff.1 h.1
theorem rA_small {o a : Int} (h : rA o a = true) (h1 : o ≠ 1) : 0 ≤ a ∧ a ≤ 1000 := by
  unfold rA at h
  rw [if_neg h1] at h
  split at h
  · have := of_decide_eq_true h; omega
  · split at h
    · have := pl_iff.1 h; omega
    · split at h
      · have := pl_iff.1 h; omega
      · split at h
        · have := pl_iff.1 h; omega
        · split at h
          · have := of_decide_eq_true h; omega
          · have := eq_of_beq h; omega
theorem rB_small {o b : Int} (h : rB o b = true) : 0 ≤ b ∧ b ≤ 7 := by
  unfold rB at h
  split at h
  · have := pl_iff.1 h; omega
  · have := eq_of_beq h; omega
theorem nargs_le (o : Int) : nargs o ≤ 2 := by unfold nargs; split; · omega
                                               · split <;> omega
theorem rA_zero {o a : Int} (hk : 1 ≤ o ∧ o ≤ 25) (h : rA o a = true) (hn : nargs o = 0) : a = 0 := by
  unfold nargs at hn
  split at hn
  · omega
  · rename_i h1
    split at hn
    · omega
    · rename_i h2
      unfold rA at h
      rw [if_neg (by omega), if_neg (by omega), if_neg (by omega), if_neg (by omega), if_neg (by omega), if_neg (by omega)] at h
      exact eq_of_beq h
theorem rB_zero {o b : Int} (h : rB o b = true) (hn : nargs o ≤ 1) : b = 0 := by
  unfold rB at h
  split at h
  · rename_i h1
    unfold nargs at hn
    rw [if_neg (by omega), if_pos h1] at hn; omega
  · exact eq_of_beq h
theorem right_parts {i : Int × Int × Int} (h : right i = true) : kn i.1 = true ∧ rA i.1 i.2.1 = true ∧ rB i.1 i.2.2 = true := by
  unfold right at h; simp only [Bool.and_eq_true] at h; exact h
theorem right_none {i : Int × Int × Int} (h : right i = true) (hn : nargs i.1 = 0) : i.2.1 = 0 ∧ i.2.2 = 0 := by
  obtain ⟨h1, h2, h3⟩ := right_parts h
  exact ⟨rA_zero (kn_iff.1 h1) h2 hn, rB_zero h3 (by omega)⟩
theorem right_one {i : Int × Int × Int} (h : right i = true) (hn : nargs i.1 = 1) : i.2.2 = 0 := by
  obtain ⟨h1, h2, h3⟩ := right_parts h
  exact rB_zero h3 (by omega)

end Go.Proofs.YtkkoekfdncoifaaDoor
