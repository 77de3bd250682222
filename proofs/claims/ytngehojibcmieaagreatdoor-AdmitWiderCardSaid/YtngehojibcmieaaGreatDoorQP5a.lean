/- What is proved here: plain facts on images that are not too heavy, and a law of append at own rows of ints. Conditions: those each theorem states. -/
import Derived.Test.YtngehojibcmieaaGreatDoorQC9
import Derived.Test.YtngehojibcmieaaGreatDoorQL9
section
namespace Go.Proofs.YtngehojibcmieaaGreatDoor
open Go.ChangeShapes Go.WideShapes Go.RowKit
theorem bulkB_pos : ∀ l : List (List Int), 0 ≤ bulkB l
 | [] => by unfold bulkB; simp
 | t :: l => by
  have e : bulkB (t :: l) = min (t.length : Int) 100 + bulkB l := rfl
  rw [e]; have := bulkB_pos l; omega
theorem light_few {m : ImP} (hl : lightE m ≠ 0) : m.safe.length ≤ 80 ∧ m.blocks.length ≤ 80 ∧ m.tasks.length ≤ 80 ∧ bulkT m.tasks ≤ 200 := by
 unfold lightE at hl
 by_cases h1 : 80 < lightN m
 ·rw [if_pos h1] at hl; exact absurd rfl hl
 ·rw [if_neg h1] at hl
  by_cases h2 : 200 < lightN m + bulkB m.blocks + bulkT m.tasks
  ·rw [if_pos h2] at hl; exact absurd rfl hl
  ·have := bulkB_pos m.blocks
   unfold lightN at h1 h2
   omega
end Go.Proofs.YtngehojibcmieaaGreatDoor
end
