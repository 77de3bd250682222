/-
  DERIVED. GIVEN WITH THE SEED: THE CARDS: each row of YtacgnofmccennaaGreatDoorRows.lean that lists a variable, with what it lists TIED to the program's text (the seventh form; the later family's looks); each row that meets fmt, with fmt's text TOLD by the authors' own Lean function (tested against real Go, not proved from fmt's source: count such statements apart). THE CARD IS WHAT COUNTS. Prove the row's statement (the work); the ties are given (YtacgnofmccennaaGreatDoorTie.lean); close each card by the builder's one call (the guide's Derived/Test/ToyasCard.lean, 'card_holds'). Laid BY PROGRAM, IN A SANDBOX (cutbox-door.mjs). By AI agents, Wed Nov 11 2026. No macro, syntax, notation, axiom, sorry.
-/
import Derived.Test.YtacgnofmccennaaGreatDoorRows
import GoSem.ClaimSeven
namespace Go.Proofs.YtacgnofmccennaaGreatDoor
namespace Rows

/-- THE TIED CARD OF 'camshaftlaw09.CostRuns'. -/
def costRunsCard : Claim7 := { stood := { row := costRunsRow, standIns := [], harness := (true, "eb10501cf092e4378f3306466feddc8f20598c5d108346828663815094201754"), looks := false }, kinds := [], alts := [], laidByText := true, laidKinds := [.data], laidTests := true, laidLooks := .later }
def CostRunsCardSaid : Prop := Claim7.holds Tryz.pinned (.plain (OpenSpec.ofChange costRunsSpec)) costRunsCard

/-- THE SECOND FORM's CARD OF 'camshaftlaw09.CostRuns'. -/
def costRunsUptoCard : Claim7 := { stood := { row := costRunsUptoRow, standIns := [], harness := (true, "eb10501cf092e4378f3306466feddc8f20598c5d108346828663815094201754"), looks := false }, kinds := [], alts := [], laidByText := true, laidKinds := [.data], laidTests := true, laidLooks := .later }
def CostRunsUptoCardSaid : Prop := Claim7.holds Tryz.pinned (.plain (OpenSpec.upto costRunsSpec)) costRunsUptoCard
end Rows
end Go.Proofs.YtacgnofmccennaaGreatDoor
