/-
  DERIVED. GIVEN WITH THE SEED: THE CARDS: each row of YtngehojibcmieaaGreatDoorRows.lean that lists a variable, with what it lists TIED to the program's text (the seventh form; the later family's looks); each row that meets fmt, with fmt's text TOLD by the authors' own Lean function (tested against real Go, not proved from fmt's source: count such statements apart). THE CARD IS WHAT COUNTS. Prove the row's statement (the work); the ties are given (YtngehojibcmieaaGreatDoorTie.lean); close each card by the builder's one call (the guide's Derived/Test/ToyasCard.lean, 'card_holds'). Laid BY PROGRAM, IN A SANDBOX (cutbox-door.mjs). By AI agents, Wed Nov 11 2026. No macro, syntax, notation, axiom, sorry.
-/
import Derived.Test.YtngehojibcmieaaGreatDoorRows
import GoSem.ClaimSeven
namespace Go.Proofs.YtngehojibcmieaaGreatDoor
namespace Rows

/-- THE TIED CARD OF 'camshaftlaw15.AdmitJudges'. -/
def admitJudgesCard : Claim7 := { stood := { row := admitJudgesRow, standIns := [], harness := (true, "0890dc6ad2efffa24bf26b94bab1ef2ee66c016aa70197841b88536b1d683f5e"), looks := false }, kinds := [], alts := [], laidByText := true, laidKinds := [.data, .data], laidTests := true, laidLooks := .later }
def AdmitJudgesCardSaid : Prop := Claim7.holds Tryz.pinned (.plain (OpenSpec.ofChange admitJudgesSpec)) admitJudgesCard

/-- THE TIED CARD OF 'camshaftlaw15.AdmitLoads'. -/
def admitLoadsCard : Claim7 := { stood := { row := admitLoadsRow, standIns := [], harness := (true, "0890dc6ad2efffa24bf26b94bab1ef2ee66c016aa70197841b88536b1d683f5e"), looks := false }, kinds := [], alts := [], laidByText := true, laidKinds := [.data, .data], laidTests := true, laidLooks := .later }
def AdmitLoadsCardSaid : Prop := Claim7.holds Tryz.pinned (.plain (OpenSpec.ofChange admitLoadsSpec)) admitLoadsCard

/-- THE TIED CARD OF 'camshaftlaw15.AdmitTimes'. -/
def admitTimesCard : Claim7 := { stood := { row := admitTimesRow, standIns := [], harness := (true, "0890dc6ad2efffa24bf26b94bab1ef2ee66c016aa70197841b88536b1d683f5e"), looks := false }, kinds := [], alts := [], laidByText := true, laidKinds := [.data, .data], laidTests := true, laidLooks := .later }
def AdmitTimesCardSaid : Prop := Claim7.holds Tryz.pinned (.plain (OpenSpec.ofChange admitTimesSpec)) admitTimesCard

/-- THE TIED CARD OF 'camshaftlaw15.AdmitBlocks'. -/
def admitBlocksCard : Claim7 := { stood := { row := admitBlocksRow, standIns := [], harness := (true, "0890dc6ad2efffa24bf26b94bab1ef2ee66c016aa70197841b88536b1d683f5e"), looks := false }, kinds := [], alts := [], laidByText := true, laidKinds := [.data, .data], laidTests := true, laidLooks := .later }
def AdmitBlocksCardSaid : Prop := Claim7.holds Tryz.pinned (.plain (OpenSpec.ofChange admitBlocksSpec)) admitBlocksCard

/-- THE TIED CARD OF 'camshaftlaw15.AdmitWider'. -/
def admitWiderCard : Claim7 := { stood := { row := admitWiderRow, standIns := [], harness := (true, "0890dc6ad2efffa24bf26b94bab1ef2ee66c016aa70197841b88536b1d683f5e"), looks := false }, kinds := [], alts := [], laidByText := true, laidKinds := [.data, .data], laidTests := true, laidLooks := .later }
def AdmitWiderCardSaid : Prop := Claim7.holds Tryz.pinned (.plain (OpenSpec.ofChange admitWiderSpec)) admitWiderCard

/-- THE TIED CARD OF 'camshaftlaw15.AdmitFewer'. -/
def admitFewerCard : Claim7 := { stood := { row := admitFewerRow, standIns := [], harness := (true, "0890dc6ad2efffa24bf26b94bab1ef2ee66c016aa70197841b88536b1d683f5e"), looks := false }, kinds := [], alts := [], laidByText := true, laidKinds := [.data, .data], laidTests := true, laidLooks := .later }
def AdmitFewerCardSaid : Prop := Claim7.holds Tryz.pinned (.plain (OpenSpec.ofChange admitFewerSpec)) admitFewerCard

/-- THE SECOND FORM's CARD OF 'camshaftlaw15.AdmitJudges'. -/
def admitJudgesUptoCard : Claim7 := { stood := { row := admitJudgesUptoRow, standIns := [], harness := (true, "0890dc6ad2efffa24bf26b94bab1ef2ee66c016aa70197841b88536b1d683f5e"), looks := false }, kinds := [], alts := [], laidByText := true, laidKinds := [.data, .data], laidTests := true, laidLooks := .later }
def AdmitJudgesUptoCardSaid : Prop := Claim7.holds Tryz.pinned (.plain (OpenSpec.upto admitJudgesSpec)) admitJudgesUptoCard

/-- THE SECOND FORM's CARD OF 'camshaftlaw15.AdmitLoads'. -/
def admitLoadsUptoCard : Claim7 := { stood := { row := admitLoadsUptoRow, standIns := [], harness := (true, "0890dc6ad2efffa24bf26b94bab1ef2ee66c016aa70197841b88536b1d683f5e"), looks := false }, kinds := [], alts := [], laidByText := true, laidKinds := [.data, .data], laidTests := true, laidLooks := .later }
def AdmitLoadsUptoCardSaid : Prop := Claim7.holds Tryz.pinned (.plain (OpenSpec.upto admitLoadsSpec)) admitLoadsUptoCard

/-- THE SECOND FORM's CARD OF 'camshaftlaw15.AdmitTimes'. -/
def admitTimesUptoCard : Claim7 := { stood := { row := admitTimesUptoRow, standIns := [], harness := (true, "0890dc6ad2efffa24bf26b94bab1ef2ee66c016aa70197841b88536b1d683f5e"), looks := false }, kinds := [], alts := [], laidByText := true, laidKinds := [.data, .data], laidTests := true, laidLooks := .later }
def AdmitTimesUptoCardSaid : Prop := Claim7.holds Tryz.pinned (.plain (OpenSpec.upto admitTimesSpec)) admitTimesUptoCard

/-- THE SECOND FORM's CARD OF 'camshaftlaw15.AdmitBlocks'. -/
def admitBlocksUptoCard : Claim7 := { stood := { row := admitBlocksUptoRow, standIns := [], harness := (true, "0890dc6ad2efffa24bf26b94bab1ef2ee66c016aa70197841b88536b1d683f5e"), looks := false }, kinds := [], alts := [], laidByText := true, laidKinds := [.data, .data], laidTests := true, laidLooks := .later }
def AdmitBlocksUptoCardSaid : Prop := Claim7.holds Tryz.pinned (.plain (OpenSpec.upto admitBlocksSpec)) admitBlocksUptoCard

/-- THE SECOND FORM's CARD OF 'camshaftlaw15.AdmitWider'. -/
def admitWiderUptoCard : Claim7 := { stood := { row := admitWiderUptoRow, standIns := [], harness := (true, "0890dc6ad2efffa24bf26b94bab1ef2ee66c016aa70197841b88536b1d683f5e"), looks := false }, kinds := [], alts := [], laidByText := true, laidKinds := [.data, .data], laidTests := true, laidLooks := .later }
def AdmitWiderUptoCardSaid : Prop := Claim7.holds Tryz.pinned (.plain (OpenSpec.upto admitWiderSpec)) admitWiderUptoCard

/-- THE SECOND FORM's CARD OF 'camshaftlaw15.AdmitFewer'. -/
def admitFewerUptoCard : Claim7 := { stood := { row := admitFewerUptoRow, standIns := [], harness := (true, "0890dc6ad2efffa24bf26b94bab1ef2ee66c016aa70197841b88536b1d683f5e"), looks := false }, kinds := [], alts := [], laidByText := true, laidKinds := [.data, .data], laidTests := true, laidLooks := .later }
def AdmitFewerUptoCardSaid : Prop := Claim7.holds Tryz.pinned (.plain (OpenSpec.upto admitFewerSpec)) admitFewerUptoCard
end Rows
end Go.Proofs.YtngehojibcmieaaGreatDoor
