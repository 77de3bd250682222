/-
  DERIVED. GIVEN WITH THE SEED: THE CARDS: each row of YtmahpmoaicjcjaaDoorRows.lean that lists a variable, with what it lists TIED to the program's text (the seventh form; the later family's looks); each row that meets fmt, with fmt's text TOLD by the authors' own Lean function (tested against real Go, not proved from fmt's source: count such statements apart). THE CARD IS WHAT COUNTS. Prove the row's statement (the work); the ties are given (YtmahpmoaicjcjaaDoorTie.lean); close each card by the builder's one call (the guide's Derived/Test/ToyasCard.lean, 'card_holds'). Laid BY PROGRAM, IN A SANDBOX (cutbox-door.mjs). By AI agents, Wed Nov 11 2026. No macro, syntax, notation, axiom, sorry.
-/
import Derived.Test.YtmahpmoaicjcjaaDoorRows
import GoSem.ClaimSeven
namespace Go.Proofs.YtmahpmoaicjcjaaDoor
namespace Rows

/-- THE TIED CARD OF 'camshaftlaw04.OpTells'. -/
def opTellsCard : Claim7 := { stood := { row := opTellsRow, standIns := [], harness := (true, "d1b79b5e9a114e7c81d776fcfde6dc883e9b51e96f2ff9c412aa0fb9b7dea38d"), looks := false }, kinds := [], alts := [], laidByText := true, laidKinds := [.data, .data], laidTests := true, laidLooks := .later }
def OpTellsCardSaid : Prop := Claim7.holds Tryd.pinned (.plain (OpenSpec.ofChange opTellsSpec)) opTellsCard

/-- THE TIED CARD OF 'camshaftlaw04.OpReads'. -/
def opReadsCard : Claim7 := { stood := { row := opReadsRow, standIns := [], harness := (true, "d1b79b5e9a114e7c81d776fcfde6dc883e9b51e96f2ff9c412aa0fb9b7dea38d"), looks := false }, kinds := [], alts := [], laidByText := true, laidKinds := [.data, .data], laidTests := true, laidLooks := .later }
def OpReadsCardSaid : Prop := Claim7.holds Tryd.pinned (.plain (OpenSpec.ofChange opReadsSpec)) opReadsCard

/-- THE TIED CARD OF 'camshaftlaw04.OpBack'. -/
def opBackCard : Claim7 := { stood := { row := opBackRow, standIns := [], harness := (true, "d1b79b5e9a114e7c81d776fcfde6dc883e9b51e96f2ff9c412aa0fb9b7dea38d"), looks := false }, kinds := [], alts := [], laidByText := true, laidKinds := [.data, .data], laidTests := true, laidLooks := .later }
def OpBackCardSaid : Prop := Claim7.holds Tryd.pinned (.plain (OpenSpec.ofChange opBackSpec)) opBackCard

/-- THE TIED CARD OF 'camshaftlaw04.OpParts'. -/
def opPartsCard : Claim7 := { stood := { row := opPartsRow, standIns := [], harness := (true, "d1b79b5e9a114e7c81d776fcfde6dc883e9b51e96f2ff9c412aa0fb9b7dea38d"), looks := false }, kinds := [], alts := [], laidByText := true, laidKinds := [.data, .data], laidTests := true, laidLooks := .later }
def OpPartsCardSaid : Prop := Claim7.holds Tryd.pinned (.plain (OpenSpec.ofChange opPartsSpec)) opPartsCard

/-- THE TIED CARD OF 'camshaftlaw04.OpSizes'. -/
def opSizesCard : Claim7 := { stood := { row := opSizesRow, standIns := [], harness := (true, "d1b79b5e9a114e7c81d776fcfde6dc883e9b51e96f2ff9c412aa0fb9b7dea38d"), looks := false }, kinds := [], alts := [], laidByText := true, laidKinds := [.data, .data], laidTests := true, laidLooks := .later }
def OpSizesCardSaid : Prop := Claim7.holds Tryd.pinned (.plain (OpenSpec.ofChange opSizesSpec)) opSizesCard

/-- THE TIED CARD OF 'camshaftlaw04.OpCuts'. -/
def opCutsCard : Claim7 := { stood := { row := opCutsRow, standIns := [], harness := (true, "d1b79b5e9a114e7c81d776fcfde6dc883e9b51e96f2ff9c412aa0fb9b7dea38d"), looks := false }, kinds := [], alts := [], laidByText := true, laidKinds := [.data, .data], laidTests := true, laidLooks := .later }
def OpCutsCardSaid : Prop := Claim7.holds Tryd.pinned (.plain (OpenSpec.ofChange opCutsSpec)) opCutsCard

/-- THE TIED CARD OF 'camshaftlaw04.OpNames'. -/
def opNamesCard : Claim7 := { stood := { row := opNamesRow, standIns := [], harness := (true, "d1b79b5e9a114e7c81d776fcfde6dc883e9b51e96f2ff9c412aa0fb9b7dea38d"), looks := false }, kinds := [], alts := [], laidByText := true, laidKinds := [.data, .data], laidTests := true, laidLooks := .later }
def OpNamesCardSaid : Prop := Claim7.holds Tryd.pinned (.plain (OpenSpec.ofChange opNamesSpec)) opNamesCard

/-- THE SECOND FORM's CARD OF 'camshaftlaw04.OpTells'. -/
def opTellsUptoCard : Claim7 := { stood := { row := opTellsUptoRow, standIns := [], harness := (true, "d1b79b5e9a114e7c81d776fcfde6dc883e9b51e96f2ff9c412aa0fb9b7dea38d"), looks := false }, kinds := [], alts := [], laidByText := true, laidKinds := [.data, .data], laidTests := true, laidLooks := .later }
def OpTellsUptoCardSaid : Prop := Claim7.holds Tryd.pinned (.plain (OpenSpec.upto opTellsSpec)) opTellsUptoCard

/-- THE SECOND FORM's CARD OF 'camshaftlaw04.OpReads'. -/
def opReadsUptoCard : Claim7 := { stood := { row := opReadsUptoRow, standIns := [], harness := (true, "d1b79b5e9a114e7c81d776fcfde6dc883e9b51e96f2ff9c412aa0fb9b7dea38d"), looks := false }, kinds := [], alts := [], laidByText := true, laidKinds := [.data, .data], laidTests := true, laidLooks := .later }
def OpReadsUptoCardSaid : Prop := Claim7.holds Tryd.pinned (.plain (OpenSpec.upto opReadsSpec)) opReadsUptoCard

/-- THE SECOND FORM's CARD OF 'camshaftlaw04.OpBack'. -/
def opBackUptoCard : Claim7 := { stood := { row := opBackUptoRow, standIns := [], harness := (true, "d1b79b5e9a114e7c81d776fcfde6dc883e9b51e96f2ff9c412aa0fb9b7dea38d"), looks := false }, kinds := [], alts := [], laidByText := true, laidKinds := [.data, .data], laidTests := true, laidLooks := .later }
def OpBackUptoCardSaid : Prop := Claim7.holds Tryd.pinned (.plain (OpenSpec.upto opBackSpec)) opBackUptoCard

/-- THE SECOND FORM's CARD OF 'camshaftlaw04.OpParts'. -/
def opPartsUptoCard : Claim7 := { stood := { row := opPartsUptoRow, standIns := [], harness := (true, "d1b79b5e9a114e7c81d776fcfde6dc883e9b51e96f2ff9c412aa0fb9b7dea38d"), looks := false }, kinds := [], alts := [], laidByText := true, laidKinds := [.data, .data], laidTests := true, laidLooks := .later }
def OpPartsUptoCardSaid : Prop := Claim7.holds Tryd.pinned (.plain (OpenSpec.upto opPartsSpec)) opPartsUptoCard

/-- THE SECOND FORM's CARD OF 'camshaftlaw04.OpSizes'. -/
def opSizesUptoCard : Claim7 := { stood := { row := opSizesUptoRow, standIns := [], harness := (true, "d1b79b5e9a114e7c81d776fcfde6dc883e9b51e96f2ff9c412aa0fb9b7dea38d"), looks := false }, kinds := [], alts := [], laidByText := true, laidKinds := [.data, .data], laidTests := true, laidLooks := .later }
def OpSizesUptoCardSaid : Prop := Claim7.holds Tryd.pinned (.plain (OpenSpec.upto opSizesSpec)) opSizesUptoCard

/-- THE SECOND FORM's CARD OF 'camshaftlaw04.OpCuts'. -/
def opCutsUptoCard : Claim7 := { stood := { row := opCutsUptoRow, standIns := [], harness := (true, "d1b79b5e9a114e7c81d776fcfde6dc883e9b51e96f2ff9c412aa0fb9b7dea38d"), looks := false }, kinds := [], alts := [], laidByText := true, laidKinds := [.data, .data], laidTests := true, laidLooks := .later }
def OpCutsUptoCardSaid : Prop := Claim7.holds Tryd.pinned (.plain (OpenSpec.upto opCutsSpec)) opCutsUptoCard

/-- THE SECOND FORM's CARD OF 'camshaftlaw04.OpNames'. -/
def opNamesUptoCard : Claim7 := { stood := { row := opNamesUptoRow, standIns := [], harness := (true, "d1b79b5e9a114e7c81d776fcfde6dc883e9b51e96f2ff9c412aa0fb9b7dea38d"), looks := false }, kinds := [], alts := [], laidByText := true, laidKinds := [.data, .data], laidTests := true, laidLooks := .later }
def OpNamesUptoCardSaid : Prop := Claim7.holds Tryd.pinned (.plain (OpenSpec.upto opNamesSpec)) opNamesUptoCard
end Rows
end Go.Proofs.YtmahpmoaicjcjaaDoor
