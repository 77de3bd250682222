/-
  DERIVED. GIVEN WITH THE SEED: THE CARDS: each row of YtdkhefloooadhaaDoorRows.lean that lists a variable, with what it lists TIED to the program's text (the seventh form; the later family's looks); each row that meets fmt, with fmt's text TOLD by the authors' own Lean function (tested against real Go, not proved from fmt's source: count such statements apart). THE CARD IS WHAT COUNTS. Prove the row's statement (the work); the ties are given (YtdkhefloooadhaaDoorTie.lean); close each card by the builder's one call (the guide's Derived/Test/ToyasCard.lean, 'card_holds'). Laid BY PROGRAM, IN A SANDBOX (cutbox-door.mjs). By AI agents, Wed Nov 11 2026. No macro, syntax, notation, axiom, sorry.
-/
import Derived.Test.YtdkhefloooadhaaDoorRows
import GoSem.ClaimSeven
namespace Go.Proofs.YtdkhefloooadhaaDoor
namespace Rows

/-- THE TIED CARD OF 'camshaftlaw03.CrcTells'. -/
def crcTellsCard : Claim7 := { stood := { row := crcTellsRow, standIns := [], harness := (true, "b778d44e665ea4731d6ae9141c9881864960dfcea0820e8070f1cdd1c8a70b2b"), looks := false }, kinds := [], alts := [], laidByText := true, laidKinds := [.data], laidTests := true, laidLooks := .later }
def CrcTellsCardSaid : Prop := Claim7.holds Tryd.pinned (.plain (OpenSpec.ofChange crcTellsSpec)) crcTellsCard

/-- THE TIED CARD OF 'camshaftlaw03.CrcOn'. -/
def crcOnCard : Claim7 := { stood := { row := crcOnRow, standIns := [], harness := (true, "b778d44e665ea4731d6ae9141c9881864960dfcea0820e8070f1cdd1c8a70b2b"), looks := false }, kinds := [], alts := [], laidByText := true, laidKinds := [.data], laidTests := true, laidLooks := .later }
def CrcOnCardSaid : Prop := Claim7.holds Tryd.pinned (.plain (OpenSpec.ofChange crcOnSpec)) crcOnCard

/-- THE TIED CARD OF 'camshaftlaw03.CrcOpens'. -/
def crcOpensCard : Claim7 := { stood := { row := crcOpensRow, standIns := [], harness := (true, "b778d44e665ea4731d6ae9141c9881864960dfcea0820e8070f1cdd1c8a70b2b"), looks := false }, kinds := [], alts := [], laidByText := true, laidKinds := [.data], laidTests := true, laidLooks := .later }
def CrcOpensCardSaid : Prop := Claim7.holds Tryd.pinned (.plain (OpenSpec.ofChange crcOpensSpec)) crcOpensCard

/-- THE TIED CARD OF 'camshaftlaw03.CrcShifts'. -/
def crcShiftsCard : Claim7 := { stood := { row := crcShiftsRow, standIns := [], harness := (true, "b778d44e665ea4731d6ae9141c9881864960dfcea0820e8070f1cdd1c8a70b2b"), looks := false }, kinds := [], alts := [], laidByText := true, laidKinds := [.data], laidTests := true, laidLooks := .later }
def CrcShiftsCardSaid : Prop := Claim7.holds Tryd.pinned (.plain (OpenSpec.ofChange crcShiftsSpec)) crcShiftsCard

/-- THE TIED CARD OF 'camshaftlaw03.CrcParts'. -/
def crcPartsCard : Claim7 := { stood := { row := crcPartsRow, standIns := [], harness := (true, "b778d44e665ea4731d6ae9141c9881864960dfcea0820e8070f1cdd1c8a70b2b"), looks := false }, kinds := [], alts := [], laidByText := true, laidKinds := [.data], laidTests := true, laidLooks := .later }
def CrcPartsCardSaid : Prop := Claim7.holds Tryd.pinned (.plain (OpenSpec.ofChange crcPartsSpec)) crcPartsCard

/-- THE TIED CARD OF 'camshaftlaw03.CrcSwaps'. -/
def crcSwapsCard : Claim7 := { stood := { row := crcSwapsRow, standIns := [], harness := (true, "b778d44e665ea4731d6ae9141c9881864960dfcea0820e8070f1cdd1c8a70b2b"), looks := false }, kinds := [], alts := [], laidByText := true, laidKinds := [.data], laidTests := true, laidLooks := .later }
def CrcSwapsCardSaid : Prop := Claim7.holds Tryd.pinned (.plain (OpenSpec.ofChange crcSwapsSpec)) crcSwapsCard

/-- THE TIED CARD OF 'camshaftlaw03.CrcLines'. -/
def crcLinesCard : Claim7 := { stood := { row := crcLinesRow, standIns := [], harness := (true, "b778d44e665ea4731d6ae9141c9881864960dfcea0820e8070f1cdd1c8a70b2b"), looks := false }, kinds := [], alts := [], laidByText := true, laidKinds := [.data], laidTests := true, laidLooks := .later }
def CrcLinesCardSaid : Prop := Claim7.holds Tryd.pinned (.plain (OpenSpec.ofChange crcLinesSpec)) crcLinesCard

/-- THE SECOND FORM's CARD OF 'camshaftlaw03.CrcTells'. -/
def crcTellsUptoCard : Claim7 := { stood := { row := crcTellsUptoRow, standIns := [], harness := (true, "b778d44e665ea4731d6ae9141c9881864960dfcea0820e8070f1cdd1c8a70b2b"), looks := false }, kinds := [], alts := [], laidByText := true, laidKinds := [.data], laidTests := true, laidLooks := .later }
def CrcTellsUptoCardSaid : Prop := Claim7.holds Tryd.pinned (.plain (OpenSpec.upto crcTellsSpec)) crcTellsUptoCard

/-- THE SECOND FORM's CARD OF 'camshaftlaw03.CrcOn'. -/
def crcOnUptoCard : Claim7 := { stood := { row := crcOnUptoRow, standIns := [], harness := (true, "b778d44e665ea4731d6ae9141c9881864960dfcea0820e8070f1cdd1c8a70b2b"), looks := false }, kinds := [], alts := [], laidByText := true, laidKinds := [.data], laidTests := true, laidLooks := .later }
def CrcOnUptoCardSaid : Prop := Claim7.holds Tryd.pinned (.plain (OpenSpec.upto crcOnSpec)) crcOnUptoCard

/-- THE SECOND FORM's CARD OF 'camshaftlaw03.CrcOpens'. -/
def crcOpensUptoCard : Claim7 := { stood := { row := crcOpensUptoRow, standIns := [], harness := (true, "b778d44e665ea4731d6ae9141c9881864960dfcea0820e8070f1cdd1c8a70b2b"), looks := false }, kinds := [], alts := [], laidByText := true, laidKinds := [.data], laidTests := true, laidLooks := .later }
def CrcOpensUptoCardSaid : Prop := Claim7.holds Tryd.pinned (.plain (OpenSpec.upto crcOpensSpec)) crcOpensUptoCard

/-- THE SECOND FORM's CARD OF 'camshaftlaw03.CrcShifts'. -/
def crcShiftsUptoCard : Claim7 := { stood := { row := crcShiftsUptoRow, standIns := [], harness := (true, "b778d44e665ea4731d6ae9141c9881864960dfcea0820e8070f1cdd1c8a70b2b"), looks := false }, kinds := [], alts := [], laidByText := true, laidKinds := [.data], laidTests := true, laidLooks := .later }
def CrcShiftsUptoCardSaid : Prop := Claim7.holds Tryd.pinned (.plain (OpenSpec.upto crcShiftsSpec)) crcShiftsUptoCard

/-- THE SECOND FORM's CARD OF 'camshaftlaw03.CrcParts'. -/
def crcPartsUptoCard : Claim7 := { stood := { row := crcPartsUptoRow, standIns := [], harness := (true, "b778d44e665ea4731d6ae9141c9881864960dfcea0820e8070f1cdd1c8a70b2b"), looks := false }, kinds := [], alts := [], laidByText := true, laidKinds := [.data], laidTests := true, laidLooks := .later }
def CrcPartsUptoCardSaid : Prop := Claim7.holds Tryd.pinned (.plain (OpenSpec.upto crcPartsSpec)) crcPartsUptoCard

/-- THE SECOND FORM's CARD OF 'camshaftlaw03.CrcSwaps'. -/
def crcSwapsUptoCard : Claim7 := { stood := { row := crcSwapsUptoRow, standIns := [], harness := (true, "b778d44e665ea4731d6ae9141c9881864960dfcea0820e8070f1cdd1c8a70b2b"), looks := false }, kinds := [], alts := [], laidByText := true, laidKinds := [.data], laidTests := true, laidLooks := .later }
def CrcSwapsUptoCardSaid : Prop := Claim7.holds Tryd.pinned (.plain (OpenSpec.upto crcSwapsSpec)) crcSwapsUptoCard

/-- THE SECOND FORM's CARD OF 'camshaftlaw03.CrcLines'. -/
def crcLinesUptoCard : Claim7 := { stood := { row := crcLinesUptoRow, standIns := [], harness := (true, "b778d44e665ea4731d6ae9141c9881864960dfcea0820e8070f1cdd1c8a70b2b"), looks := false }, kinds := [], alts := [], laidByText := true, laidKinds := [.data], laidTests := true, laidLooks := .later }
def CrcLinesUptoCardSaid : Prop := Claim7.holds Tryd.pinned (.plain (OpenSpec.upto crcLinesSpec)) crcLinesUptoCard
end Rows
end Go.Proofs.YtdkhefloooadhaaDoor
