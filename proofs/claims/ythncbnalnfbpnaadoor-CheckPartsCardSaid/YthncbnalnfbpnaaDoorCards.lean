/-
  DERIVED. GIVEN WITH THE SEED: THE CARDS: each row of YthncbnalnfbpnaaDoorRows.lean that lists a variable, with what it lists TIED to the program's text (the seventh form; the later family's looks); each row that meets fmt, with fmt's text TOLD by the authors' own Lean function (tested against real Go, not proved from fmt's source: count such statements apart). THE CARD IS WHAT COUNTS. Prove the row's statement (the work); the ties are given (YthncbnalnfbpnaaDoorTie.lean); close each card by the builder's one call (the guide's Derived/Test/ToyasCard.lean, 'card_holds'). Laid BY PROGRAM, IN A SANDBOX (cutbox-door.mjs). By AI agents, Wed Nov 11 2026. No macro, syntax, notation, axiom, sorry.
-/
import Derived.Test.YthncbnalnfbpnaaDoorRows
import GoSem.ClaimSeven
namespace Go.Proofs.YthncbnalnfbpnaaDoor
namespace Rows

/-- THE TIED CARD OF 'camshaftlaw12.CheckParts'. -/
def checkPartsCard : Claim7 := { stood := { row := checkPartsRow, standIns := [], harness := (true, "693cea093ef96a8c8cad7b032ca7401013ff6da476316fd1e02fccfbdee81b91"), looks := false }, kinds := [], alts := [], laidByText := true, laidKinds := [.data], laidTests := true, laidLooks := .later }
def CheckPartsCardSaid : Prop := Claim7.holds Tryd.pinned (.plain (OpenSpec.ofChange checkPartsSpec)) checkPartsCard

/-- THE TIED CARD OF 'camshaftlaw12.CheckLocked'. -/
def checkLockedCard : Claim7 := { stood := { row := checkLockedRow, standIns := [], harness := (true, "693cea093ef96a8c8cad7b032ca7401013ff6da476316fd1e02fccfbdee81b91"), looks := false }, kinds := [], alts := [], laidByText := true, laidKinds := [.data], laidTests := true, laidLooks := .later }
def CheckLockedCardSaid : Prop := Claim7.holds Tryd.pinned (.plain (OpenSpec.ofChange checkLockedSpec)) checkLockedCard

/-- THE TIED CARD OF 'camshaftlaw12.CheckTimes'. -/
def checkTimesCard : Claim7 := { stood := { row := checkTimesRow, standIns := [], harness := (true, "693cea093ef96a8c8cad7b032ca7401013ff6da476316fd1e02fccfbdee81b91"), looks := false }, kinds := [], alts := [], laidByText := true, laidKinds := [.data], laidTests := true, laidLooks := .later }
def CheckTimesCardSaid : Prop := Claim7.holds Tryd.pinned (.plain (OpenSpec.ofChange checkTimesSpec)) checkTimesCard

/-- THE TIED CARD OF 'camshaftlaw12.CheckMore'. -/
def checkMoreCard : Claim7 := { stood := { row := checkMoreRow, standIns := [], harness := (true, "693cea093ef96a8c8cad7b032ca7401013ff6da476316fd1e02fccfbdee81b91"), looks := false }, kinds := [], alts := [], laidByText := true, laidKinds := [.data], laidTests := true, laidLooks := .later }
def CheckMoreCardSaid : Prop := Claim7.holds Tryd.pinned (.plain (OpenSpec.ofChange checkMoreSpec)) checkMoreCard

/-- THE TIED CARD OF 'camshaftlaw12.CheckEmpty'. -/
def checkEmptyCard : Claim7 := { stood := { row := checkEmptyRow, standIns := [], harness := (true, "693cea093ef96a8c8cad7b032ca7401013ff6da476316fd1e02fccfbdee81b91"), looks := false }, kinds := [], alts := [], laidByText := true, laidKinds := [.data], laidTests := true, laidLooks := .later }
def CheckEmptyCardSaid : Prop := Claim7.holds Tryd.pinned (.plain (OpenSpec.ofChange checkEmptySpec)) checkEmptyCard

/-- THE SECOND FORM's CARD OF 'camshaftlaw12.CheckParts'. -/
def checkPartsUptoCard : Claim7 := { stood := { row := checkPartsUptoRow, standIns := [], harness := (true, "693cea093ef96a8c8cad7b032ca7401013ff6da476316fd1e02fccfbdee81b91"), looks := false }, kinds := [], alts := [], laidByText := true, laidKinds := [.data], laidTests := true, laidLooks := .later }
def CheckPartsUptoCardSaid : Prop := Claim7.holds Tryd.pinned (.plain (OpenSpec.upto checkPartsSpec)) checkPartsUptoCard

/-- THE SECOND FORM's CARD OF 'camshaftlaw12.CheckLocked'. -/
def checkLockedUptoCard : Claim7 := { stood := { row := checkLockedUptoRow, standIns := [], harness := (true, "693cea093ef96a8c8cad7b032ca7401013ff6da476316fd1e02fccfbdee81b91"), looks := false }, kinds := [], alts := [], laidByText := true, laidKinds := [.data], laidTests := true, laidLooks := .later }
def CheckLockedUptoCardSaid : Prop := Claim7.holds Tryd.pinned (.plain (OpenSpec.upto checkLockedSpec)) checkLockedUptoCard

/-- THE SECOND FORM's CARD OF 'camshaftlaw12.CheckTimes'. -/
def checkTimesUptoCard : Claim7 := { stood := { row := checkTimesUptoRow, standIns := [], harness := (true, "693cea093ef96a8c8cad7b032ca7401013ff6da476316fd1e02fccfbdee81b91"), looks := false }, kinds := [], alts := [], laidByText := true, laidKinds := [.data], laidTests := true, laidLooks := .later }
def CheckTimesUptoCardSaid : Prop := Claim7.holds Tryd.pinned (.plain (OpenSpec.upto checkTimesSpec)) checkTimesUptoCard

/-- THE SECOND FORM's CARD OF 'camshaftlaw12.CheckMore'. -/
def checkMoreUptoCard : Claim7 := { stood := { row := checkMoreUptoRow, standIns := [], harness := (true, "693cea093ef96a8c8cad7b032ca7401013ff6da476316fd1e02fccfbdee81b91"), looks := false }, kinds := [], alts := [], laidByText := true, laidKinds := [.data], laidTests := true, laidLooks := .later }
def CheckMoreUptoCardSaid : Prop := Claim7.holds Tryd.pinned (.plain (OpenSpec.upto checkMoreSpec)) checkMoreUptoCard

/-- THE SECOND FORM's CARD OF 'camshaftlaw12.CheckEmpty'. -/
def checkEmptyUptoCard : Claim7 := { stood := { row := checkEmptyUptoRow, standIns := [], harness := (true, "693cea093ef96a8c8cad7b032ca7401013ff6da476316fd1e02fccfbdee81b91"), looks := false }, kinds := [], alts := [], laidByText := true, laidKinds := [.data], laidTests := true, laidLooks := .later }
def CheckEmptyUptoCardSaid : Prop := Claim7.holds Tryd.pinned (.plain (OpenSpec.upto checkEmptySpec)) checkEmptyUptoCard
end Rows
end Go.Proofs.YthncbnalnfbpnaaDoor
