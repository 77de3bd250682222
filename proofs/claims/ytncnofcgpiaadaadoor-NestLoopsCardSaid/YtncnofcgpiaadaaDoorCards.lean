/-
  DERIVED. GIVEN WITH THE SEED: THE CARDS: each row of YtncnofcgpiaadaaDoorRows.lean that lists a variable, with what it lists TIED to the program's text (the seventh form; the later family's looks); each row that meets fmt, with fmt's text TOLD by the authors' own Lean function (tested against real Go, not proved from fmt's source: count such statements apart). THE CARD IS WHAT COUNTS. Prove the row's statement (the work); the ties are given (YtncnofcgpiaadaaDoorTie.lean); close each card by the builder's one call (the guide's Derived/Test/ToyasCard.lean, 'card_holds'). Laid BY PROGRAM, IN A SANDBOX (cutbox-door.mjs). By AI agents, Wed Nov 11 2026. No macro, syntax, notation, axiom, sorry.
-/
import Derived.Test.YtncnofcgpiaadaaDoorRows
import GoSem.ClaimSeven
namespace Go.Proofs.YtncnofcgpiaadaaDoor
namespace Rows

/-- THE TIED CARD OF 'camshaftlaw06.NestTells'. -/
def nestTellsCard : Claim7 := { stood := { row := nestTellsRow, standIns := [], harness := (true, "95426d36aa429a127e1e18c6547957e3f6541fa475b8e0517b1ede6423369183"), looks := false }, kinds := [], alts := [], laidByText := true, laidKinds := [.data], laidTests := true, laidLooks := .later }
def NestTellsCardSaid : Prop := Claim7.holds Tryd.pinned (.plain (OpenSpec.ofChange nestTellsSpec)) nestTellsCard

/-- THE TIED CARD OF 'camshaftlaw06.NestMatches'. -/
def nestMatchesCard : Claim7 := { stood := { row := nestMatchesRow, standIns := [], harness := (true, "95426d36aa429a127e1e18c6547957e3f6541fa475b8e0517b1ede6423369183"), looks := false }, kinds := [], alts := [], laidByText := true, laidKinds := [.data], laidTests := true, laidLooks := .later }
def NestMatchesCardSaid : Prop := Claim7.holds Tryd.pinned (.plain (OpenSpec.ofChange nestMatchesSpec)) nestMatchesCard

/-- THE TIED CARD OF 'camshaftlaw06.NestJumps'. -/
def nestJumpsCard : Claim7 := { stood := { row := nestJumpsRow, standIns := [], harness := (true, "95426d36aa429a127e1e18c6547957e3f6541fa475b8e0517b1ede6423369183"), looks := false }, kinds := [], alts := [], laidByText := true, laidKinds := [.data], laidTests := true, laidLooks := .later }
def NestJumpsCardSaid : Prop := Claim7.holds Tryd.pinned (.plain (OpenSpec.ofChange nestJumpsSpec)) nestJumpsCard

/-- THE TIED CARD OF 'camshaftlaw06.NestLocks'. -/
def nestLocksCard : Claim7 := { stood := { row := nestLocksRow, standIns := [], harness := (true, "95426d36aa429a127e1e18c6547957e3f6541fa475b8e0517b1ede6423369183"), looks := false }, kinds := [], alts := [], laidByText := true, laidKinds := [.data], laidTests := true, laidLooks := .later }
def NestLocksCardSaid : Prop := Claim7.holds Tryd.pinned (.plain (OpenSpec.ofChange nestLocksSpec)) nestLocksCard

/-- THE TIED CARD OF 'camshaftlaw06.NestHomes'. -/
def nestHomesCard : Claim7 := { stood := { row := nestHomesRow, standIns := [], harness := (true, "95426d36aa429a127e1e18c6547957e3f6541fa475b8e0517b1ede6423369183"), looks := false }, kinds := [], alts := [], laidByText := true, laidKinds := [.data], laidTests := true, laidLooks := .later }
def NestHomesCardSaid : Prop := Claim7.holds Tryd.pinned (.plain (OpenSpec.ofChange nestHomesSpec)) nestHomesCard

/-- THE TIED CARD OF 'camshaftlaw06.NestParts'. -/
def nestPartsCard : Claim7 := { stood := { row := nestPartsRow, standIns := [], harness := (true, "95426d36aa429a127e1e18c6547957e3f6541fa475b8e0517b1ede6423369183"), looks := false }, kinds := [], alts := [], laidByText := true, laidKinds := [.data], laidTests := true, laidLooks := .later }
def NestPartsCardSaid : Prop := Claim7.holds Tryd.pinned (.plain (OpenSpec.ofChange nestPartsSpec)) nestPartsCard

/-- THE TIED CARD OF 'camshaftlaw06.NestLoops'. -/
def nestLoopsCard : Claim7 := { stood := { row := nestLoopsRow, standIns := [], harness := (true, "95426d36aa429a127e1e18c6547957e3f6541fa475b8e0517b1ede6423369183"), looks := false }, kinds := [], alts := [], laidByText := true, laidKinds := [.data], laidTests := true, laidLooks := .later }
def NestLoopsCardSaid : Prop := Claim7.holds Tryd.pinned (.plain (OpenSpec.ofChange nestLoopsSpec)) nestLoopsCard

/-- THE SECOND FORM's CARD OF 'camshaftlaw06.NestTells'. -/
def nestTellsUptoCard : Claim7 := { stood := { row := nestTellsUptoRow, standIns := [], harness := (true, "95426d36aa429a127e1e18c6547957e3f6541fa475b8e0517b1ede6423369183"), looks := false }, kinds := [], alts := [], laidByText := true, laidKinds := [.data], laidTests := true, laidLooks := .later }
def NestTellsUptoCardSaid : Prop := Claim7.holds Tryd.pinned (.plain (OpenSpec.upto nestTellsSpec)) nestTellsUptoCard

/-- THE SECOND FORM's CARD OF 'camshaftlaw06.NestMatches'. -/
def nestMatchesUptoCard : Claim7 := { stood := { row := nestMatchesUptoRow, standIns := [], harness := (true, "95426d36aa429a127e1e18c6547957e3f6541fa475b8e0517b1ede6423369183"), looks := false }, kinds := [], alts := [], laidByText := true, laidKinds := [.data], laidTests := true, laidLooks := .later }
def NestMatchesUptoCardSaid : Prop := Claim7.holds Tryd.pinned (.plain (OpenSpec.upto nestMatchesSpec)) nestMatchesUptoCard

/-- THE SECOND FORM's CARD OF 'camshaftlaw06.NestJumps'. -/
def nestJumpsUptoCard : Claim7 := { stood := { row := nestJumpsUptoRow, standIns := [], harness := (true, "95426d36aa429a127e1e18c6547957e3f6541fa475b8e0517b1ede6423369183"), looks := false }, kinds := [], alts := [], laidByText := true, laidKinds := [.data], laidTests := true, laidLooks := .later }
def NestJumpsUptoCardSaid : Prop := Claim7.holds Tryd.pinned (.plain (OpenSpec.upto nestJumpsSpec)) nestJumpsUptoCard

/-- THE SECOND FORM's CARD OF 'camshaftlaw06.NestLocks'. -/
def nestLocksUptoCard : Claim7 := { stood := { row := nestLocksUptoRow, standIns := [], harness := (true, "95426d36aa429a127e1e18c6547957e3f6541fa475b8e0517b1ede6423369183"), looks := false }, kinds := [], alts := [], laidByText := true, laidKinds := [.data], laidTests := true, laidLooks := .later }
def NestLocksUptoCardSaid : Prop := Claim7.holds Tryd.pinned (.plain (OpenSpec.upto nestLocksSpec)) nestLocksUptoCard

/-- THE SECOND FORM's CARD OF 'camshaftlaw06.NestHomes'. -/
def nestHomesUptoCard : Claim7 := { stood := { row := nestHomesUptoRow, standIns := [], harness := (true, "95426d36aa429a127e1e18c6547957e3f6541fa475b8e0517b1ede6423369183"), looks := false }, kinds := [], alts := [], laidByText := true, laidKinds := [.data], laidTests := true, laidLooks := .later }
def NestHomesUptoCardSaid : Prop := Claim7.holds Tryd.pinned (.plain (OpenSpec.upto nestHomesSpec)) nestHomesUptoCard

/-- THE SECOND FORM's CARD OF 'camshaftlaw06.NestParts'. -/
def nestPartsUptoCard : Claim7 := { stood := { row := nestPartsUptoRow, standIns := [], harness := (true, "95426d36aa429a127e1e18c6547957e3f6541fa475b8e0517b1ede6423369183"), looks := false }, kinds := [], alts := [], laidByText := true, laidKinds := [.data], laidTests := true, laidLooks := .later }
def NestPartsUptoCardSaid : Prop := Claim7.holds Tryd.pinned (.plain (OpenSpec.upto nestPartsSpec)) nestPartsUptoCard

/-- THE SECOND FORM's CARD OF 'camshaftlaw06.NestLoops'. -/
def nestLoopsUptoCard : Claim7 := { stood := { row := nestLoopsUptoRow, standIns := [], harness := (true, "95426d36aa429a127e1e18c6547957e3f6541fa475b8e0517b1ede6423369183"), looks := false }, kinds := [], alts := [], laidByText := true, laidKinds := [.data], laidTests := true, laidLooks := .later }
def NestLoopsUptoCardSaid : Prop := Claim7.holds Tryd.pinned (.plain (OpenSpec.upto nestLoopsSpec)) nestLoopsUptoCard
end Rows
end Go.Proofs.YtncnofcgpiaadaaDoor
