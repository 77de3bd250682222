/-
  DERIVED. GIVEN WITH THE SEED: THE CARDS: each row of YtacgnofmccennaaDoorRows.lean that lists a variable, with what it lists TIED to the program's text (the seventh form; the later family's looks); each row that meets fmt, with fmt's text TOLD by the authors' own Lean function (tested against real Go, not proved from fmt's source: count such statements apart). THE CARD IS WHAT COUNTS. Prove the row's statement (the work); the ties are given (YtacgnofmccennaaDoorTie.lean); close each card by the builder's one call (the guide's Derived/Test/ToyasCard.lean, 'card_holds'). Laid BY PROGRAM, IN A SANDBOX (cutbox-door.mjs). By AI agents, Wed Nov 11 2026. No macro, syntax, notation, axiom, sorry.
-/
import Derived.Test.YtacgnofmccennaaDoorRows
import GoSem.ClaimSeven
namespace Go.Proofs.YtacgnofmccennaaDoor
namespace Rows

/-- THE TIED CARD OF 'camshaftlaw09.CostTells'. -/
def costTellsCard : Claim7 := { stood := { row := costTellsRow, standIns := [], harness := (true, "f5c62c045b76f6dd467430b6917c1dfb28ce14dc63eeae7fb26f596a20988a37"), looks := false }, kinds := [], alts := [], laidByText := true, laidKinds := [.data], laidTests := true, laidLooks := .later }
def CostTellsCardSaid : Prop := Claim7.holds Tryd.pinned (.plain (OpenSpec.ofChange costTellsSpec)) costTellsCard

/-- THE TIED CARD OF 'camshaftlaw09.CostSums'. -/
def costSumsCard : Claim7 := { stood := { row := costSumsRow, standIns := [], harness := (true, "f5c62c045b76f6dd467430b6917c1dfb28ce14dc63eeae7fb26f596a20988a37"), looks := false }, kinds := [], alts := [], laidByText := true, laidKinds := [.data], laidTests := true, laidLooks := .later }
def CostSumsCardSaid : Prop := Claim7.holds Tryd.pinned (.plain (OpenSpec.ofChange costSumsSpec)) costSumsCard

/-- THE TIED CARD OF 'camshaftlaw09.CostParts'. -/
def costPartsCard : Claim7 := { stood := { row := costPartsRow, standIns := [], harness := (true, "f5c62c045b76f6dd467430b6917c1dfb28ce14dc63eeae7fb26f596a20988a37"), looks := false }, kinds := [], alts := [], laidByText := true, laidKinds := [.data], laidTests := true, laidLooks := .later }
def CostPartsCardSaid : Prop := Claim7.holds Tryd.pinned (.plain (OpenSpec.ofChange costPartsSpec)) costPartsCard

/-- THE TIED CARD OF 'camshaftlaw09.CostBound'. -/
def costBoundCard : Claim7 := { stood := { row := costBoundRow, standIns := [], harness := (true, "f5c62c045b76f6dd467430b6917c1dfb28ce14dc63eeae7fb26f596a20988a37"), looks := false }, kinds := [], alts := [], laidByText := true, laidKinds := [.data], laidTests := true, laidLooks := .later }
def CostBoundCardSaid : Prop := Claim7.holds Tryd.pinned (.plain (OpenSpec.ofChange costBoundSpec)) costBoundCard

/-- THE TIED CARD OF 'camshaftlaw09.CostRounds'. -/
def costRoundsCard : Claim7 := { stood := { row := costRoundsRow, standIns := [], harness := (true, "f5c62c045b76f6dd467430b6917c1dfb28ce14dc63eeae7fb26f596a20988a37"), looks := false }, kinds := [], alts := [], laidByText := true, laidKinds := [.data], laidTests := true, laidLooks := .later }
def CostRoundsCardSaid : Prop := Claim7.holds Tryd.pinned (.plain (OpenSpec.ofChange costRoundsSpec)) costRoundsCard

/-- THE SECOND FORM's CARD OF 'camshaftlaw09.CostTells'. -/
def costTellsUptoCard : Claim7 := { stood := { row := costTellsUptoRow, standIns := [], harness := (true, "f5c62c045b76f6dd467430b6917c1dfb28ce14dc63eeae7fb26f596a20988a37"), looks := false }, kinds := [], alts := [], laidByText := true, laidKinds := [.data], laidTests := true, laidLooks := .later }
def CostTellsUptoCardSaid : Prop := Claim7.holds Tryd.pinned (.plain (OpenSpec.upto costTellsSpec)) costTellsUptoCard

/-- THE SECOND FORM's CARD OF 'camshaftlaw09.CostSums'. -/
def costSumsUptoCard : Claim7 := { stood := { row := costSumsUptoRow, standIns := [], harness := (true, "f5c62c045b76f6dd467430b6917c1dfb28ce14dc63eeae7fb26f596a20988a37"), looks := false }, kinds := [], alts := [], laidByText := true, laidKinds := [.data], laidTests := true, laidLooks := .later }
def CostSumsUptoCardSaid : Prop := Claim7.holds Tryd.pinned (.plain (OpenSpec.upto costSumsSpec)) costSumsUptoCard

/-- THE SECOND FORM's CARD OF 'camshaftlaw09.CostParts'. -/
def costPartsUptoCard : Claim7 := { stood := { row := costPartsUptoRow, standIns := [], harness := (true, "f5c62c045b76f6dd467430b6917c1dfb28ce14dc63eeae7fb26f596a20988a37"), looks := false }, kinds := [], alts := [], laidByText := true, laidKinds := [.data], laidTests := true, laidLooks := .later }
def CostPartsUptoCardSaid : Prop := Claim7.holds Tryd.pinned (.plain (OpenSpec.upto costPartsSpec)) costPartsUptoCard

/-- THE SECOND FORM's CARD OF 'camshaftlaw09.CostBound'. -/
def costBoundUptoCard : Claim7 := { stood := { row := costBoundUptoRow, standIns := [], harness := (true, "f5c62c045b76f6dd467430b6917c1dfb28ce14dc63eeae7fb26f596a20988a37"), looks := false }, kinds := [], alts := [], laidByText := true, laidKinds := [.data], laidTests := true, laidLooks := .later }
def CostBoundUptoCardSaid : Prop := Claim7.holds Tryd.pinned (.plain (OpenSpec.upto costBoundSpec)) costBoundUptoCard

/-- THE SECOND FORM's CARD OF 'camshaftlaw09.CostRounds'. -/
def costRoundsUptoCard : Claim7 := { stood := { row := costRoundsUptoRow, standIns := [], harness := (true, "f5c62c045b76f6dd467430b6917c1dfb28ce14dc63eeae7fb26f596a20988a37"), looks := false }, kinds := [], alts := [], laidByText := true, laidKinds := [.data], laidTests := true, laidLooks := .later }
def CostRoundsUptoCardSaid : Prop := Claim7.holds Tryd.pinned (.plain (OpenSpec.upto costRoundsSpec)) costRoundsUptoCard
end Rows
end Go.Proofs.YtacgnofmccennaaDoor
