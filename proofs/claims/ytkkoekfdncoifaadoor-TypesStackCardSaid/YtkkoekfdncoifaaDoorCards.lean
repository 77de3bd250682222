/-
  DERIVED. GIVEN WITH THE SEED: THE CARDS: each row of YtkkoekfdncoifaaDoorRows.lean that lists a variable, with what it lists TIED to the program's text (the seventh form; the later family's looks); each row that meets fmt, with fmt's text TOLD by the authors' own Lean function (tested against real Go, not proved from fmt's source: count such statements apart). THE CARD IS WHAT COUNTS. Prove the row's statement (the work); the ties are given (YtkkoekfdncoifaaDoorTie.lean); close each card by the builder's one call (the guide's Derived/Test/ToyasCard.lean, 'card_holds'). Laid BY PROGRAM, IN A SANDBOX (cutbox-door.mjs). By AI agents, Wed Nov 11 2026. No macro, syntax, notation, axiom, sorry.
-/
import Derived.Test.YtkkoekfdncoifaaDoorRows
import GoSem.ClaimSeven
namespace Go.Proofs.YtkkoekfdncoifaaDoor
namespace Rows

/-- THE TIED CARD OF 'camshaftlaw07.TypesStack'. -/
def typesStackCard : Claim7 := { stood := { row := typesStackRow, standIns := [], harness := (true, "cbf4f7fdaf071a9ac800f0ff030b0eb666335f899ee93631d5f274748071aadb"), looks := false }, kinds := [], alts := [], laidByText := true, laidKinds := [.data], laidTests := true, laidLooks := .later }
def TypesStackCardSaid : Prop := Claim7.holds Tryd.pinned (.plain (OpenSpec.ofChange typesStackSpec)) typesStackCard

/-- THE TIED CARD OF 'camshaftlaw07.TypesFlow'. -/
def typesFlowCard : Claim7 := { stood := { row := typesFlowRow, standIns := [], harness := (true, "cbf4f7fdaf071a9ac800f0ff030b0eb666335f899ee93631d5f274748071aadb"), looks := false }, kinds := [], alts := [], laidByText := true, laidKinds := [.data], laidTests := true, laidLooks := .later }
def TypesFlowCardSaid : Prop := Claim7.holds Tryd.pinned (.plain (OpenSpec.ofChange typesFlowSpec)) typesFlowCard

/-- THE TIED CARD OF 'camshaftlaw07.TypesMore'. -/
def typesMoreCard : Claim7 := { stood := { row := typesMoreRow, standIns := [], harness := (true, "cbf4f7fdaf071a9ac800f0ff030b0eb666335f899ee93631d5f274748071aadb"), looks := false }, kinds := [], alts := [], laidByText := true, laidKinds := [.data], laidTests := true, laidLooks := .later }
def TypesMoreCardSaid : Prop := Claim7.holds Tryd.pinned (.plain (OpenSpec.ofChange typesMoreSpec)) typesMoreCard

/-- THE TIED CARD OF 'camshaftlaw07.TypesKinds'. -/
def typesKindsCard : Claim7 := { stood := { row := typesKindsRow, standIns := [], harness := (true, "cbf4f7fdaf071a9ac800f0ff030b0eb666335f899ee93631d5f274748071aadb"), looks := false }, kinds := [], alts := [], laidByText := true, laidKinds := [.data], laidTests := true, laidLooks := .later }
def TypesKindsCardSaid : Prop := Claim7.holds Tryd.pinned (.plain (OpenSpec.ofChange typesKindsSpec)) typesKindsCard

/-- THE TIED CARD OF 'camshaftlaw07.TypesDeep'. -/
def typesDeepCard : Claim7 := { stood := { row := typesDeepRow, standIns := [], harness := (true, "cbf4f7fdaf071a9ac800f0ff030b0eb666335f899ee93631d5f274748071aadb"), looks := false }, kinds := [], alts := [], laidByText := true, laidKinds := [.data], laidTests := true, laidLooks := .later }
def TypesDeepCardSaid : Prop := Claim7.holds Tryd.pinned (.plain (OpenSpec.ofChange typesDeepSpec)) typesDeepCard

/-- THE SECOND FORM's CARD OF 'camshaftlaw07.TypesStack'. -/
def typesStackUptoCard : Claim7 := { stood := { row := typesStackUptoRow, standIns := [], harness := (true, "cbf4f7fdaf071a9ac800f0ff030b0eb666335f899ee93631d5f274748071aadb"), looks := false }, kinds := [], alts := [], laidByText := true, laidKinds := [.data], laidTests := true, laidLooks := .later }
def TypesStackUptoCardSaid : Prop := Claim7.holds Tryd.pinned (.plain (OpenSpec.upto typesStackSpec)) typesStackUptoCard

/-- THE SECOND FORM's CARD OF 'camshaftlaw07.TypesFlow'. -/
def typesFlowUptoCard : Claim7 := { stood := { row := typesFlowUptoRow, standIns := [], harness := (true, "cbf4f7fdaf071a9ac800f0ff030b0eb666335f899ee93631d5f274748071aadb"), looks := false }, kinds := [], alts := [], laidByText := true, laidKinds := [.data], laidTests := true, laidLooks := .later }
def TypesFlowUptoCardSaid : Prop := Claim7.holds Tryd.pinned (.plain (OpenSpec.upto typesFlowSpec)) typesFlowUptoCard

/-- THE SECOND FORM's CARD OF 'camshaftlaw07.TypesMore'. -/
def typesMoreUptoCard : Claim7 := { stood := { row := typesMoreUptoRow, standIns := [], harness := (true, "cbf4f7fdaf071a9ac800f0ff030b0eb666335f899ee93631d5f274748071aadb"), looks := false }, kinds := [], alts := [], laidByText := true, laidKinds := [.data], laidTests := true, laidLooks := .later }
def TypesMoreUptoCardSaid : Prop := Claim7.holds Tryd.pinned (.plain (OpenSpec.upto typesMoreSpec)) typesMoreUptoCard

/-- THE SECOND FORM's CARD OF 'camshaftlaw07.TypesKinds'. -/
def typesKindsUptoCard : Claim7 := { stood := { row := typesKindsUptoRow, standIns := [], harness := (true, "cbf4f7fdaf071a9ac800f0ff030b0eb666335f899ee93631d5f274748071aadb"), looks := false }, kinds := [], alts := [], laidByText := true, laidKinds := [.data], laidTests := true, laidLooks := .later }
def TypesKindsUptoCardSaid : Prop := Claim7.holds Tryd.pinned (.plain (OpenSpec.upto typesKindsSpec)) typesKindsUptoCard

/-- THE SECOND FORM's CARD OF 'camshaftlaw07.TypesDeep'. -/
def typesDeepUptoCard : Claim7 := { stood := { row := typesDeepUptoRow, standIns := [], harness := (true, "cbf4f7fdaf071a9ac800f0ff030b0eb666335f899ee93631d5f274748071aadb"), looks := false }, kinds := [], alts := [], laidByText := true, laidKinds := [.data], laidTests := true, laidLooks := .later }
def TypesDeepUptoCardSaid : Prop := Claim7.holds Tryd.pinned (.plain (OpenSpec.upto typesDeepSpec)) typesDeepUptoCard
end Rows
end Go.Proofs.YtkkoekfdncoifaaDoor
