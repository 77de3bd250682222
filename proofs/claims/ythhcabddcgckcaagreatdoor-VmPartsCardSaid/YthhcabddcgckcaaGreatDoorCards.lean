/-
  DERIVED. GIVEN WITH THE SEED: THE CARDS: each row of YthhcabddcgckcaaGreatDoorRows.lean that lists a variable, with what it lists TIED to the program's text (the seventh form; the later family's looks); each row that meets fmt, with fmt's text TOLD by the authors' own Lean function (tested against real Go, not proved from fmt's source: count such statements apart). THE CARD IS WHAT COUNTS. Prove the row's statement (the work); the ties are given (YthhcabddcgckcaaGreatDoorTie.lean); close each card by the builder's one call (the guide's Derived/Test/ToyasCard.lean, 'card_holds'). Laid BY PROGRAM, IN A SANDBOX (cutbox-door.mjs). By AI agents, Wed Nov 11 2026. No macro, syntax, notation, axiom, sorry.
-/
import Derived.Test.YthhcabddcgckcaaGreatDoorRows
import GoSem.ClaimSeven
namespace Go.Proofs.YthhcabddcgckcaaGreatDoor
namespace Rows

/-- THE TIED CARD OF 'camshaftlaw08.VmTyped'. -/
def vmTypedCard : Claim7 := { stood := { row := vmTypedRow, standIns := [], harness := (true, "6a0952a9560af56323c5701fa4b4ad1179e7c8b44503defe2e19d70658a8cfb1"), looks := false }, kinds := [], alts := [], laidByText := true, laidKinds := [.data], laidTests := true, laidLooks := .later }
def VmTypedCardSaid : Prop := Claim7.holds Tryz.pinned (.plain (OpenSpec.ofChange vmTypedSpec)) vmTypedCard

/-- THE TIED CARD OF 'camshaftlaw08.VmHeld'. -/
def vmHeldCard : Claim7 := { stood := { row := vmHeldRow, standIns := [], harness := (true, "6a0952a9560af56323c5701fa4b4ad1179e7c8b44503defe2e19d70658a8cfb1"), looks := false }, kinds := [], alts := [], laidByText := true, laidKinds := [.data], laidTests := true, laidLooks := .later }
def VmHeldCardSaid : Prop := Claim7.holds Tryz.pinned (.plain (OpenSpec.ofChange vmHeldSpec)) vmHeldCard

/-- THE TIED CARD OF 'camshaftlaw08.VmEnds'. -/
def vmEndsCard : Claim7 := { stood := { row := vmEndsRow, standIns := [], harness := (true, "6a0952a9560af56323c5701fa4b4ad1179e7c8b44503defe2e19d70658a8cfb1"), looks := false }, kinds := [], alts := [], laidByText := true, laidKinds := [.data], laidTests := true, laidLooks := .later }
def VmEndsCardSaid : Prop := Claim7.holds Tryz.pinned (.plain (OpenSpec.ofChange vmEndsSpec)) vmEndsCard

/-- THE TIED CARD OF 'camshaftlaw08.VmNil'. -/
def vmNilCard : Claim7 := { stood := { row := vmNilRow, standIns := [], harness := (true, "6a0952a9560af56323c5701fa4b4ad1179e7c8b44503defe2e19d70658a8cfb1"), looks := false }, kinds := [], alts := [], laidByText := true, laidKinds := [.data], laidTests := true, laidLooks := .later }
def VmNilCardSaid : Prop := Claim7.holds Tryz.pinned (.plain (OpenSpec.ofChange vmNilSpec)) vmNilCard

/-- THE TIED CARD OF 'camshaftlaw08.VmAgain'. -/
def vmAgainCard : Claim7 := { stood := { row := vmAgainRow, standIns := [], harness := (true, "6a0952a9560af56323c5701fa4b4ad1179e7c8b44503defe2e19d70658a8cfb1"), looks := false }, kinds := [], alts := [], laidByText := true, laidKinds := [.data], laidTests := true, laidLooks := .later }
def VmAgainCardSaid : Prop := Claim7.holds Tryz.pinned (.plain (OpenSpec.ofChange vmAgainSpec)) vmAgainCard

/-- THE TIED CARD OF 'camshaftlaw08.VmParts'. -/
def vmPartsCard : Claim7 := { stood := { row := vmPartsRow, standIns := [], harness := (true, "6a0952a9560af56323c5701fa4b4ad1179e7c8b44503defe2e19d70658a8cfb1"), looks := false }, kinds := [], alts := [], laidByText := true, laidKinds := [.data], laidTests := true, laidLooks := .later }
def VmPartsCardSaid : Prop := Claim7.holds Tryz.pinned (.plain (OpenSpec.ofChange vmPartsSpec)) vmPartsCard

/-- THE SECOND FORM's CARD OF 'camshaftlaw08.VmTyped'. -/
def vmTypedUptoCard : Claim7 := { stood := { row := vmTypedUptoRow, standIns := [], harness := (true, "6a0952a9560af56323c5701fa4b4ad1179e7c8b44503defe2e19d70658a8cfb1"), looks := false }, kinds := [], alts := [], laidByText := true, laidKinds := [.data], laidTests := true, laidLooks := .later }
def VmTypedUptoCardSaid : Prop := Claim7.holds Tryz.pinned (.plain (OpenSpec.upto vmTypedSpec)) vmTypedUptoCard

/-- THE SECOND FORM's CARD OF 'camshaftlaw08.VmHeld'. -/
def vmHeldUptoCard : Claim7 := { stood := { row := vmHeldUptoRow, standIns := [], harness := (true, "6a0952a9560af56323c5701fa4b4ad1179e7c8b44503defe2e19d70658a8cfb1"), looks := false }, kinds := [], alts := [], laidByText := true, laidKinds := [.data], laidTests := true, laidLooks := .later }
def VmHeldUptoCardSaid : Prop := Claim7.holds Tryz.pinned (.plain (OpenSpec.upto vmHeldSpec)) vmHeldUptoCard

/-- THE SECOND FORM's CARD OF 'camshaftlaw08.VmEnds'. -/
def vmEndsUptoCard : Claim7 := { stood := { row := vmEndsUptoRow, standIns := [], harness := (true, "6a0952a9560af56323c5701fa4b4ad1179e7c8b44503defe2e19d70658a8cfb1"), looks := false }, kinds := [], alts := [], laidByText := true, laidKinds := [.data], laidTests := true, laidLooks := .later }
def VmEndsUptoCardSaid : Prop := Claim7.holds Tryz.pinned (.plain (OpenSpec.upto vmEndsSpec)) vmEndsUptoCard

/-- THE SECOND FORM's CARD OF 'camshaftlaw08.VmNil'. -/
def vmNilUptoCard : Claim7 := { stood := { row := vmNilUptoRow, standIns := [], harness := (true, "6a0952a9560af56323c5701fa4b4ad1179e7c8b44503defe2e19d70658a8cfb1"), looks := false }, kinds := [], alts := [], laidByText := true, laidKinds := [.data], laidTests := true, laidLooks := .later }
def VmNilUptoCardSaid : Prop := Claim7.holds Tryz.pinned (.plain (OpenSpec.upto vmNilSpec)) vmNilUptoCard

/-- THE SECOND FORM's CARD OF 'camshaftlaw08.VmAgain'. -/
def vmAgainUptoCard : Claim7 := { stood := { row := vmAgainUptoRow, standIns := [], harness := (true, "6a0952a9560af56323c5701fa4b4ad1179e7c8b44503defe2e19d70658a8cfb1"), looks := false }, kinds := [], alts := [], laidByText := true, laidKinds := [.data], laidTests := true, laidLooks := .later }
def VmAgainUptoCardSaid : Prop := Claim7.holds Tryz.pinned (.plain (OpenSpec.upto vmAgainSpec)) vmAgainUptoCard

/-- THE SECOND FORM's CARD OF 'camshaftlaw08.VmParts'. -/
def vmPartsUptoCard : Claim7 := { stood := { row := vmPartsUptoRow, standIns := [], harness := (true, "6a0952a9560af56323c5701fa4b4ad1179e7c8b44503defe2e19d70658a8cfb1"), looks := false }, kinds := [], alts := [], laidByText := true, laidKinds := [.data], laidTests := true, laidLooks := .later }
def VmPartsUptoCardSaid : Prop := Claim7.holds Tryz.pinned (.plain (OpenSpec.upto vmPartsSpec)) vmPartsUptoCard
end Rows
end Go.Proofs.YthhcabddcgckcaaGreatDoor
