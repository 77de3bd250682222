/-
  No cell of these rows narrows 'for every input' (looked for: loops, veiled, ifaces, maps, wideKeys, modest, calm, conditions, laid).
  DERIVED. THE GIVEN ROWS OF THIS SEAT. 7 by the template 'for every input the law returns true; each argument reads behind the call as it read before'; 0 by the template 'total and deterministic' (their statements: YtpgmakhojehalaaTotals.lean).
  GIVEN WITH THE SEED: the statements are not yours to turn. If you find one false, say at which input.
  Laid BY PROGRAM, IN A SANDBOX (cutbox-rows.mjs): the forced cells as the released guide's own fill.sh prints them over the translation 917c124c7134e49d… (all of the seat's roots in one cut). By AI agents, Wed Nov 11 2026. No macro, syntax, notation, axiom, sorry.
-/
import Derived.Test.YtpgmakhojehalaaChecked
import GoSem.Claim
import GoSem.ClaimJoined
import GoSem.ClaimMapViews
import Derived.JoinedTies
import Derived.KernelRfl
namespace Go.Proofs.Ytpgmakhojehalaa
/- THE CELL 'sum', in the pinned program and in every row, IS THE sha256 OF THE DUMP (.gsa) THAT YtpgmakhojehalaaProg.lean LOADS. Nothing in Lean hashes anything: it is a label: what it is worth is what the hold of that sum in a sandbox is worth. -/
noncomputable def Try.pinned : Pinned := { name := "ytpgmakhojehalaa", sum := "917c124c7134e49d2c4fe1e2cfd9bde05fa47a14a7ead815ffbb9d65aef264fa", checked := Try.checked }
namespace Rows
def none {H : Type} : Left H := { results := [], args := [] }

/-- 'camshaftlaw10.NatTells': WHATEVER THE INPUT: true; the input reads as it did. -/
def natTellsSpec : ChangeSpec := { name := "natTells", fn := fun _ => fun
  | [d1, d2, d3] => { results := [.lit (.bool true)], args := [d1, d2, d3] }
  | _ => none }
def natTellsRow : OpenClaim := { program := "ytpgmakhojehalaa", sum := "917c124c7134e49d2c4fe1e2cfd9bde05fa47a14a7ead815ffbb9d65aef264fa", func := "camshaft/camshaftlaw10.NatTells", spec := "natTells", unfollowed := true, recurses := true, apart := false }
def NatTellsSaid : Prop := natTellsRow.holds Try.pinned (OpenSpec.ofChange natTellsSpec)

/-- ITS FALSE NEIGHBOUR: 'it returns false'. Refute it at one input. -/
def natTellsWrong : ChangeSpec := { name := "natTells", fn := fun _ => fun
  | [d1, d2, d3] => { results := [.lit (.bool false)], args := [d1, d2, d3] }
  | _ => none }
def NatTellsWrongFalsely : Prop := natTellsRow.holds Try.pinned (OpenSpec.ofChange natTellsWrong)

/-- 'camshaftlaw10.NatOrders': WHATEVER THE INPUT: true; the input reads as it did. -/
def natOrdersSpec : ChangeSpec := { name := "natOrders", fn := fun _ => fun
  | [d1, d2, d3] => { results := [.lit (.bool true)], args := [d1, d2, d3] }
  | _ => none }
def natOrdersRow : OpenClaim := { program := "ytpgmakhojehalaa", sum := "917c124c7134e49d2c4fe1e2cfd9bde05fa47a14a7ead815ffbb9d65aef264fa", func := "camshaft/camshaftlaw10.NatOrders", spec := "natOrders", unfollowed := true, recurses := true, apart := false }
def NatOrdersSaid : Prop := natOrdersRow.holds Try.pinned (OpenSpec.ofChange natOrdersSpec)

/-- ITS FALSE NEIGHBOUR: 'it returns false'. Refute it at one input. -/
def natOrdersWrong : ChangeSpec := { name := "natOrders", fn := fun _ => fun
  | [d1, d2, d3] => { results := [.lit (.bool false)], args := [d1, d2, d3] }
  | _ => none }
def NatOrdersWrongFalsely : Prop := natOrdersRow.holds Try.pinned (OpenSpec.ofChange natOrdersWrong)

/-- 'camshaftlaw10.NatCeils': WHATEVER THE INPUT: true; the input reads as it did. -/
def natCeilsSpec : ChangeSpec := { name := "natCeils", fn := fun _ => fun
  | [d1, d2] => { results := [.lit (.bool true)], args := [d1, d2] }
  | _ => none }
def natCeilsRow : OpenClaim := { program := "ytpgmakhojehalaa", sum := "917c124c7134e49d2c4fe1e2cfd9bde05fa47a14a7ead815ffbb9d65aef264fa", func := "camshaft/camshaftlaw10.NatCeils", spec := "natCeils", unfollowed := true, recurses := true, apart := false }
def NatCeilsSaid : Prop := natCeilsRow.holds Try.pinned (OpenSpec.ofChange natCeilsSpec)

/-- ITS FALSE NEIGHBOUR: 'it returns false'. Refute it at one input. -/
def natCeilsWrong : ChangeSpec := { name := "natCeils", fn := fun _ => fun
  | [d1, d2] => { results := [.lit (.bool false)], args := [d1, d2] }
  | _ => none }
def NatCeilsWrongFalsely : Prop := natCeilsRow.holds Try.pinned (OpenSpec.ofChange natCeilsWrong)

/-- 'camshaftlaw10.NatMost': WHATEVER THE INPUT: true; the input reads as it did. -/
def natMostSpec : ChangeSpec := { name := "natMost", fn := fun _ => fun
  | [d] => { results := [.lit (.bool true)], args := [d] }
  | _ => none }
def natMostRow : OpenClaim := { program := "ytpgmakhojehalaa", sum := "917c124c7134e49d2c4fe1e2cfd9bde05fa47a14a7ead815ffbb9d65aef264fa", func := "camshaft/camshaftlaw10.NatMost", spec := "natMost", unfollowed := true, recurses := true, apart := false }
def NatMostSaid : Prop := natMostRow.holds Try.pinned (OpenSpec.ofChange natMostSpec)

/-- ITS FALSE NEIGHBOUR: 'it returns false'. Refute it at one input. -/
def natMostWrong : ChangeSpec := { name := "natMost", fn := fun _ => fun
  | [d] => { results := [.lit (.bool false)], args := [d] }
  | _ => none }
def NatMostWrongFalsely : Prop := natMostRow.holds Try.pinned (OpenSpec.ofChange natMostWrong)

/-- 'camshaftlaw10.NatParts': WHATEVER THE INPUT: true; the input reads as it did. -/
def natPartsSpec : ChangeSpec := { name := "natParts", fn := fun _ => fun
  | [d1, d2, d3] => { results := [.lit (.bool true)], args := [d1, d2, d3] }
  | _ => none }
def natPartsRow : OpenClaim := { program := "ytpgmakhojehalaa", sum := "917c124c7134e49d2c4fe1e2cfd9bde05fa47a14a7ead815ffbb9d65aef264fa", func := "camshaft/camshaftlaw10.NatParts", spec := "natParts", unfollowed := true, recurses := true, apart := false }
def NatPartsSaid : Prop := natPartsRow.holds Try.pinned (OpenSpec.ofChange natPartsSpec)

/-- ITS FALSE NEIGHBOUR: 'it returns false'. Refute it at one input. -/
def natPartsWrong : ChangeSpec := { name := "natParts", fn := fun _ => fun
  | [d1, d2, d3] => { results := [.lit (.bool false)], args := [d1, d2, d3] }
  | _ => none }
def NatPartsWrongFalsely : Prop := natPartsRow.holds Try.pinned (OpenSpec.ofChange natPartsWrong)

/-- 'camshaftlaw10.NatMuls': WHATEVER THE INPUT: true; the input reads as it did. -/
def natMulsSpec : ChangeSpec := { name := "natMuls", fn := fun _ => fun
  | [d1, d2, d3] => { results := [.lit (.bool true)], args := [d1, d2, d3] }
  | _ => none }
def natMulsRow : OpenClaim := { program := "ytpgmakhojehalaa", sum := "917c124c7134e49d2c4fe1e2cfd9bde05fa47a14a7ead815ffbb9d65aef264fa", func := "camshaft/camshaftlaw10.NatMuls", spec := "natMuls", unfollowed := true, recurses := true, apart := false }
def NatMulsSaid : Prop := natMulsRow.holds Try.pinned (OpenSpec.ofChange natMulsSpec)

/-- ITS FALSE NEIGHBOUR: 'it returns false'. Refute it at one input. -/
def natMulsWrong : ChangeSpec := { name := "natMuls", fn := fun _ => fun
  | [d1, d2, d3] => { results := [.lit (.bool false)], args := [d1, d2, d3] }
  | _ => none }
def NatMulsWrongFalsely : Prop := natMulsRow.holds Try.pinned (OpenSpec.ofChange natMulsWrong)

/-- 'camshaftlaw10.NatSteps': WHATEVER THE INPUT: true; the input reads as it did. -/
def natStepsSpec : ChangeSpec := { name := "natSteps", fn := fun _ => fun
  | [d1, d2] => { results := [.lit (.bool true)], args := [d1, d2] }
  | _ => none }
def natStepsRow : OpenClaim := { program := "ytpgmakhojehalaa", sum := "917c124c7134e49d2c4fe1e2cfd9bde05fa47a14a7ead815ffbb9d65aef264fa", func := "camshaft/camshaftlaw10.NatSteps", spec := "natSteps", unfollowed := true, recurses := true, apart := false }
def NatStepsSaid : Prop := natStepsRow.holds Try.pinned (OpenSpec.ofChange natStepsSpec)

/-- ITS FALSE NEIGHBOUR: 'it returns false'. Refute it at one input. -/
def natStepsWrong : ChangeSpec := { name := "natSteps", fn := fun _ => fun
  | [d1, d2] => { results := [.lit (.bool false)], args := [d1, d2] }
  | _ => none }
def NatStepsWrongFalsely : Prop := natStepsRow.holds Try.pinned (OpenSpec.ofChange natStepsWrong)

/- THE SECOND FORM. 'bulk': how many values and letters a reading holds, each counted each time it is reached (what is shared counts as often as it is met; a slice's spare places count too). A statement '..UptoSaid' is the law's where the arguments, and the package variables that the reading takes, are together of bulk at most 1048576: NARROWER than '..Said'. Prove '..Said' where nothing that the law and all that it calls make is longer than what came in: it says more and counts as full. Else prove '..UptoSaid'. A law counts once. -/
mutual
def uptoBulk {H : Type} : DataW H → Nat
  | .lit (.string bytes) => bytes.length + 1
  | .lit _ => 1
  | .nil => 1
  | .ptr d => uptoBulk d + 1
  | .slice elems spare => uptoBulkAll elems + uptoBulkAll spare + 1
  | .agg parts => uptoBulkAll parts + 1
  | .iface _ d => uptoBulk d + 1
  | .map entries => uptoBulkEntries entries + 1
  | .held _ => 1
def uptoBulkAll {H : Type} : List (DataW H) → Nat
  | [] => 0
  | d :: r => uptoBulk d + uptoBulkAll r
def uptoBulkEntries {H : Type} : List (Lit × DataW H) → Nat
  | [] => 0
  | x :: r => uptoBulkEntry x + uptoBulkEntries r
def uptoBulkEntry {H : Type} : Lit × DataW H → Nat
  | (.string bytes, d) => bytes.length + uptoBulk d + 1
  | (_, d) => uptoBulk d + 1
 end
def uptoSmall : (H : Type) → List (DataW H) → Bool := fun _ ds => decide (uptoBulkAll ds ≤ 1048576)
def OpenSpec.upto (s : _root_.Go.ChangeSpec) : _root_.Go.OpenSpec := { _root_.Go.OpenSpec.ofChange s with cond := some uptoSmall }

/-- 'camshaftlaw10.NatTells', WHERE WHAT IT READS IS OF BULK AT MOST 1048576: true; the input reads as it did. -/
def natTellsUptoRow : OpenClaim := { program := "ytpgmakhojehalaa", sum := "917c124c7134e49d2c4fe1e2cfd9bde05fa47a14a7ead815ffbb9d65aef264fa", func := "camshaft/camshaftlaw10.NatTells", spec := "natTells", unfollowed := true, recurses := true, apart := false, narrowed := true }
def NatTellsUptoSaid : Prop := natTellsUptoRow.holds Try.pinned (OpenSpec.upto natTellsSpec)

/-- 'camshaftlaw10.NatOrders', WHERE WHAT IT READS IS OF BULK AT MOST 1048576: true; the input reads as it did. -/
def natOrdersUptoRow : OpenClaim := { program := "ytpgmakhojehalaa", sum := "917c124c7134e49d2c4fe1e2cfd9bde05fa47a14a7ead815ffbb9d65aef264fa", func := "camshaft/camshaftlaw10.NatOrders", spec := "natOrders", unfollowed := true, recurses := true, apart := false, narrowed := true }
def NatOrdersUptoSaid : Prop := natOrdersUptoRow.holds Try.pinned (OpenSpec.upto natOrdersSpec)

/-- 'camshaftlaw10.NatCeils', WHERE WHAT IT READS IS OF BULK AT MOST 1048576: true; the input reads as it did. -/
def natCeilsUptoRow : OpenClaim := { program := "ytpgmakhojehalaa", sum := "917c124c7134e49d2c4fe1e2cfd9bde05fa47a14a7ead815ffbb9d65aef264fa", func := "camshaft/camshaftlaw10.NatCeils", spec := "natCeils", unfollowed := true, recurses := true, apart := false, narrowed := true }
def NatCeilsUptoSaid : Prop := natCeilsUptoRow.holds Try.pinned (OpenSpec.upto natCeilsSpec)

/-- 'camshaftlaw10.NatMost', WHERE WHAT IT READS IS OF BULK AT MOST 1048576: true; the input reads as it did. -/
def natMostUptoRow : OpenClaim := { program := "ytpgmakhojehalaa", sum := "917c124c7134e49d2c4fe1e2cfd9bde05fa47a14a7ead815ffbb9d65aef264fa", func := "camshaft/camshaftlaw10.NatMost", spec := "natMost", unfollowed := true, recurses := true, apart := false, narrowed := true }
def NatMostUptoSaid : Prop := natMostUptoRow.holds Try.pinned (OpenSpec.upto natMostSpec)

/-- 'camshaftlaw10.NatParts', WHERE WHAT IT READS IS OF BULK AT MOST 1048576: true; the input reads as it did. -/
def natPartsUptoRow : OpenClaim := { program := "ytpgmakhojehalaa", sum := "917c124c7134e49d2c4fe1e2cfd9bde05fa47a14a7ead815ffbb9d65aef264fa", func := "camshaft/camshaftlaw10.NatParts", spec := "natParts", unfollowed := true, recurses := true, apart := false, narrowed := true }
def NatPartsUptoSaid : Prop := natPartsUptoRow.holds Try.pinned (OpenSpec.upto natPartsSpec)

/-- 'camshaftlaw10.NatMuls', WHERE WHAT IT READS IS OF BULK AT MOST 1048576: true; the input reads as it did. -/
def natMulsUptoRow : OpenClaim := { program := "ytpgmakhojehalaa", sum := "917c124c7134e49d2c4fe1e2cfd9bde05fa47a14a7ead815ffbb9d65aef264fa", func := "camshaft/camshaftlaw10.NatMuls", spec := "natMuls", unfollowed := true, recurses := true, apart := false, narrowed := true }
def NatMulsUptoSaid : Prop := natMulsUptoRow.holds Try.pinned (OpenSpec.upto natMulsSpec)

/-- 'camshaftlaw10.NatSteps', WHERE WHAT IT READS IS OF BULK AT MOST 1048576: true; the input reads as it did. -/
def natStepsUptoRow : OpenClaim := { program := "ytpgmakhojehalaa", sum := "917c124c7134e49d2c4fe1e2cfd9bde05fa47a14a7ead815ffbb9d65aef264fa", func := "camshaft/camshaftlaw10.NatSteps", spec := "natSteps", unfollowed := true, recurses := true, apart := false, narrowed := true }
def NatStepsUptoSaid : Prop := natStepsUptoRow.holds Try.pinned (OpenSpec.upto natStepsSpec)

end Rows
end Go.Proofs.Ytpgmakhojehalaa
