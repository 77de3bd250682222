/-
  NARROWER THAN 'FOR EVERY INPUT', by the rows' own cells (each row's printed sentence says how): VmTyped: laid · VmHeld: laid · VmEnds: laid · VmNil: laid · VmAgain: laid · VmParts: laid.
  DERIVED. THE GIVEN ROWS OF THIS SEAT. 6 by the template 'for every input the law returns true; each argument reads behind the call as it read before'; 0 by the template 'total and deterministic' (their statements: YthhcabddcgckcaaGreatDoorTotals.lean).
  GIVEN WITH THE SEED: the statements are not yours to turn. If you find one false, say at which input.
  Laid BY PROGRAM, IN A SANDBOX (cutbox-rows.mjs): the forced cells as the released guide's own fill.sh prints them over the translation c35261f008067b4e… (all of the seat's roots in one cut). By AI agents, Wed Nov 11 2026. No macro, syntax, notation, axiom, sorry.
-/
import Derived.Test.YthhcabddcgckcaaGreatDoorChecked
import GoSem.Claim
import GoSem.ClaimJoined
import GoSem.ClaimMapViews
import Derived.JoinedTies
import Derived.KernelRfl
namespace Go.Proofs.YthhcabddcgckcaaGreatDoor
/- THE CELL 'sum', in the pinned program and in every row, IS THE sha256 OF THE DUMP (.gsa) THAT YthhcabddcgckcaaGreatDoorProg.lean LOADS. Nothing in Lean hashes anything: it is a label: what it is worth is what the hold of that sum in a sandbox is worth. -/
noncomputable def Tryz.pinned : Pinned := { name := "ythhcabddcgckcaagreatdoor", sum := "c35261f008067b4ea330f73c396861922483c5993fa308724f8dc0c66f906db1", checked := Tryz.checked }
namespace Rows
def none {H : Type} : Left H := { results := [], args := [] }

/- WHAT THE LISTED PACKAGE-LEVEL VARIABLES READ AS WHEN THE CALL BEGINS. Each datum BY PROGRAM (the guide's laid-datum.mjs) off the statement by which the dump's own 'gosem.cut.vars' lays the variable. In a bare row this is a premise. The card (YthhcabddcgckcaaGreatDoorCards.lean) ties it to the program's text. -/
def laid_camshaft_num_names {H : Type} : DataW H := .agg [.lit (.string []), .lit (.string [65, 68, 68]), .lit (.string [83, 85, 66]), .lit (.string [77, 85, 76]), .lit (.string [68, 73, 86]), .lit (.string [77, 79, 68]), .lit (.string [65, 78, 68]), .lit (.string [79, 82]), .lit (.string [88, 79, 82]), .lit (.string [83, 72, 76]), .lit (.string [83, 72, 82]), .lit (.string [76, 84]), .lit (.string [69, 81])]

/-- 'camshaftlaw08.VmTyped': WHATEVER THE INPUT: true; the input reads as it did. -/
def vmTypedSpec : ChangeSpec := { name := "vmTyped", fn := fun _ => fun
  | [d1, d2, d3] => { results := [.lit (.bool true)], args := [d1, d2, d3] }
  | _ => none }
def vmTypedRow : OpenClaim := { program := "ythhcabddcgckcaagreatdoor", sum := "c35261f008067b4ea330f73c396861922483c5993fa308724f8dc0c66f906db1", func := "camshaft/camshaftlaw08.VmTyped", spec := "vmTyped", unfollowed := true, recurses := true, named := ["camshaft/num.names"], apart := false, laid := [("camshaft/num.names", laid_camshaft_num_names)] }
def VmTypedSaid : Prop := vmTypedRow.holds Tryz.pinned (OpenSpec.ofChange vmTypedSpec)

/-- ITS FALSE NEIGHBOUR: 'it returns false'. Refute it at one input. -/
def vmTypedWrong : ChangeSpec := { name := "vmTyped", fn := fun _ => fun
  | [d1, d2, d3] => { results := [.lit (.bool false)], args := [d1, d2, d3] }
  | _ => none }
def VmTypedWrongFalsely : Prop := vmTypedRow.holds Tryz.pinned (OpenSpec.ofChange vmTypedWrong)

/-- 'camshaftlaw08.VmHeld': WHATEVER THE INPUT: true; the input reads as it did. -/
def vmHeldSpec : ChangeSpec := { name := "vmHeld", fn := fun _ => fun
  | [d1, d2, d3] => { results := [.lit (.bool true)], args := [d1, d2, d3] }
  | _ => none }
def vmHeldRow : OpenClaim := { program := "ythhcabddcgckcaagreatdoor", sum := "c35261f008067b4ea330f73c396861922483c5993fa308724f8dc0c66f906db1", func := "camshaft/camshaftlaw08.VmHeld", spec := "vmHeld", unfollowed := true, recurses := true, named := ["camshaft/num.names"], apart := false, laid := [("camshaft/num.names", laid_camshaft_num_names)] }
def VmHeldSaid : Prop := vmHeldRow.holds Tryz.pinned (OpenSpec.ofChange vmHeldSpec)

/-- ITS FALSE NEIGHBOUR: 'it returns false'. Refute it at one input. -/
def vmHeldWrong : ChangeSpec := { name := "vmHeld", fn := fun _ => fun
  | [d1, d2, d3] => { results := [.lit (.bool false)], args := [d1, d2, d3] }
  | _ => none }
def VmHeldWrongFalsely : Prop := vmHeldRow.holds Tryz.pinned (OpenSpec.ofChange vmHeldWrong)

/-- 'camshaftlaw08.VmEnds': WHATEVER THE INPUT: true; the input reads as it did. -/
def vmEndsSpec : ChangeSpec := { name := "vmEnds", fn := fun _ => fun
  | [d1, d2, d3] => { results := [.lit (.bool true)], args := [d1, d2, d3] }
  | _ => none }
def vmEndsRow : OpenClaim := { program := "ythhcabddcgckcaagreatdoor", sum := "c35261f008067b4ea330f73c396861922483c5993fa308724f8dc0c66f906db1", func := "camshaft/camshaftlaw08.VmEnds", spec := "vmEnds", unfollowed := true, recurses := true, named := ["camshaft/num.names"], apart := false, laid := [("camshaft/num.names", laid_camshaft_num_names)] }
def VmEndsSaid : Prop := vmEndsRow.holds Tryz.pinned (OpenSpec.ofChange vmEndsSpec)

/-- ITS FALSE NEIGHBOUR: 'it returns false'. Refute it at one input. -/
def vmEndsWrong : ChangeSpec := { name := "vmEnds", fn := fun _ => fun
  | [d1, d2, d3] => { results := [.lit (.bool false)], args := [d1, d2, d3] }
  | _ => none }
def VmEndsWrongFalsely : Prop := vmEndsRow.holds Tryz.pinned (OpenSpec.ofChange vmEndsWrong)

/-- 'camshaftlaw08.VmNil': WHATEVER THE INPUT: true; the input reads as it did. -/
def vmNilSpec : ChangeSpec := { name := "vmNil", fn := fun _ => fun
  | [d] => { results := [.lit (.bool true)], args := [d] }
  | _ => none }
def vmNilRow : OpenClaim := { program := "ythhcabddcgckcaagreatdoor", sum := "c35261f008067b4ea330f73c396861922483c5993fa308724f8dc0c66f906db1", func := "camshaft/camshaftlaw08.VmNil", spec := "vmNil", unfollowed := true, recurses := true, named := ["camshaft/num.names"], apart := false, laid := [("camshaft/num.names", laid_camshaft_num_names)] }
def VmNilSaid : Prop := vmNilRow.holds Tryz.pinned (OpenSpec.ofChange vmNilSpec)

/-- ITS FALSE NEIGHBOUR: 'it returns false'. Refute it at one input. -/
def vmNilWrong : ChangeSpec := { name := "vmNil", fn := fun _ => fun
  | [d] => { results := [.lit (.bool false)], args := [d] }
  | _ => none }
def VmNilWrongFalsely : Prop := vmNilRow.holds Tryz.pinned (OpenSpec.ofChange vmNilWrong)

/-- 'camshaftlaw08.VmAgain': WHATEVER THE INPUT: true; the input reads as it did. -/
def vmAgainSpec : ChangeSpec := { name := "vmAgain", fn := fun _ => fun
  | [d1, d2, d3] => { results := [.lit (.bool true)], args := [d1, d2, d3] }
  | _ => none }
def vmAgainRow : OpenClaim := { program := "ythhcabddcgckcaagreatdoor", sum := "c35261f008067b4ea330f73c396861922483c5993fa308724f8dc0c66f906db1", func := "camshaft/camshaftlaw08.VmAgain", spec := "vmAgain", unfollowed := true, recurses := true, named := ["camshaft/num.names"], apart := false, laid := [("camshaft/num.names", laid_camshaft_num_names)] }
def VmAgainSaid : Prop := vmAgainRow.holds Tryz.pinned (OpenSpec.ofChange vmAgainSpec)

/-- ITS FALSE NEIGHBOUR: 'it returns false'. Refute it at one input. -/
def vmAgainWrong : ChangeSpec := { name := "vmAgain", fn := fun _ => fun
  | [d1, d2, d3] => { results := [.lit (.bool false)], args := [d1, d2, d3] }
  | _ => none }
def VmAgainWrongFalsely : Prop := vmAgainRow.holds Tryz.pinned (OpenSpec.ofChange vmAgainWrong)

/-- 'camshaftlaw08.VmParts': WHATEVER THE INPUT: true; the input reads as it did. -/
def vmPartsSpec : ChangeSpec := { name := "vmParts", fn := fun _ => fun
  | [d1, d2, d3] => { results := [.lit (.bool true)], args := [d1, d2, d3] }
  | _ => none }
def vmPartsRow : OpenClaim := { program := "ythhcabddcgckcaagreatdoor", sum := "c35261f008067b4ea330f73c396861922483c5993fa308724f8dc0c66f906db1", func := "camshaft/camshaftlaw08.VmParts", spec := "vmParts", unfollowed := true, recurses := true, named := ["camshaft/num.names"], apart := false, laid := [("camshaft/num.names", laid_camshaft_num_names)] }
def VmPartsSaid : Prop := vmPartsRow.holds Tryz.pinned (OpenSpec.ofChange vmPartsSpec)

/-- ITS FALSE NEIGHBOUR: 'it returns false'. Refute it at one input. -/
def vmPartsWrong : ChangeSpec := { name := "vmParts", fn := fun _ => fun
  | [d1, d2, d3] => { results := [.lit (.bool false)], args := [d1, d2, d3] }
  | _ => none }
def VmPartsWrongFalsely : Prop := vmPartsRow.holds Tryz.pinned (OpenSpec.ofChange vmPartsWrong)

/- THE SECOND FORM. 'bulk': how many values and letters a reading holds, each counted each time it is reached (what is shared counts as often as it is met; a slice's spare places count too). A statement '..UptoSaid' is the law's where the arguments, and the package variables that the reading takes, are together of bulk at most 1048576: NARROWER than '..Said'. Prove '..Said' where nothing that the law and all that it calls make is longer than what came in: it says more and counts as full. Else prove '..UptoSaid'. A law counts once. -/
mutual
def uptoBulk {H : Type} : DataW H → Nat
  | .lit (.string bytes) => bytes.length + 1
  | .lit _ => 1
  | .nil => 1
  | .ptr d => uptoBulk d + 1
  | .slice elems spare => uptoBulkAll elems + uptoBulkAll spare + 1
  | .agg parts => uptoBulkAll parts + 1
  | .iface _ d => uptoBulk d + 1
  | .map entries => uptoBulkEntries entries + 1
  | .held _ => 1
def uptoBulkAll {H : Type} : List (DataW H) → Nat
  | [] => 0
  | d :: r => uptoBulk d + uptoBulkAll r
def uptoBulkEntries {H : Type} : List (Lit × DataW H) → Nat
  | [] => 0
  | x :: r => uptoBulkEntry x + uptoBulkEntries r
def uptoBulkEntry {H : Type} : Lit × DataW H → Nat
  | (.string bytes, d) => bytes.length + uptoBulk d + 1
  | (_, d) => uptoBulk d + 1
 end
def uptoSmall : (H : Type) → List (DataW H) → Bool := fun _ ds => decide (uptoBulkAll ds ≤ 1048576)
def OpenSpec.upto (s : _root_.Go.ChangeSpec) : _root_.Go.OpenSpec := { _root_.Go.OpenSpec.ofChange s with cond := some uptoSmall }

/-- 'camshaftlaw08.VmTyped', WHERE WHAT IT READS IS OF BULK AT MOST 1048576: true; the input reads as it did. -/
def vmTypedUptoRow : OpenClaim := { program := "ythhcabddcgckcaagreatdoor", sum := "c35261f008067b4ea330f73c396861922483c5993fa308724f8dc0c66f906db1", func := "camshaft/camshaftlaw08.VmTyped", spec := "vmTyped", unfollowed := true, recurses := true, named := ["camshaft/num.names"], apart := false, laid := [("camshaft/num.names", laid_camshaft_num_names)], narrowed := true }
def VmTypedUptoSaid : Prop := vmTypedUptoRow.holds Tryz.pinned (OpenSpec.upto vmTypedSpec)

/-- 'camshaftlaw08.VmHeld', WHERE WHAT IT READS IS OF BULK AT MOST 1048576: true; the input reads as it did. -/
def vmHeldUptoRow : OpenClaim := { program := "ythhcabddcgckcaagreatdoor", sum := "c35261f008067b4ea330f73c396861922483c5993fa308724f8dc0c66f906db1", func := "camshaft/camshaftlaw08.VmHeld", spec := "vmHeld", unfollowed := true, recurses := true, named := ["camshaft/num.names"], apart := false, laid := [("camshaft/num.names", laid_camshaft_num_names)], narrowed := true }
def VmHeldUptoSaid : Prop := vmHeldUptoRow.holds Tryz.pinned (OpenSpec.upto vmHeldSpec)

/-- 'camshaftlaw08.VmEnds', WHERE WHAT IT READS IS OF BULK AT MOST 1048576: true; the input reads as it did. -/
def vmEndsUptoRow : OpenClaim := { program := "ythhcabddcgckcaagreatdoor", sum := "c35261f008067b4ea330f73c396861922483c5993fa308724f8dc0c66f906db1", func := "camshaft/camshaftlaw08.VmEnds", spec := "vmEnds", unfollowed := true, recurses := true, named := ["camshaft/num.names"], apart := false, laid := [("camshaft/num.names", laid_camshaft_num_names)], narrowed := true }
def VmEndsUptoSaid : Prop := vmEndsUptoRow.holds Tryz.pinned (OpenSpec.upto vmEndsSpec)

/-- 'camshaftlaw08.VmNil', WHERE WHAT IT READS IS OF BULK AT MOST 1048576: true; the input reads as it did. -/
def vmNilUptoRow : OpenClaim := { program := "ythhcabddcgckcaagreatdoor", sum := "c35261f008067b4ea330f73c396861922483c5993fa308724f8dc0c66f906db1", func := "camshaft/camshaftlaw08.VmNil", spec := "vmNil", unfollowed := true, recurses := true, named := ["camshaft/num.names"], apart := false, laid := [("camshaft/num.names", laid_camshaft_num_names)], narrowed := true }
def VmNilUptoSaid : Prop := vmNilUptoRow.holds Tryz.pinned (OpenSpec.upto vmNilSpec)

/-- 'camshaftlaw08.VmAgain', WHERE WHAT IT READS IS OF BULK AT MOST 1048576: true; the input reads as it did. -/
def vmAgainUptoRow : OpenClaim := { program := "ythhcabddcgckcaagreatdoor", sum := "c35261f008067b4ea330f73c396861922483c5993fa308724f8dc0c66f906db1", func := "camshaft/camshaftlaw08.VmAgain", spec := "vmAgain", unfollowed := true, recurses := true, named := ["camshaft/num.names"], apart := false, laid := [("camshaft/num.names", laid_camshaft_num_names)], narrowed := true }
def VmAgainUptoSaid : Prop := vmAgainUptoRow.holds Tryz.pinned (OpenSpec.upto vmAgainSpec)

/-- 'camshaftlaw08.VmParts', WHERE WHAT IT READS IS OF BULK AT MOST 1048576: true; the input reads as it did. -/
def vmPartsUptoRow : OpenClaim := { program := "ythhcabddcgckcaagreatdoor", sum := "c35261f008067b4ea330f73c396861922483c5993fa308724f8dc0c66f906db1", func := "camshaft/camshaftlaw08.VmParts", spec := "vmParts", unfollowed := true, recurses := true, named := ["camshaft/num.names"], apart := false, laid := [("camshaft/num.names", laid_camshaft_num_names)], narrowed := true }
def VmPartsUptoSaid : Prop := vmPartsUptoRow.holds Tryz.pinned (OpenSpec.upto vmPartsSpec)

end Rows
end Go.Proofs.YthhcabddcgckcaaGreatDoor
