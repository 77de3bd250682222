/-
  NARROWER THAN 'FOR EVERY INPUT', by the rows' own cells (each row's printed sentence says how): CheckParts: laid · CheckLocked: laid · CheckTimes: laid · CheckMore: laid · CheckEmpty: laid.
  DERIVED. THE GIVEN ROWS OF THIS SEAT. 5 by the template 'for every input the law returns true; each argument reads behind the call as it read before'; 0 by the template 'total and deterministic' (their statements: YthncbnalnfbpnaaDoorTotals.lean).
  GIVEN WITH THE SEED: the statements are not yours to turn. If you find one false, say at which input.
  Laid BY PROGRAM, IN A SANDBOX (cutbox-rows.mjs): the forced cells as the released guide's own fill.sh prints them over the translation 01f7a37fa7dccc5a… (all of the seat's roots in one cut). By AI agents, Wed Nov 11 2026. No macro, syntax, notation, axiom, sorry.
-/
import Derived.Test.YthncbnalnfbpnaaDoorChecked
import GoSem.Claim
import GoSem.ClaimJoined
import GoSem.ClaimMapViews
import Derived.JoinedTies
import Derived.KernelRfl
namespace Go.Proofs.YthncbnalnfbpnaaDoor
/- THE CELL 'sum', in the pinned program and in every row, IS THE sha256 OF THE DUMP (.gsa) THAT YthncbnalnfbpnaaDoorProg.lean LOADS. Nothing in Lean hashes anything: it is a label: what it is worth is what the hold of that sum in a sandbox is worth. -/
noncomputable def Tryd.pinned : Pinned := { name := "ythncbnalnfbpnaadoor", sum := "01f7a37fa7dccc5aefdd80017f3d422646dc8115d9a911b168626af188362699", checked := Tryd.checked }
namespace Rows
def none {H : Type} : Left H := { results := [], args := [] }

/- WHAT THE LISTED PACKAGE-LEVEL VARIABLES READ AS WHEN THE CALL BEGINS. Each datum BY PROGRAM (the guide's laid-datum.mjs) off the statement by which the dump's own 'gosem.cut.vars' lays the variable. In a bare row this is a premise. The card (YthncbnalnfbpnaaDoorCards.lean) ties it to the program's text. -/
def laid_camshaft_num_names {H : Type} : DataW H := .agg [.lit (.string []), .lit (.string [65, 68, 68]), .lit (.string [83, 85, 66]), .lit (.string [77, 85, 76]), .lit (.string [68, 73, 86]), .lit (.string [77, 79, 68]), .lit (.string [65, 78, 68]), .lit (.string [79, 82]), .lit (.string [88, 79, 82]), .lit (.string [83, 72, 76]), .lit (.string [83, 72, 82]), .lit (.string [76, 84]), .lit (.string [69, 81])]

/-- 'camshaftlaw12.CheckParts': WHATEVER THE INPUT: true; the input reads as it did. -/
def checkPartsSpec : ChangeSpec := { name := "checkParts", fn := fun _ => fun
  | [d] => { results := [.lit (.bool true)], args := [d] }
  | _ => none }
def checkPartsRow : OpenClaim := { program := "ythncbnalnfbpnaadoor", sum := "01f7a37fa7dccc5aefdd80017f3d422646dc8115d9a911b168626af188362699", func := "camshaft/camshaftlaw12.CheckParts", spec := "checkParts", unfollowed := true, recurses := true, named := ["camshaft/num.names"], apart := false, laid := [("camshaft/num.names", laid_camshaft_num_names)] }
def CheckPartsSaid : Prop := checkPartsRow.holds Tryd.pinned (OpenSpec.ofChange checkPartsSpec)

/-- ITS FALSE NEIGHBOUR: 'it returns false'. Refute it at one input. -/
def checkPartsWrong : ChangeSpec := { name := "checkParts", fn := fun _ => fun
  | [d] => { results := [.lit (.bool false)], args := [d] }
  | _ => none }
def CheckPartsWrongFalsely : Prop := checkPartsRow.holds Tryd.pinned (OpenSpec.ofChange checkPartsWrong)

/-- 'camshaftlaw12.CheckLocked': WHATEVER THE INPUT: true; the input reads as it did. -/
def checkLockedSpec : ChangeSpec := { name := "checkLocked", fn := fun _ => fun
  | [d1, d2] => { results := [.lit (.bool true)], args := [d1, d2] }
  | _ => none }
def checkLockedRow : OpenClaim := { program := "ythncbnalnfbpnaadoor", sum := "01f7a37fa7dccc5aefdd80017f3d422646dc8115d9a911b168626af188362699", func := "camshaft/camshaftlaw12.CheckLocked", spec := "checkLocked", unfollowed := true, recurses := true, named := ["camshaft/num.names"], apart := false, laid := [("camshaft/num.names", laid_camshaft_num_names)] }
def CheckLockedSaid : Prop := checkLockedRow.holds Tryd.pinned (OpenSpec.ofChange checkLockedSpec)

/-- ITS FALSE NEIGHBOUR: 'it returns false'. Refute it at one input. -/
def checkLockedWrong : ChangeSpec := { name := "checkLocked", fn := fun _ => fun
  | [d1, d2] => { results := [.lit (.bool false)], args := [d1, d2] }
  | _ => none }
def CheckLockedWrongFalsely : Prop := checkLockedRow.holds Tryd.pinned (OpenSpec.ofChange checkLockedWrong)

/-- 'camshaftlaw12.CheckTimes': WHATEVER THE INPUT: true; the input reads as it did. -/
def checkTimesSpec : ChangeSpec := { name := "checkTimes", fn := fun _ => fun
  | [d1, d2, d3] => { results := [.lit (.bool true)], args := [d1, d2, d3] }
  | _ => none }
def checkTimesRow : OpenClaim := { program := "ythncbnalnfbpnaadoor", sum := "01f7a37fa7dccc5aefdd80017f3d422646dc8115d9a911b168626af188362699", func := "camshaft/camshaftlaw12.CheckTimes", spec := "checkTimes", unfollowed := true, recurses := true, named := ["camshaft/num.names"], apart := false, laid := [("camshaft/num.names", laid_camshaft_num_names)] }
def CheckTimesSaid : Prop := checkTimesRow.holds Tryd.pinned (OpenSpec.ofChange checkTimesSpec)

/-- ITS FALSE NEIGHBOUR: 'it returns false'. Refute it at one input. -/
def checkTimesWrong : ChangeSpec := { name := "checkTimes", fn := fun _ => fun
  | [d1, d2, d3] => { results := [.lit (.bool false)], args := [d1, d2, d3] }
  | _ => none }
def CheckTimesWrongFalsely : Prop := checkTimesRow.holds Tryd.pinned (OpenSpec.ofChange checkTimesWrong)

/-- 'camshaftlaw12.CheckMore': WHATEVER THE INPUT: true; the input reads as it did. -/
def checkMoreSpec : ChangeSpec := { name := "checkMore", fn := fun _ => fun
  | [d1, d2, d3] => { results := [.lit (.bool true)], args := [d1, d2, d3] }
  | _ => none }
def checkMoreRow : OpenClaim := { program := "ythncbnalnfbpnaadoor", sum := "01f7a37fa7dccc5aefdd80017f3d422646dc8115d9a911b168626af188362699", func := "camshaft/camshaftlaw12.CheckMore", spec := "checkMore", unfollowed := true, recurses := true, named := ["camshaft/num.names"], apart := false, laid := [("camshaft/num.names", laid_camshaft_num_names)] }
def CheckMoreSaid : Prop := checkMoreRow.holds Tryd.pinned (OpenSpec.ofChange checkMoreSpec)

/-- ITS FALSE NEIGHBOUR: 'it returns false'. Refute it at one input. -/
def checkMoreWrong : ChangeSpec := { name := "checkMore", fn := fun _ => fun
  | [d1, d2, d3] => { results := [.lit (.bool false)], args := [d1, d2, d3] }
  | _ => none }
def CheckMoreWrongFalsely : Prop := checkMoreRow.holds Tryd.pinned (OpenSpec.ofChange checkMoreWrong)

/-- 'camshaftlaw12.CheckEmpty': WHATEVER THE INPUT: true; the input reads as it did. -/
def checkEmptySpec : ChangeSpec := { name := "checkEmpty", fn := fun _ => fun
  | [d1, d2] => { results := [.lit (.bool true)], args := [d1, d2] }
  | _ => none }
def checkEmptyRow : OpenClaim := { program := "ythncbnalnfbpnaadoor", sum := "01f7a37fa7dccc5aefdd80017f3d422646dc8115d9a911b168626af188362699", func := "camshaft/camshaftlaw12.CheckEmpty", spec := "checkEmpty", unfollowed := true, recurses := true, named := ["camshaft/num.names"], apart := false, laid := [("camshaft/num.names", laid_camshaft_num_names)] }
def CheckEmptySaid : Prop := checkEmptyRow.holds Tryd.pinned (OpenSpec.ofChange checkEmptySpec)

/-- ITS FALSE NEIGHBOUR: 'it returns false'. Refute it at one input. -/
def checkEmptyWrong : ChangeSpec := { name := "checkEmpty", fn := fun _ => fun
  | [d1, d2] => { results := [.lit (.bool false)], args := [d1, d2] }
  | _ => none }
def CheckEmptyWrongFalsely : Prop := checkEmptyRow.holds Tryd.pinned (OpenSpec.ofChange checkEmptyWrong)

/- THE SECOND FORM. 'bulk': how many values and letters a reading holds, each counted each time it is reached (what is shared counts as often as it is met; a slice's spare places count too). A statement '..UptoSaid' is the law's where the arguments, and the package variables that the reading takes, are together of bulk at most 1048576: NARROWER than '..Said'. Prove '..Said' where nothing that the law and all that it calls make is longer than what came in: it says more and counts as full. Else prove '..UptoSaid'. A law counts once. -/
mutual
def uptoBulk {H : Type} : DataW H → Nat
  | .lit (.string bytes) => bytes.length + 1
  | .lit _ => 1
  | .nil => 1
  | .ptr d => uptoBulk d + 1
  | .slice elems spare => uptoBulkAll elems + uptoBulkAll spare + 1
  | .agg parts => uptoBulkAll parts + 1
  | .iface _ d => uptoBulk d + 1
  | .map entries => uptoBulkEntries entries + 1
  | .held _ => 1
def uptoBulkAll {H : Type} : List (DataW H) → Nat
  | [] => 0
  | d :: r => uptoBulk d + uptoBulkAll r
def uptoBulkEntries {H : Type} : List (Lit × DataW H) → Nat
  | [] => 0
  | x :: r => uptoBulkEntry x + uptoBulkEntries r
def uptoBulkEntry {H : Type} : Lit × DataW H → Nat
  | (.string bytes, d) => bytes.length + uptoBulk d + 1
  | (_, d) => uptoBulk d + 1
 end
def uptoSmall : (H : Type) → List (DataW H) → Bool := fun _ ds => decide (uptoBulkAll ds ≤ 1048576)
def OpenSpec.upto (s : _root_.Go.ChangeSpec) : _root_.Go.OpenSpec := { _root_.Go.OpenSpec.ofChange s with cond := some uptoSmall }

/-- 'camshaftlaw12.CheckParts', WHERE WHAT IT READS IS OF BULK AT MOST 1048576: true; the input reads as it did. -/
def checkPartsUptoRow : OpenClaim := { program := "ythncbnalnfbpnaadoor", sum := "01f7a37fa7dccc5aefdd80017f3d422646dc8115d9a911b168626af188362699", func := "camshaft/camshaftlaw12.CheckParts", spec := "checkParts", unfollowed := true, recurses := true, named := ["camshaft/num.names"], apart := false, laid := [("camshaft/num.names", laid_camshaft_num_names)], narrowed := true }
def CheckPartsUptoSaid : Prop := checkPartsUptoRow.holds Tryd.pinned (OpenSpec.upto checkPartsSpec)

/-- 'camshaftlaw12.CheckLocked', WHERE WHAT IT READS IS OF BULK AT MOST 1048576: true; the input reads as it did. -/
def checkLockedUptoRow : OpenClaim := { program := "ythncbnalnfbpnaadoor", sum := "01f7a37fa7dccc5aefdd80017f3d422646dc8115d9a911b168626af188362699", func := "camshaft/camshaftlaw12.CheckLocked", spec := "checkLocked", unfollowed := true, recurses := true, named := ["camshaft/num.names"], apart := false, laid := [("camshaft/num.names", laid_camshaft_num_names)], narrowed := true }
def CheckLockedUptoSaid : Prop := checkLockedUptoRow.holds Tryd.pinned (OpenSpec.upto checkLockedSpec)

/-- 'camshaftlaw12.CheckTimes', WHERE WHAT IT READS IS OF BULK AT MOST 1048576: true; the input reads as it did. -/
def checkTimesUptoRow : OpenClaim := { program := "ythncbnalnfbpnaadoor", sum := "01f7a37fa7dccc5aefdd80017f3d422646dc8115d9a911b168626af188362699", func := "camshaft/camshaftlaw12.CheckTimes", spec := "checkTimes", unfollowed := true, recurses := true, named := ["camshaft/num.names"], apart := false, laid := [("camshaft/num.names", laid_camshaft_num_names)], narrowed := true }
def CheckTimesUptoSaid : Prop := checkTimesUptoRow.holds Tryd.pinned (OpenSpec.upto checkTimesSpec)

/-- 'camshaftlaw12.CheckMore', WHERE WHAT IT READS IS OF BULK AT MOST 1048576: true; the input reads as it did. -/
def checkMoreUptoRow : OpenClaim := { program := "ythncbnalnfbpnaadoor", sum := "01f7a37fa7dccc5aefdd80017f3d422646dc8115d9a911b168626af188362699", func := "camshaft/camshaftlaw12.CheckMore", spec := "checkMore", unfollowed := true, recurses := true, named := ["camshaft/num.names"], apart := false, laid := [("camshaft/num.names", laid_camshaft_num_names)], narrowed := true }
def CheckMoreUptoSaid : Prop := checkMoreUptoRow.holds Tryd.pinned (OpenSpec.upto checkMoreSpec)

/-- 'camshaftlaw12.CheckEmpty', WHERE WHAT IT READS IS OF BULK AT MOST 1048576: true; the input reads as it did. -/
def checkEmptyUptoRow : OpenClaim := { program := "ythncbnalnfbpnaadoor", sum := "01f7a37fa7dccc5aefdd80017f3d422646dc8115d9a911b168626af188362699", func := "camshaft/camshaftlaw12.CheckEmpty", spec := "checkEmpty", unfollowed := true, recurses := true, named := ["camshaft/num.names"], apart := false, laid := [("camshaft/num.names", laid_camshaft_num_names)], narrowed := true }
def CheckEmptyUptoSaid : Prop := checkEmptyUptoRow.holds Tryd.pinned (OpenSpec.upto checkEmptySpec)

end Rows
end Go.Proofs.YthncbnalnfbpnaaDoor
