/-
  NARROWER THAN 'FOR EVERY INPUT', by the rows' own cells (each row's printed sentence says how): CostTells: laid · CostSums: laid · CostParts: laid · CostBound: laid · CostRounds: laid.
  DERIVED. THE GIVEN ROWS OF THIS SEAT. 5 by the template 'for every input the law returns true; each argument reads behind the call as it read before'; 0 by the template 'total and deterministic' (their statements: YtacgnofmccennaaDoorTotals.lean).
  GIVEN WITH THE SEED: the statements are not yours to turn. If you find one false, say at which input.
  Laid BY PROGRAM, IN A SANDBOX (cutbox-rows.mjs): the forced cells as the released guide's own fill.sh prints them over the translation 445294700892f857… (all of the seat's roots in one cut). By AI agents, Wed Nov 11 2026. No macro, syntax, notation, axiom, sorry.
-/
import Derived.Test.YtacgnofmccennaaDoorChecked
import GoSem.Claim
import GoSem.ClaimJoined
import GoSem.ClaimMapViews
import Derived.JoinedTies
import Derived.KernelRfl
namespace Go.Proofs.YtacgnofmccennaaDoor
/- THE CELL 'sum', in the pinned program and in every row, IS THE sha256 OF THE DUMP (.gsa) THAT YtacgnofmccennaaDoorProg.lean LOADS. Nothing in Lean hashes anything: it is a label: what it is worth is what the hold of that sum in a sandbox is worth. -/
noncomputable def Tryd.pinned : Pinned := { name := "ytacgnofmccennaadoor", sum := "445294700892f85777218f45d79c3aadbc82daab4fd3869c53e3a09106f36300", checked := Tryd.checked }
namespace Rows
def none {H : Type} : Left H := { results := [], args := [] }

/- WHAT THE LISTED PACKAGE-LEVEL VARIABLES READ AS WHEN THE CALL BEGINS. Each datum BY PROGRAM (the guide's laid-datum.mjs) off the statement by which the dump's own 'gosem.cut.vars' lays the variable. In a bare row this is a premise. The card (YtacgnofmccennaaDoorCards.lean) ties it to the program's text. -/
def laid_camshaft_num_names {H : Type} : DataW H := .agg [.lit (.string []), .lit (.string [65, 68, 68]), .lit (.string [83, 85, 66]), .lit (.string [77, 85, 76]), .lit (.string [68, 73, 86]), .lit (.string [77, 79, 68]), .lit (.string [65, 78, 68]), .lit (.string [79, 82]), .lit (.string [88, 79, 82]), .lit (.string [83, 72, 76]), .lit (.string [83, 72, 82]), .lit (.string [76, 84]), .lit (.string [69, 81])]

/-- 'camshaftlaw09.CostTells': WHATEVER THE INPUT: true; the input reads as it did. -/
def costTellsSpec : ChangeSpec := { name := "costTells", fn := fun _ => fun
  | [d] => { results := [.lit (.bool true)], args := [d] }
  | _ => none }
def costTellsRow : OpenClaim := { program := "ytacgnofmccennaadoor", sum := "445294700892f85777218f45d79c3aadbc82daab4fd3869c53e3a09106f36300", func := "camshaft/camshaftlaw09.CostTells", spec := "costTells", unfollowed := true, recurses := true, named := ["camshaft/num.names"], apart := false, laid := [("camshaft/num.names", laid_camshaft_num_names)] }
def CostTellsSaid : Prop := costTellsRow.holds Tryd.pinned (OpenSpec.ofChange costTellsSpec)

/-- ITS FALSE NEIGHBOUR: 'it returns false'. Refute it at one input. -/
def costTellsWrong : ChangeSpec := { name := "costTells", fn := fun _ => fun
  | [d] => { results := [.lit (.bool false)], args := [d] }
  | _ => none }
def CostTellsWrongFalsely : Prop := costTellsRow.holds Tryd.pinned (OpenSpec.ofChange costTellsWrong)

/-- 'camshaftlaw09.CostSums': WHATEVER THE INPUT: true; the input reads as it did. -/
def costSumsSpec : ChangeSpec := { name := "costSums", fn := fun _ => fun
  | [d1, d2, d3] => { results := [.lit (.bool true)], args := [d1, d2, d3] }
  | _ => none }
def costSumsRow : OpenClaim := { program := "ytacgnofmccennaadoor", sum := "445294700892f85777218f45d79c3aadbc82daab4fd3869c53e3a09106f36300", func := "camshaft/camshaftlaw09.CostSums", spec := "costSums", unfollowed := true, recurses := true, named := ["camshaft/num.names"], apart := false, laid := [("camshaft/num.names", laid_camshaft_num_names)] }
def CostSumsSaid : Prop := costSumsRow.holds Tryd.pinned (OpenSpec.ofChange costSumsSpec)

/-- ITS FALSE NEIGHBOUR: 'it returns false'. Refute it at one input. -/
def costSumsWrong : ChangeSpec := { name := "costSums", fn := fun _ => fun
  | [d1, d2, d3] => { results := [.lit (.bool false)], args := [d1, d2, d3] }
  | _ => none }
def CostSumsWrongFalsely : Prop := costSumsRow.holds Tryd.pinned (OpenSpec.ofChange costSumsWrong)

/-- 'camshaftlaw09.CostParts': WHATEVER THE INPUT: true; the input reads as it did. -/
def costPartsSpec : ChangeSpec := { name := "costParts", fn := fun _ => fun
  | [d] => { results := [.lit (.bool true)], args := [d] }
  | _ => none }
def costPartsRow : OpenClaim := { program := "ytacgnofmccennaadoor", sum := "445294700892f85777218f45d79c3aadbc82daab4fd3869c53e3a09106f36300", func := "camshaft/camshaftlaw09.CostParts", spec := "costParts", unfollowed := true, recurses := true, named := ["camshaft/num.names"], apart := false, laid := [("camshaft/num.names", laid_camshaft_num_names)] }
def CostPartsSaid : Prop := costPartsRow.holds Tryd.pinned (OpenSpec.ofChange costPartsSpec)

/-- ITS FALSE NEIGHBOUR: 'it returns false'. Refute it at one input. -/
def costPartsWrong : ChangeSpec := { name := "costParts", fn := fun _ => fun
  | [d] => { results := [.lit (.bool false)], args := [d] }
  | _ => none }
def CostPartsWrongFalsely : Prop := costPartsRow.holds Tryd.pinned (OpenSpec.ofChange costPartsWrong)

/-- 'camshaftlaw09.CostBound': WHATEVER THE INPUT: true; the input reads as it did. -/
def costBoundSpec : ChangeSpec := { name := "costBound", fn := fun _ => fun
  | [d] => { results := [.lit (.bool true)], args := [d] }
  | _ => none }
def costBoundRow : OpenClaim := { program := "ytacgnofmccennaadoor", sum := "445294700892f85777218f45d79c3aadbc82daab4fd3869c53e3a09106f36300", func := "camshaft/camshaftlaw09.CostBound", spec := "costBound", unfollowed := true, recurses := true, named := ["camshaft/num.names"], apart := false, laid := [("camshaft/num.names", laid_camshaft_num_names)] }
def CostBoundSaid : Prop := costBoundRow.holds Tryd.pinned (OpenSpec.ofChange costBoundSpec)

/-- ITS FALSE NEIGHBOUR: 'it returns false'. Refute it at one input. -/
def costBoundWrong : ChangeSpec := { name := "costBound", fn := fun _ => fun
  | [d] => { results := [.lit (.bool false)], args := [d] }
  | _ => none }
def CostBoundWrongFalsely : Prop := costBoundRow.holds Tryd.pinned (OpenSpec.ofChange costBoundWrong)

/-- 'camshaftlaw09.CostRounds': WHATEVER THE INPUT: true; the input reads as it did. -/
def costRoundsSpec : ChangeSpec := { name := "costRounds", fn := fun _ => fun
  | [d1, d2] => { results := [.lit (.bool true)], args := [d1, d2] }
  | _ => none }
def costRoundsRow : OpenClaim := { program := "ytacgnofmccennaadoor", sum := "445294700892f85777218f45d79c3aadbc82daab4fd3869c53e3a09106f36300", func := "camshaft/camshaftlaw09.CostRounds", spec := "costRounds", unfollowed := true, recurses := true, named := ["camshaft/num.names"], apart := false, laid := [("camshaft/num.names", laid_camshaft_num_names)] }
def CostRoundsSaid : Prop := costRoundsRow.holds Tryd.pinned (OpenSpec.ofChange costRoundsSpec)

/-- ITS FALSE NEIGHBOUR: 'it returns false'. Refute it at one input. -/
def costRoundsWrong : ChangeSpec := { name := "costRounds", fn := fun _ => fun
  | [d1, d2] => { results := [.lit (.bool false)], args := [d1, d2] }
  | _ => none }
def CostRoundsWrongFalsely : Prop := costRoundsRow.holds Tryd.pinned (OpenSpec.ofChange costRoundsWrong)

/- THE SECOND FORM. 'bulk': how many values and letters a reading holds, each counted each time it is reached (what is shared counts as often as it is met; a slice's spare places count too). A statement '..UptoSaid' is the law's where the arguments, and the package variables that the reading takes, are together of bulk at most 1048576: NARROWER than '..Said'. Prove '..Said' where nothing that the law and all that it calls make is longer than what came in: it says more and counts as full. Else prove '..UptoSaid'. A law counts once. -/
mutual
def uptoBulk {H : Type} : DataW H → Nat
  | .lit (.string bytes) => bytes.length + 1
  | .lit _ => 1
  | .nil => 1
  | .ptr d => uptoBulk d + 1
  | .slice elems spare => uptoBulkAll elems + uptoBulkAll spare + 1
  | .agg parts => uptoBulkAll parts + 1
  | .iface _ d => uptoBulk d + 1
  | .map entries => uptoBulkEntries entries + 1
  | .held _ => 1
def uptoBulkAll {H : Type} : List (DataW H) → Nat
  | [] => 0
  | d :: r => uptoBulk d + uptoBulkAll r
def uptoBulkEntries {H : Type} : List (Lit × DataW H) → Nat
  | [] => 0
  | x :: r => uptoBulkEntry x + uptoBulkEntries r
def uptoBulkEntry {H : Type} : Lit × DataW H → Nat
  | (.string bytes, d) => bytes.length + uptoBulk d + 1
  | (_, d) => uptoBulk d + 1
 end
def uptoSmall : (H : Type) → List (DataW H) → Bool := fun _ ds => decide (uptoBulkAll ds ≤ 1048576)
def OpenSpec.upto (s : _root_.Go.ChangeSpec) : _root_.Go.OpenSpec := { _root_.Go.OpenSpec.ofChange s with cond := some uptoSmall }

/-- 'camshaftlaw09.CostTells', WHERE WHAT IT READS IS OF BULK AT MOST 1048576: true; the input reads as it did. -/
def costTellsUptoRow : OpenClaim := { program := "ytacgnofmccennaadoor", sum := "445294700892f85777218f45d79c3aadbc82daab4fd3869c53e3a09106f36300", func := "camshaft/camshaftlaw09.CostTells", spec := "costTells", unfollowed := true, recurses := true, named := ["camshaft/num.names"], apart := false, laid := [("camshaft/num.names", laid_camshaft_num_names)], narrowed := true }
def CostTellsUptoSaid : Prop := costTellsUptoRow.holds Tryd.pinned (OpenSpec.upto costTellsSpec)

/-- 'camshaftlaw09.CostSums', WHERE WHAT IT READS IS OF BULK AT MOST 1048576: true; the input reads as it did. -/
def costSumsUptoRow : OpenClaim := { program := "ytacgnofmccennaadoor", sum := "445294700892f85777218f45d79c3aadbc82daab4fd3869c53e3a09106f36300", func := "camshaft/camshaftlaw09.CostSums", spec := "costSums", unfollowed := true, recurses := true, named := ["camshaft/num.names"], apart := false, laid := [("camshaft/num.names", laid_camshaft_num_names)], narrowed := true }
def CostSumsUptoSaid : Prop := costSumsUptoRow.holds Tryd.pinned (OpenSpec.upto costSumsSpec)

/-- 'camshaftlaw09.CostParts', WHERE WHAT IT READS IS OF BULK AT MOST 1048576: true; the input reads as it did. -/
def costPartsUptoRow : OpenClaim := { program := "ytacgnofmccennaadoor", sum := "445294700892f85777218f45d79c3aadbc82daab4fd3869c53e3a09106f36300", func := "camshaft/camshaftlaw09.CostParts", spec := "costParts", unfollowed := true, recurses := true, named := ["camshaft/num.names"], apart := false, laid := [("camshaft/num.names", laid_camshaft_num_names)], narrowed := true }
def CostPartsUptoSaid : Prop := costPartsUptoRow.holds Tryd.pinned (OpenSpec.upto costPartsSpec)

/-- 'camshaftlaw09.CostBound', WHERE WHAT IT READS IS OF BULK AT MOST 1048576: true; the input reads as it did. -/
def costBoundUptoRow : OpenClaim := { program := "ytacgnofmccennaadoor", sum := "445294700892f85777218f45d79c3aadbc82daab4fd3869c53e3a09106f36300", func := "camshaft/camshaftlaw09.CostBound", spec := "costBound", unfollowed := true, recurses := true, named := ["camshaft/num.names"], apart := false, laid := [("camshaft/num.names", laid_camshaft_num_names)], narrowed := true }
def CostBoundUptoSaid : Prop := costBoundUptoRow.holds Tryd.pinned (OpenSpec.upto costBoundSpec)

/-- 'camshaftlaw09.CostRounds', WHERE WHAT IT READS IS OF BULK AT MOST 1048576: true; the input reads as it did. -/
def costRoundsUptoRow : OpenClaim := { program := "ytacgnofmccennaadoor", sum := "445294700892f85777218f45d79c3aadbc82daab4fd3869c53e3a09106f36300", func := "camshaft/camshaftlaw09.CostRounds", spec := "costRounds", unfollowed := true, recurses := true, named := ["camshaft/num.names"], apart := false, laid := [("camshaft/num.names", laid_camshaft_num_names)], narrowed := true }
def CostRoundsUptoSaid : Prop := costRoundsUptoRow.holds Tryd.pinned (OpenSpec.upto costRoundsSpec)

end Rows
end Go.Proofs.YtacgnofmccennaaDoor
