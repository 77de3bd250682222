/-
  NARROWER THAN 'FOR EVERY INPUT', by the rows' own cells (each row's printed sentence says how): TypesStack: laid · TypesFlow: laid · TypesMore: laid · TypesKinds: laid · TypesDeep: laid.
  DERIVED. THE GIVEN ROWS OF THIS SEAT. 5 by the template 'for every input the law returns true; each argument reads behind the call as it read before'; 0 by the template 'total and deterministic' (their statements: YtkkoekfdncoifaaDoorTotals.lean).
  GIVEN WITH THE SEED: the statements are not yours to turn. If you find one false, say at which input.
  Laid BY PROGRAM, IN A SANDBOX (cutbox-rows.mjs): the forced cells as the released guide's own fill.sh prints them over the translation d51fec7126c27da4… (all of the seat's roots in one cut). By AI agents, Wed Nov 11 2026. No macro, syntax, notation, axiom, sorry.
-/
import Derived.Test.YtkkoekfdncoifaaDoorChecked
import GoSem.Claim
import GoSem.ClaimJoined
import GoSem.ClaimMapViews
import Derived.JoinedTies
import Derived.KernelRfl
namespace Go.Proofs.YtkkoekfdncoifaaDoor
/- THE CELL 'sum', in the pinned program and in every row, IS THE sha256 OF THE DUMP (.gsa) THAT YtkkoekfdncoifaaDoorProg.lean LOADS. Nothing in Lean hashes anything: it is a label: what it is worth is what the hold of that sum in a sandbox is worth. -/
noncomputable def Tryd.pinned : Pinned := { name := "ytkkoekfdncoifaadoor", sum := "d51fec7126c27da40d6b664b479d8d6c685d13523e5bb61a0a507e0f8a2f7e55", checked := Tryd.checked }
namespace Rows
def none {H : Type} : Left H := { results := [], args := [] }

/- WHAT THE LISTED PACKAGE-LEVEL VARIABLES READ AS WHEN THE CALL BEGINS. Each datum BY PROGRAM (the guide's laid-datum.mjs) off the statement by which the dump's own 'gosem.cut.vars' lays the variable. In a bare row this is a premise. The card (YtkkoekfdncoifaaDoorCards.lean) ties it to the program's text. -/
def laid_camshaft_num_names {H : Type} : DataW H := .agg [.lit (.string []), .lit (.string [65, 68, 68]), .lit (.string [83, 85, 66]), .lit (.string [77, 85, 76]), .lit (.string [68, 73, 86]), .lit (.string [77, 79, 68]), .lit (.string [65, 78, 68]), .lit (.string [79, 82]), .lit (.string [88, 79, 82]), .lit (.string [83, 72, 76]), .lit (.string [83, 72, 82]), .lit (.string [76, 84]), .lit (.string [69, 81])]

/-- 'camshaftlaw07.TypesStack': WHATEVER THE INPUT: true; the input reads as it did. -/
def typesStackSpec : ChangeSpec := { name := "typesStack", fn := fun _ => fun
  | [d] => { results := [.lit (.bool true)], args := [d] }
  | _ => none }
def typesStackRow : OpenClaim := { program := "ytkkoekfdncoifaadoor", sum := "d51fec7126c27da40d6b664b479d8d6c685d13523e5bb61a0a507e0f8a2f7e55", func := "camshaft/camshaftlaw07.TypesStack", spec := "typesStack", unfollowed := true, recurses := true, named := ["camshaft/num.names"], apart := false, laid := [("camshaft/num.names", laid_camshaft_num_names)] }
def TypesStackSaid : Prop := typesStackRow.holds Tryd.pinned (OpenSpec.ofChange typesStackSpec)

/-- ITS FALSE NEIGHBOUR: 'it returns false'. Refute it at one input. -/
def typesStackWrong : ChangeSpec := { name := "typesStack", fn := fun _ => fun
  | [d] => { results := [.lit (.bool false)], args := [d] }
  | _ => none }
def TypesStackWrongFalsely : Prop := typesStackRow.holds Tryd.pinned (OpenSpec.ofChange typesStackWrong)

/-- 'camshaftlaw07.TypesFlow': WHATEVER THE INPUT: true; the input reads as it did. -/
def typesFlowSpec : ChangeSpec := { name := "typesFlow", fn := fun _ => fun
  | [d] => { results := [.lit (.bool true)], args := [d] }
  | _ => none }
def typesFlowRow : OpenClaim := { program := "ytkkoekfdncoifaadoor", sum := "d51fec7126c27da40d6b664b479d8d6c685d13523e5bb61a0a507e0f8a2f7e55", func := "camshaft/camshaftlaw07.TypesFlow", spec := "typesFlow", unfollowed := true, recurses := true, named := ["camshaft/num.names"], apart := false, laid := [("camshaft/num.names", laid_camshaft_num_names)] }
def TypesFlowSaid : Prop := typesFlowRow.holds Tryd.pinned (OpenSpec.ofChange typesFlowSpec)

/-- ITS FALSE NEIGHBOUR: 'it returns false'. Refute it at one input. -/
def typesFlowWrong : ChangeSpec := { name := "typesFlow", fn := fun _ => fun
  | [d] => { results := [.lit (.bool false)], args := [d] }
  | _ => none }
def TypesFlowWrongFalsely : Prop := typesFlowRow.holds Tryd.pinned (OpenSpec.ofChange typesFlowWrong)

/-- 'camshaftlaw07.TypesMore': WHATEVER THE INPUT: true; the input reads as it did. -/
def typesMoreSpec : ChangeSpec := { name := "typesMore", fn := fun _ => fun
  | [d1, d2] => { results := [.lit (.bool true)], args := [d1, d2] }
  | _ => none }
def typesMoreRow : OpenClaim := { program := "ytkkoekfdncoifaadoor", sum := "d51fec7126c27da40d6b664b479d8d6c685d13523e5bb61a0a507e0f8a2f7e55", func := "camshaft/camshaftlaw07.TypesMore", spec := "typesMore", unfollowed := true, recurses := true, named := ["camshaft/num.names"], apart := false, laid := [("camshaft/num.names", laid_camshaft_num_names)] }
def TypesMoreSaid : Prop := typesMoreRow.holds Tryd.pinned (OpenSpec.ofChange typesMoreSpec)

/-- ITS FALSE NEIGHBOUR: 'it returns false'. Refute it at one input. -/
def typesMoreWrong : ChangeSpec := { name := "typesMore", fn := fun _ => fun
  | [d1, d2] => { results := [.lit (.bool false)], args := [d1, d2] }
  | _ => none }
def TypesMoreWrongFalsely : Prop := typesMoreRow.holds Tryd.pinned (OpenSpec.ofChange typesMoreWrong)

/-- 'camshaftlaw07.TypesKinds': WHATEVER THE INPUT: true; the input reads as it did. -/
def typesKindsSpec : ChangeSpec := { name := "typesKinds", fn := fun _ => fun
  | [d1, d2, d3] => { results := [.lit (.bool true)], args := [d1, d2, d3] }
  | _ => none }
def typesKindsRow : OpenClaim := { program := "ytkkoekfdncoifaadoor", sum := "d51fec7126c27da40d6b664b479d8d6c685d13523e5bb61a0a507e0f8a2f7e55", func := "camshaft/camshaftlaw07.TypesKinds", spec := "typesKinds", unfollowed := true, recurses := true, named := ["camshaft/num.names"], apart := false, laid := [("camshaft/num.names", laid_camshaft_num_names)] }
def TypesKindsSaid : Prop := typesKindsRow.holds Tryd.pinned (OpenSpec.ofChange typesKindsSpec)

/-- ITS FALSE NEIGHBOUR: 'it returns false'. Refute it at one input. -/
def typesKindsWrong : ChangeSpec := { name := "typesKinds", fn := fun _ => fun
  | [d1, d2, d3] => { results := [.lit (.bool false)], args := [d1, d2, d3] }
  | _ => none }
def TypesKindsWrongFalsely : Prop := typesKindsRow.holds Tryd.pinned (OpenSpec.ofChange typesKindsWrong)

/-- 'camshaftlaw07.TypesDeep': WHATEVER THE INPUT: true; the input reads as it did. -/
def typesDeepSpec : ChangeSpec := { name := "typesDeep", fn := fun _ => fun
  | [d] => { results := [.lit (.bool true)], args := [d] }
  | _ => none }
def typesDeepRow : OpenClaim := { program := "ytkkoekfdncoifaadoor", sum := "d51fec7126c27da40d6b664b479d8d6c685d13523e5bb61a0a507e0f8a2f7e55", func := "camshaft/camshaftlaw07.TypesDeep", spec := "typesDeep", unfollowed := true, recurses := true, named := ["camshaft/num.names"], apart := false, laid := [("camshaft/num.names", laid_camshaft_num_names)] }
def TypesDeepSaid : Prop := typesDeepRow.holds Tryd.pinned (OpenSpec.ofChange typesDeepSpec)

/-- ITS FALSE NEIGHBOUR: 'it returns false'. Refute it at one input. -/
def typesDeepWrong : ChangeSpec := { name := "typesDeep", fn := fun _ => fun
  | [d] => { results := [.lit (.bool false)], args := [d] }
  | _ => none }
def TypesDeepWrongFalsely : Prop := typesDeepRow.holds Tryd.pinned (OpenSpec.ofChange typesDeepWrong)

/- THE SECOND FORM. 'bulk': how many values and letters a reading holds, each counted each time it is reached (what is shared counts as often as it is met; a slice's spare places count too). A statement '..UptoSaid' is the law's where the arguments, and the package variables that the reading takes, are together of bulk at most 1048576: NARROWER than '..Said'. Prove '..Said' where nothing that the law and all that it calls make is longer than what came in: it says more and counts as full. Else prove '..UptoSaid'. A law counts once. -/
mutual
def uptoBulk {H : Type} : DataW H → Nat
  | .lit (.string bytes) => bytes.length + 1
  | .lit _ => 1
  | .nil => 1
  | .ptr d => uptoBulk d + 1
  | .slice elems spare => uptoBulkAll elems + uptoBulkAll spare + 1
  | .agg parts => uptoBulkAll parts + 1
  | .iface _ d => uptoBulk d + 1
  | .map entries => uptoBulkEntries entries + 1
  | .held _ => 1
def uptoBulkAll {H : Type} : List (DataW H) → Nat
  | [] => 0
  | d :: r => uptoBulk d + uptoBulkAll r
def uptoBulkEntries {H : Type} : List (Lit × DataW H) → Nat
  | [] => 0
  | x :: r => uptoBulkEntry x + uptoBulkEntries r
def uptoBulkEntry {H : Type} : Lit × DataW H → Nat
  | (.string bytes, d) => bytes.length + uptoBulk d + 1
  | (_, d) => uptoBulk d + 1
 end
def uptoSmall : (H : Type) → List (DataW H) → Bool := fun _ ds => decide (uptoBulkAll ds ≤ 1048576)
def OpenSpec.upto (s : _root_.Go.ChangeSpec) : _root_.Go.OpenSpec := { _root_.Go.OpenSpec.ofChange s with cond := some uptoSmall }

/-- 'camshaftlaw07.TypesStack', WHERE WHAT IT READS IS OF BULK AT MOST 1048576: true; the input reads as it did. -/
def typesStackUptoRow : OpenClaim := { program := "ytkkoekfdncoifaadoor", sum := "d51fec7126c27da40d6b664b479d8d6c685d13523e5bb61a0a507e0f8a2f7e55", func := "camshaft/camshaftlaw07.TypesStack", spec := "typesStack", unfollowed := true, recurses := true, named := ["camshaft/num.names"], apart := false, laid := [("camshaft/num.names", laid_camshaft_num_names)], narrowed := true }
def TypesStackUptoSaid : Prop := typesStackUptoRow.holds Tryd.pinned (OpenSpec.upto typesStackSpec)

/-- 'camshaftlaw07.TypesFlow', WHERE WHAT IT READS IS OF BULK AT MOST 1048576: true; the input reads as it did. -/
def typesFlowUptoRow : OpenClaim := { program := "ytkkoekfdncoifaadoor", sum := "d51fec7126c27da40d6b664b479d8d6c685d13523e5bb61a0a507e0f8a2f7e55", func := "camshaft/camshaftlaw07.TypesFlow", spec := "typesFlow", unfollowed := true, recurses := true, named := ["camshaft/num.names"], apart := false, laid := [("camshaft/num.names", laid_camshaft_num_names)], narrowed := true }
def TypesFlowUptoSaid : Prop := typesFlowUptoRow.holds Tryd.pinned (OpenSpec.upto typesFlowSpec)

/-- 'camshaftlaw07.TypesMore', WHERE WHAT IT READS IS OF BULK AT MOST 1048576: true; the input reads as it did. -/
def typesMoreUptoRow : OpenClaim := { program := "ytkkoekfdncoifaadoor", sum := "d51fec7126c27da40d6b664b479d8d6c685d13523e5bb61a0a507e0f8a2f7e55", func := "camshaft/camshaftlaw07.TypesMore", spec := "typesMore", unfollowed := true, recurses := true, named := ["camshaft/num.names"], apart := false, laid := [("camshaft/num.names", laid_camshaft_num_names)], narrowed := true }
def TypesMoreUptoSaid : Prop := typesMoreUptoRow.holds Tryd.pinned (OpenSpec.upto typesMoreSpec)

/-- 'camshaftlaw07.TypesKinds', WHERE WHAT IT READS IS OF BULK AT MOST 1048576: true; the input reads as it did. -/
def typesKindsUptoRow : OpenClaim := { program := "ytkkoekfdncoifaadoor", sum := "d51fec7126c27da40d6b664b479d8d6c685d13523e5bb61a0a507e0f8a2f7e55", func := "camshaft/camshaftlaw07.TypesKinds", spec := "typesKinds", unfollowed := true, recurses := true, named := ["camshaft/num.names"], apart := false, laid := [("camshaft/num.names", laid_camshaft_num_names)], narrowed := true }
def TypesKindsUptoSaid : Prop := typesKindsUptoRow.holds Tryd.pinned (OpenSpec.upto typesKindsSpec)

/-- 'camshaftlaw07.TypesDeep', WHERE WHAT IT READS IS OF BULK AT MOST 1048576: true; the input reads as it did. -/
def typesDeepUptoRow : OpenClaim := { program := "ytkkoekfdncoifaadoor", sum := "d51fec7126c27da40d6b664b479d8d6c685d13523e5bb61a0a507e0f8a2f7e55", func := "camshaft/camshaftlaw07.TypesDeep", spec := "typesDeep", unfollowed := true, recurses := true, named := ["camshaft/num.names"], apart := false, laid := [("camshaft/num.names", laid_camshaft_num_names)], narrowed := true }
def TypesDeepUptoSaid : Prop := typesDeepUptoRow.holds Tryd.pinned (OpenSpec.upto typesDeepSpec)

end Rows
end Go.Proofs.YtkkoekfdncoifaaDoor
