/-
  NARROWER THAN 'FOR EVERY INPUT', by the rows' own cells (each row's printed sentence says how): OpTells: laid · OpReads: laid · OpBack: laid · OpParts: laid · OpSizes: laid · OpCuts: laid · OpNames: laid.
  DERIVED. THE GIVEN ROWS OF THIS SEAT. 7 by the template 'for every input the law returns true; each argument reads behind the call as it read before'; 0 by the template 'total and deterministic' (their statements: YtmahpmoaicjcjaaDoorTotals.lean).
  GIVEN WITH THE SEED: the statements are not yours to turn. If you find one false, say at which input.
  Laid BY PROGRAM, IN A SANDBOX (cutbox-rows.mjs): the forced cells as the released guide's own fill.sh prints them over the translation 07ec3c2683c6209f… (all of the seat's roots in one cut). By AI agents, Wed Nov 11 2026. No macro, syntax, notation, axiom, sorry.
-/
import Derived.Test.YtmahpmoaicjcjaaDoorChecked
import GoSem.Claim
import GoSem.ClaimJoined
import GoSem.ClaimMapViews
import Derived.JoinedTies
import Derived.KernelRfl
namespace Go.Proofs.YtmahpmoaicjcjaaDoor
/- THE CELL 'sum', in the pinned program and in every row, IS THE sha256 OF THE DUMP (.gsa) THAT YtmahpmoaicjcjaaDoorProg.lean LOADS. Nothing in Lean hashes anything: it is a label: what it is worth is what the hold of that sum in a sandbox is worth. -/
noncomputable def Tryd.pinned : Pinned := { name := "ytmahpmoaicjcjaadoor", sum := "07ec3c2683c6209fe172365a7d10d9b9026d12b231df4c4bdb1a4da6fe9f8185", checked := Tryd.checked }
namespace Rows
def none {H : Type} : Left H := { results := [], args := [] }

/- WHAT THE LISTED PACKAGE-LEVEL VARIABLES READ AS WHEN THE CALL BEGINS. Each datum BY PROGRAM (the guide's laid-datum.mjs) off the statement by which the dump's own 'gosem.cut.vars' lays the variable. In a bare row this is a premise. The card (YtmahpmoaicjcjaaDoorCards.lean) ties it to the program's text. -/
def laid_camshaft_num_names {H : Type} : DataW H := .agg [.lit (.string []), .lit (.string [65, 68, 68]), .lit (.string [83, 85, 66]), .lit (.string [77, 85, 76]), .lit (.string [68, 73, 86]), .lit (.string [77, 79, 68]), .lit (.string [65, 78, 68]), .lit (.string [79, 82]), .lit (.string [88, 79, 82]), .lit (.string [83, 72, 76]), .lit (.string [83, 72, 82]), .lit (.string [76, 84]), .lit (.string [69, 81])]
def laid_camshaft_op_names {H : Type} : DataW H := .agg [.lit (.string []), .lit (.string [80, 85, 83, 72]), .lit (.string [68, 82, 79, 80]), .lit (.string [68, 85, 80]), .lit (.string [83, 87, 65, 80]), .lit (.string [84, 87, 79]), .lit (.string [78, 69, 71]), .lit (.string [78, 79, 84]), .lit (.string [66, 79, 84, 72]), .lit (.string [69, 73, 84, 72, 69, 82]), .lit (.string [67, 65, 83, 84]), .lit (.string [76, 79, 65, 68, 76]), .lit (.string [83, 84, 79, 82, 69, 76]), .lit (.string [76, 79, 65, 68, 82]), .lit (.string [83, 84, 79, 82, 69, 82]), .lit (.string [73, 78]), .lit (.string [79, 85, 84]), .lit (.string [71, 69, 84]), .lit (.string [80, 85, 84]), .lit (.string [74, 85, 77, 80]), .lit (.string [66, 82, 65, 78, 67, 72]), .lit (.string [76, 79, 79, 80]), .lit (.string [78, 69, 88, 84]), .lit (.string [76, 79, 67, 75]), .lit (.string [85, 78, 76, 79, 67, 75]), .lit (.string [69, 78, 68])]

/-- 'camshaftlaw04.OpTells': WHATEVER THE INPUT: true; the input reads as it did. -/
def opTellsSpec : ChangeSpec := { name := "opTells", fn := fun _ => fun
  | [d] => { results := [.lit (.bool true)], args := [d] }
  | _ => none }
def opTellsRow : OpenClaim := { program := "ytmahpmoaicjcjaadoor", sum := "07ec3c2683c6209fe172365a7d10d9b9026d12b231df4c4bdb1a4da6fe9f8185", func := "camshaft/camshaftlaw04.OpTells", spec := "opTells", inPlace := ["internal/abi.NoEscape"], named := ["camshaft/num.names", "camshaft/op.names"], apart := false, laid := [("camshaft/num.names", laid_camshaft_num_names), ("camshaft/op.names", laid_camshaft_op_names)] }
def OpTellsSaid : Prop := opTellsRow.holds Tryd.pinned (OpenSpec.ofChange opTellsSpec)

/-- ITS FALSE NEIGHBOUR: 'it returns false'. Refute it at one input. -/
def opTellsWrong : ChangeSpec := { name := "opTells", fn := fun _ => fun
  | [d] => { results := [.lit (.bool false)], args := [d] }
  | _ => none }
def OpTellsWrongFalsely : Prop := opTellsRow.holds Tryd.pinned (OpenSpec.ofChange opTellsWrong)

/-- 'camshaftlaw04.OpReads': WHATEVER THE INPUT: true; the input reads as it did. -/
def opReadsSpec : ChangeSpec := { name := "opReads", fn := fun _ => fun
  | [d1, d2] => { results := [.lit (.bool true)], args := [d1, d2] }
  | _ => none }
def opReadsRow : OpenClaim := { program := "ytmahpmoaicjcjaadoor", sum := "07ec3c2683c6209fe172365a7d10d9b9026d12b231df4c4bdb1a4da6fe9f8185", func := "camshaft/camshaftlaw04.OpReads", spec := "opReads", inPlace := ["internal/abi.NoEscape"], named := ["camshaft/num.names", "camshaft/op.names"], apart := false, laid := [("camshaft/num.names", laid_camshaft_num_names), ("camshaft/op.names", laid_camshaft_op_names)] }
def OpReadsSaid : Prop := opReadsRow.holds Tryd.pinned (OpenSpec.ofChange opReadsSpec)

/-- ITS FALSE NEIGHBOUR: 'it returns false'. Refute it at one input. -/
def opReadsWrong : ChangeSpec := { name := "opReads", fn := fun _ => fun
  | [d1, d2] => { results := [.lit (.bool false)], args := [d1, d2] }
  | _ => none }
def OpReadsWrongFalsely : Prop := opReadsRow.holds Tryd.pinned (OpenSpec.ofChange opReadsWrong)

/-- 'camshaftlaw04.OpBack': WHATEVER THE INPUT: true; the input reads as it did. -/
def opBackSpec : ChangeSpec := { name := "opBack", fn := fun _ => fun
  | [d1, d2, d3] => { results := [.lit (.bool true)], args := [d1, d2, d3] }
  | _ => none }
def opBackRow : OpenClaim := { program := "ytmahpmoaicjcjaadoor", sum := "07ec3c2683c6209fe172365a7d10d9b9026d12b231df4c4bdb1a4da6fe9f8185", func := "camshaft/camshaftlaw04.OpBack", spec := "opBack", inPlace := ["internal/abi.NoEscape"], named := ["camshaft/num.names", "camshaft/op.names"], apart := false, laid := [("camshaft/num.names", laid_camshaft_num_names), ("camshaft/op.names", laid_camshaft_op_names)] }
def OpBackSaid : Prop := opBackRow.holds Tryd.pinned (OpenSpec.ofChange opBackSpec)

/-- ITS FALSE NEIGHBOUR: 'it returns false'. Refute it at one input. -/
def opBackWrong : ChangeSpec := { name := "opBack", fn := fun _ => fun
  | [d1, d2, d3] => { results := [.lit (.bool false)], args := [d1, d2, d3] }
  | _ => none }
def OpBackWrongFalsely : Prop := opBackRow.holds Tryd.pinned (OpenSpec.ofChange opBackWrong)

/-- 'camshaftlaw04.OpParts': WHATEVER THE INPUT: true; the input reads as it did. -/
def opPartsSpec : ChangeSpec := { name := "opParts", fn := fun _ => fun
  | [d] => { results := [.lit (.bool true)], args := [d] }
  | _ => none }
def opPartsRow : OpenClaim := { program := "ytmahpmoaicjcjaadoor", sum := "07ec3c2683c6209fe172365a7d10d9b9026d12b231df4c4bdb1a4da6fe9f8185", func := "camshaft/camshaftlaw04.OpParts", spec := "opParts", inPlace := ["internal/abi.NoEscape"], named := ["camshaft/num.names", "camshaft/op.names"], apart := false, laid := [("camshaft/num.names", laid_camshaft_num_names), ("camshaft/op.names", laid_camshaft_op_names)] }
def OpPartsSaid : Prop := opPartsRow.holds Tryd.pinned (OpenSpec.ofChange opPartsSpec)

/-- ITS FALSE NEIGHBOUR: 'it returns false'. Refute it at one input. -/
def opPartsWrong : ChangeSpec := { name := "opParts", fn := fun _ => fun
  | [d] => { results := [.lit (.bool false)], args := [d] }
  | _ => none }
def OpPartsWrongFalsely : Prop := opPartsRow.holds Tryd.pinned (OpenSpec.ofChange opPartsWrong)

/-- 'camshaftlaw04.OpSizes': WHATEVER THE INPUT: true; the input reads as it did. -/
def opSizesSpec : ChangeSpec := { name := "opSizes", fn := fun _ => fun
  | [d] => { results := [.lit (.bool true)], args := [d] }
  | _ => none }
def opSizesRow : OpenClaim := { program := "ytmahpmoaicjcjaadoor", sum := "07ec3c2683c6209fe172365a7d10d9b9026d12b231df4c4bdb1a4da6fe9f8185", func := "camshaft/camshaftlaw04.OpSizes", spec := "opSizes", inPlace := ["internal/abi.NoEscape"], named := ["camshaft/num.names", "camshaft/op.names"], apart := false, laid := [("camshaft/num.names", laid_camshaft_num_names), ("camshaft/op.names", laid_camshaft_op_names)] }
def OpSizesSaid : Prop := opSizesRow.holds Tryd.pinned (OpenSpec.ofChange opSizesSpec)

/-- ITS FALSE NEIGHBOUR: 'it returns false'. Refute it at one input. -/
def opSizesWrong : ChangeSpec := { name := "opSizes", fn := fun _ => fun
  | [d] => { results := [.lit (.bool false)], args := [d] }
  | _ => none }
def OpSizesWrongFalsely : Prop := opSizesRow.holds Tryd.pinned (OpenSpec.ofChange opSizesWrong)

/-- 'camshaftlaw04.OpCuts': WHATEVER THE INPUT: true; the input reads as it did. -/
def opCutsSpec : ChangeSpec := { name := "opCuts", fn := fun _ => fun
  | [d1, d2] => { results := [.lit (.bool true)], args := [d1, d2] }
  | _ => none }
def opCutsRow : OpenClaim := { program := "ytmahpmoaicjcjaadoor", sum := "07ec3c2683c6209fe172365a7d10d9b9026d12b231df4c4bdb1a4da6fe9f8185", func := "camshaft/camshaftlaw04.OpCuts", spec := "opCuts", inPlace := ["internal/abi.NoEscape"], named := ["camshaft/num.names", "camshaft/op.names"], apart := false, laid := [("camshaft/num.names", laid_camshaft_num_names), ("camshaft/op.names", laid_camshaft_op_names)] }
def OpCutsSaid : Prop := opCutsRow.holds Tryd.pinned (OpenSpec.ofChange opCutsSpec)

/-- ITS FALSE NEIGHBOUR: 'it returns false'. Refute it at one input. -/
def opCutsWrong : ChangeSpec := { name := "opCuts", fn := fun _ => fun
  | [d1, d2] => { results := [.lit (.bool false)], args := [d1, d2] }
  | _ => none }
def OpCutsWrongFalsely : Prop := opCutsRow.holds Tryd.pinned (OpenSpec.ofChange opCutsWrong)

/-- 'camshaftlaw04.OpNames': WHATEVER THE INPUT: true; the input reads as it did. -/
def opNamesSpec : ChangeSpec := { name := "opNames", fn := fun _ => fun
  | [d1, d2, d3] => { results := [.lit (.bool true)], args := [d1, d2, d3] }
  | _ => none }
def opNamesRow : OpenClaim := { program := "ytmahpmoaicjcjaadoor", sum := "07ec3c2683c6209fe172365a7d10d9b9026d12b231df4c4bdb1a4da6fe9f8185", func := "camshaft/camshaftlaw04.OpNames", spec := "opNames", inPlace := ["internal/abi.NoEscape"], named := ["camshaft/op.names", "camshaft/num.names"], apart := false, laid := [("camshaft/num.names", laid_camshaft_num_names), ("camshaft/op.names", laid_camshaft_op_names)] }
def OpNamesSaid : Prop := opNamesRow.holds Tryd.pinned (OpenSpec.ofChange opNamesSpec)

/-- ITS FALSE NEIGHBOUR: 'it returns false'. Refute it at one input. -/
def opNamesWrong : ChangeSpec := { name := "opNames", fn := fun _ => fun
  | [d1, d2, d3] => { results := [.lit (.bool false)], args := [d1, d2, d3] }
  | _ => none }
def OpNamesWrongFalsely : Prop := opNamesRow.holds Tryd.pinned (OpenSpec.ofChange opNamesWrong)

/- THE SECOND FORM. 'bulk': how many values and letters a reading holds, each counted each time it is reached (what is shared counts as often as it is met; a slice's spare places count too). A statement '..UptoSaid' is the law's where the arguments, and the package variables that the reading takes, are together of bulk at most 1048576: NARROWER than '..Said'. Prove '..Said' where nothing that the law and all that it calls make is longer than what came in: it says more and counts as full. Else prove '..UptoSaid'. A law counts once. -/
mutual
def uptoBulk {H : Type} : DataW H → Nat
  | .lit (.string bytes) => bytes.length + 1
  | .lit _ => 1
  | .nil => 1
  | .ptr d => uptoBulk d + 1
  | .slice elems spare => uptoBulkAll elems + uptoBulkAll spare + 1
  | .agg parts => uptoBulkAll parts + 1
  | .iface _ d => uptoBulk d + 1
  | .map entries => uptoBulkEntries entries + 1
  | .held _ => 1
def uptoBulkAll {H : Type} : List (DataW H) → Nat
  | [] => 0
  | d :: r => uptoBulk d + uptoBulkAll r
def uptoBulkEntries {H : Type} : List (Lit × DataW H) → Nat
  | [] => 0
  | x :: r => uptoBulkEntry x + uptoBulkEntries r
def uptoBulkEntry {H : Type} : Lit × DataW H → Nat
  | (.string bytes, d) => bytes.length + uptoBulk d + 1
  | (_, d) => uptoBulk d + 1
 end
def uptoSmall : (H : Type) → List (DataW H) → Bool := fun _ ds => decide (uptoBulkAll ds ≤ 1048576)
def OpenSpec.upto (s : _root_.Go.ChangeSpec) : _root_.Go.OpenSpec := { _root_.Go.OpenSpec.ofChange s with cond := some uptoSmall }

/-- 'camshaftlaw04.OpTells', WHERE WHAT IT READS IS OF BULK AT MOST 1048576: true; the input reads as it did. -/
def opTellsUptoRow : OpenClaim := { program := "ytmahpmoaicjcjaadoor", sum := "07ec3c2683c6209fe172365a7d10d9b9026d12b231df4c4bdb1a4da6fe9f8185", func := "camshaft/camshaftlaw04.OpTells", spec := "opTells", inPlace := ["internal/abi.NoEscape"], named := ["camshaft/num.names", "camshaft/op.names"], apart := false, laid := [("camshaft/num.names", laid_camshaft_num_names), ("camshaft/op.names", laid_camshaft_op_names)], narrowed := true }
def OpTellsUptoSaid : Prop := opTellsUptoRow.holds Tryd.pinned (OpenSpec.upto opTellsSpec)

/-- 'camshaftlaw04.OpReads', WHERE WHAT IT READS IS OF BULK AT MOST 1048576: true; the input reads as it did. -/
def opReadsUptoRow : OpenClaim := { program := "ytmahpmoaicjcjaadoor", sum := "07ec3c2683c6209fe172365a7d10d9b9026d12b231df4c4bdb1a4da6fe9f8185", func := "camshaft/camshaftlaw04.OpReads", spec := "opReads", inPlace := ["internal/abi.NoEscape"], named := ["camshaft/num.names", "camshaft/op.names"], apart := false, laid := [("camshaft/num.names", laid_camshaft_num_names), ("camshaft/op.names", laid_camshaft_op_names)], narrowed := true }
def OpReadsUptoSaid : Prop := opReadsUptoRow.holds Tryd.pinned (OpenSpec.upto opReadsSpec)

/-- 'camshaftlaw04.OpBack', WHERE WHAT IT READS IS OF BULK AT MOST 1048576: true; the input reads as it did. -/
def opBackUptoRow : OpenClaim := { program := "ytmahpmoaicjcjaadoor", sum := "07ec3c2683c6209fe172365a7d10d9b9026d12b231df4c4bdb1a4da6fe9f8185", func := "camshaft/camshaftlaw04.OpBack", spec := "opBack", inPlace := ["internal/abi.NoEscape"], named := ["camshaft/num.names", "camshaft/op.names"], apart := false, laid := [("camshaft/num.names", laid_camshaft_num_names), ("camshaft/op.names", laid_camshaft_op_names)], narrowed := true }
def OpBackUptoSaid : Prop := opBackUptoRow.holds Tryd.pinned (OpenSpec.upto opBackSpec)

/-- 'camshaftlaw04.OpParts', WHERE WHAT IT READS IS OF BULK AT MOST 1048576: true; the input reads as it did. -/
def opPartsUptoRow : OpenClaim := { program := "ytmahpmoaicjcjaadoor", sum := "07ec3c2683c6209fe172365a7d10d9b9026d12b231df4c4bdb1a4da6fe9f8185", func := "camshaft/camshaftlaw04.OpParts", spec := "opParts", inPlace := ["internal/abi.NoEscape"], named := ["camshaft/num.names", "camshaft/op.names"], apart := false, laid := [("camshaft/num.names", laid_camshaft_num_names), ("camshaft/op.names", laid_camshaft_op_names)], narrowed := true }
def OpPartsUptoSaid : Prop := opPartsUptoRow.holds Tryd.pinned (OpenSpec.upto opPartsSpec)

/-- 'camshaftlaw04.OpSizes', WHERE WHAT IT READS IS OF BULK AT MOST 1048576: true; the input reads as it did. -/
def opSizesUptoRow : OpenClaim := { program := "ytmahpmoaicjcjaadoor", sum := "07ec3c2683c6209fe172365a7d10d9b9026d12b231df4c4bdb1a4da6fe9f8185", func := "camshaft/camshaftlaw04.OpSizes", spec := "opSizes", inPlace := ["internal/abi.NoEscape"], named := ["camshaft/num.names", "camshaft/op.names"], apart := false, laid := [("camshaft/num.names", laid_camshaft_num_names), ("camshaft/op.names", laid_camshaft_op_names)], narrowed := true }
def OpSizesUptoSaid : Prop := opSizesUptoRow.holds Tryd.pinned (OpenSpec.upto opSizesSpec)

/-- 'camshaftlaw04.OpCuts', WHERE WHAT IT READS IS OF BULK AT MOST 1048576: true; the input reads as it did. -/
def opCutsUptoRow : OpenClaim := { program := "ytmahpmoaicjcjaadoor", sum := "07ec3c2683c6209fe172365a7d10d9b9026d12b231df4c4bdb1a4da6fe9f8185", func := "camshaft/camshaftlaw04.OpCuts", spec := "opCuts", inPlace := ["internal/abi.NoEscape"], named := ["camshaft/num.names", "camshaft/op.names"], apart := false, laid := [("camshaft/num.names", laid_camshaft_num_names), ("camshaft/op.names", laid_camshaft_op_names)], narrowed := true }
def OpCutsUptoSaid : Prop := opCutsUptoRow.holds Tryd.pinned (OpenSpec.upto opCutsSpec)

/-- 'camshaftlaw04.OpNames', WHERE WHAT IT READS IS OF BULK AT MOST 1048576: true; the input reads as it did. -/
def opNamesUptoRow : OpenClaim := { program := "ytmahpmoaicjcjaadoor", sum := "07ec3c2683c6209fe172365a7d10d9b9026d12b231df4c4bdb1a4da6fe9f8185", func := "camshaft/camshaftlaw04.OpNames", spec := "opNames", inPlace := ["internal/abi.NoEscape"], named := ["camshaft/op.names", "camshaft/num.names"], apart := false, laid := [("camshaft/num.names", laid_camshaft_num_names), ("camshaft/op.names", laid_camshaft_op_names)], narrowed := true }
def OpNamesUptoSaid : Prop := opNamesUptoRow.holds Tryd.pinned (OpenSpec.upto opNamesSpec)

end Rows
end Go.Proofs.YtmahpmoaicjcjaaDoor
