/-
  NARROWER THAN 'FOR EVERY INPUT', by the rows' own cells (each row's printed sentence says how): AdmitJudges: laid · AdmitLoads: laid · AdmitTimes: laid · AdmitBlocks: laid · AdmitWider: laid · AdmitFewer: laid.
  DERIVED. THE GIVEN ROWS OF THIS SEAT. 6 by the template 'for every input the law returns true; each argument reads behind the call as it read before'; 0 by the template 'total and deterministic' (their statements: YtngehojibcmieaaGreatDoorTotals.lean).
  GIVEN WITH THE SEED: the statements are not yours to turn. If you find one false, say at which input.
  Laid BY PROGRAM, IN A SANDBOX (cutbox-rows.mjs): the forced cells as the released guide's own fill.sh prints them over the translation 535a891e1124877c… (all of the seat's roots in one cut). By AI agents, Wed Nov 11 2026. No macro, syntax, notation, axiom, sorry.
-/
import Derived.Test.YtngehojibcmieaaGreatDoorChecked
import GoSem.Claim
import GoSem.ClaimJoined
import GoSem.ClaimMapViews
import Derived.JoinedTies
import Derived.KernelRfl
namespace Go.Proofs.YtngehojibcmieaaGreatDoor
/- THE CELL 'sum', in the pinned program and in every row, IS THE sha256 OF THE DUMP (.gsa) THAT YtngehojibcmieaaGreatDoorProg.lean LOADS. Nothing in Lean hashes anything: it is a label: what it is worth is what the hold of that sum in a sandbox is worth. -/
noncomputable def Tryz.pinned : Pinned := { name := "ytngehojibcmieaagreatdoor", sum := "535a891e1124877c68e10eda2c7cc77a32ba5dc47bfea6593b1b5ddb72a16e39", checked := Tryz.checked }
namespace Rows
def none {H : Type} : Left H := { results := [], args := [] }

/- WHAT THE LISTED PACKAGE-LEVEL VARIABLES READ AS WHEN THE CALL BEGINS. Each datum BY PROGRAM (the guide's laid-datum.mjs) off the statement by which the dump's own 'gosem.cut.vars' lays the variable. In a bare row this is a premise. The card (YtngehojibcmieaaGreatDoorCards.lean) ties it to the program's text. -/
def laid_camshaft_num_names {H : Type} : DataW H := .agg [.lit (.string []), .lit (.string [65, 68, 68]), .lit (.string [83, 85, 66]), .lit (.string [77, 85, 76]), .lit (.string [68, 73, 86]), .lit (.string [77, 79, 68]), .lit (.string [65, 78, 68]), .lit (.string [79, 82]), .lit (.string [88, 79, 82]), .lit (.string [83, 72, 76]), .lit (.string [83, 72, 82]), .lit (.string [76, 84]), .lit (.string [69, 81])]
def laid_camshaft_crc_halves {H : Type} : DataW H := .agg [.lit (.int .u16 0), .lit (.int .u16 4129), .lit (.int .u16 8258), .lit (.int .u16 12387), .lit (.int .u16 16516), .lit (.int .u16 20645), .lit (.int .u16 24774), .lit (.int .u16 28903), .lit (.int .u16 33032), .lit (.int .u16 37161), .lit (.int .u16 41290), .lit (.int .u16 45419), .lit (.int .u16 49548), .lit (.int .u16 53677), .lit (.int .u16 57806), .lit (.int .u16 61935)]

/-- 'camshaftlaw15.AdmitJudges': WHATEVER THE INPUT: true; the input reads as it did. -/
def admitJudgesSpec : ChangeSpec := { name := "admitJudges", fn := fun _ => fun
  | [d] => { results := [.lit (.bool true)], args := [d] }
  | _ => none }
def admitJudgesRow : OpenClaim := { program := "ytngehojibcmieaagreatdoor", sum := "535a891e1124877c68e10eda2c7cc77a32ba5dc47bfea6593b1b5ddb72a16e39", func := "camshaft/camshaftlaw15.AdmitJudges", spec := "admitJudges", inPlace := ["internal/abi.NoEscape"], unfollowed := true, recurses := true, named := ["camshaft/num.names", "camshaft/crc.halves"], apart := false, laid := [("camshaft/num.names", laid_camshaft_num_names), ("camshaft/crc.halves", laid_camshaft_crc_halves)] }
def AdmitJudgesSaid : Prop := admitJudgesRow.holds Tryz.pinned (OpenSpec.ofChange admitJudgesSpec)

/-- ITS FALSE NEIGHBOUR: 'it returns false'. Refute it at one input. -/
def admitJudgesWrong : ChangeSpec := { name := "admitJudges", fn := fun _ => fun
  | [d] => { results := [.lit (.bool false)], args := [d] }
  | _ => none }
def AdmitJudgesWrongFalsely : Prop := admitJudgesRow.holds Tryz.pinned (OpenSpec.ofChange admitJudgesWrong)

/-- 'camshaftlaw15.AdmitLoads': WHATEVER THE INPUT: true; the input reads as it did. -/
def admitLoadsSpec : ChangeSpec := { name := "admitLoads", fn := fun _ => fun
  | [d1, d2] => { results := [.lit (.bool true)], args := [d1, d2] }
  | _ => none }
def admitLoadsRow : OpenClaim := { program := "ytngehojibcmieaagreatdoor", sum := "535a891e1124877c68e10eda2c7cc77a32ba5dc47bfea6593b1b5ddb72a16e39", func := "camshaft/camshaftlaw15.AdmitLoads", spec := "admitLoads", inPlace := ["internal/abi.NoEscape"], unfollowed := true, recurses := true, named := ["camshaft/num.names", "camshaft/crc.halves"], apart := false, laid := [("camshaft/num.names", laid_camshaft_num_names), ("camshaft/crc.halves", laid_camshaft_crc_halves)] }
def AdmitLoadsSaid : Prop := admitLoadsRow.holds Tryz.pinned (OpenSpec.ofChange admitLoadsSpec)

/-- ITS FALSE NEIGHBOUR: 'it returns false'. Refute it at one input. -/
def admitLoadsWrong : ChangeSpec := { name := "admitLoads", fn := fun _ => fun
  | [d1, d2] => { results := [.lit (.bool false)], args := [d1, d2] }
  | _ => none }
def AdmitLoadsWrongFalsely : Prop := admitLoadsRow.holds Tryz.pinned (OpenSpec.ofChange admitLoadsWrong)

/-- 'camshaftlaw15.AdmitTimes': WHATEVER THE INPUT: true; the input reads as it did. -/
def admitTimesSpec : ChangeSpec := { name := "admitTimes", fn := fun _ => fun
  | [d] => { results := [.lit (.bool true)], args := [d] }
  | _ => none }
def admitTimesRow : OpenClaim := { program := "ytngehojibcmieaagreatdoor", sum := "535a891e1124877c68e10eda2c7cc77a32ba5dc47bfea6593b1b5ddb72a16e39", func := "camshaft/camshaftlaw15.AdmitTimes", spec := "admitTimes", inPlace := ["internal/abi.NoEscape"], unfollowed := true, recurses := true, named := ["camshaft/num.names", "camshaft/crc.halves"], apart := false, laid := [("camshaft/num.names", laid_camshaft_num_names), ("camshaft/crc.halves", laid_camshaft_crc_halves)] }
def AdmitTimesSaid : Prop := admitTimesRow.holds Tryz.pinned (OpenSpec.ofChange admitTimesSpec)

/-- ITS FALSE NEIGHBOUR: 'it returns false'. Refute it at one input. -/
def admitTimesWrong : ChangeSpec := { name := "admitTimes", fn := fun _ => fun
  | [d] => { results := [.lit (.bool false)], args := [d] }
  | _ => none }
def AdmitTimesWrongFalsely : Prop := admitTimesRow.holds Tryz.pinned (OpenSpec.ofChange admitTimesWrong)

/-- 'camshaftlaw15.AdmitBlocks': WHATEVER THE INPUT: true; the input reads as it did. -/
def admitBlocksSpec : ChangeSpec := { name := "admitBlocks", fn := fun _ => fun
  | [d] => { results := [.lit (.bool true)], args := [d] }
  | _ => none }
def admitBlocksRow : OpenClaim := { program := "ytngehojibcmieaagreatdoor", sum := "535a891e1124877c68e10eda2c7cc77a32ba5dc47bfea6593b1b5ddb72a16e39", func := "camshaft/camshaftlaw15.AdmitBlocks", spec := "admitBlocks", inPlace := ["internal/abi.NoEscape"], unfollowed := true, recurses := true, named := ["camshaft/num.names", "camshaft/crc.halves"], apart := false, laid := [("camshaft/num.names", laid_camshaft_num_names), ("camshaft/crc.halves", laid_camshaft_crc_halves)] }
def AdmitBlocksSaid : Prop := admitBlocksRow.holds Tryz.pinned (OpenSpec.ofChange admitBlocksSpec)

/-- ITS FALSE NEIGHBOUR: 'it returns false'. Refute it at one input. -/
def admitBlocksWrong : ChangeSpec := { name := "admitBlocks", fn := fun _ => fun
  | [d] => { results := [.lit (.bool false)], args := [d] }
  | _ => none }
def AdmitBlocksWrongFalsely : Prop := admitBlocksRow.holds Tryz.pinned (OpenSpec.ofChange admitBlocksWrong)

/-- 'camshaftlaw15.AdmitWider': WHATEVER THE INPUT: true; the input reads as it did. -/
def admitWiderSpec : ChangeSpec := { name := "admitWider", fn := fun _ => fun
  | [d1, d2] => { results := [.lit (.bool true)], args := [d1, d2] }
  | _ => none }
def admitWiderRow : OpenClaim := { program := "ytngehojibcmieaagreatdoor", sum := "535a891e1124877c68e10eda2c7cc77a32ba5dc47bfea6593b1b5ddb72a16e39", func := "camshaft/camshaftlaw15.AdmitWider", spec := "admitWider", inPlace := ["internal/abi.NoEscape"], unfollowed := true, recurses := true, named := ["camshaft/num.names", "camshaft/crc.halves"], apart := false, laid := [("camshaft/num.names", laid_camshaft_num_names), ("camshaft/crc.halves", laid_camshaft_crc_halves)] }
def AdmitWiderSaid : Prop := admitWiderRow.holds Tryz.pinned (OpenSpec.ofChange admitWiderSpec)

/-- ITS FALSE NEIGHBOUR: 'it returns false'. Refute it at one input. -/
def admitWiderWrong : ChangeSpec := { name := "admitWider", fn := fun _ => fun
  | [d1, d2] => { results := [.lit (.bool false)], args := [d1, d2] }
  | _ => none }
def AdmitWiderWrongFalsely : Prop := admitWiderRow.holds Tryz.pinned (OpenSpec.ofChange admitWiderWrong)

/-- 'camshaftlaw15.AdmitFewer': WHATEVER THE INPUT: true; the input reads as it did. -/
def admitFewerSpec : ChangeSpec := { name := "admitFewer", fn := fun _ => fun
  | [d] => { results := [.lit (.bool true)], args := [d] }
  | _ => none }
def admitFewerRow : OpenClaim := { program := "ytngehojibcmieaagreatdoor", sum := "535a891e1124877c68e10eda2c7cc77a32ba5dc47bfea6593b1b5ddb72a16e39", func := "camshaft/camshaftlaw15.AdmitFewer", spec := "admitFewer", inPlace := ["internal/abi.NoEscape"], unfollowed := true, recurses := true, named := ["camshaft/num.names", "camshaft/crc.halves"], apart := false, laid := [("camshaft/num.names", laid_camshaft_num_names), ("camshaft/crc.halves", laid_camshaft_crc_halves)] }
def AdmitFewerSaid : Prop := admitFewerRow.holds Tryz.pinned (OpenSpec.ofChange admitFewerSpec)

/-- ITS FALSE NEIGHBOUR: 'it returns false'. Refute it at one input. -/
def admitFewerWrong : ChangeSpec := { name := "admitFewer", fn := fun _ => fun
  | [d] => { results := [.lit (.bool false)], args := [d] }
  | _ => none }
def AdmitFewerWrongFalsely : Prop := admitFewerRow.holds Tryz.pinned (OpenSpec.ofChange admitFewerWrong)

/- THE SECOND FORM. 'bulk': how many values and letters a reading holds, each counted each time it is reached (what is shared counts as often as it is met; a slice's spare places count too). A statement '..UptoSaid' is the law's where the arguments, and the package variables that the reading takes, are together of bulk at most 1048576: NARROWER than '..Said'. Prove '..Said' where nothing that the law and all that it calls make is longer than what came in: it says more and counts as full. Else prove '..UptoSaid'. A law counts once. -/
mutual
def uptoBulk {H : Type} : DataW H → Nat
  | .lit (.string bytes) => bytes.length + 1
  | .lit _ => 1
  | .nil => 1
  | .ptr d => uptoBulk d + 1
  | .slice elems spare => uptoBulkAll elems + uptoBulkAll spare + 1
  | .agg parts => uptoBulkAll parts + 1
  | .iface _ d => uptoBulk d + 1
  | .map entries => uptoBulkEntries entries + 1
  | .held _ => 1
def uptoBulkAll {H : Type} : List (DataW H) → Nat
  | [] => 0
  | d :: r => uptoBulk d + uptoBulkAll r
def uptoBulkEntries {H : Type} : List (Lit × DataW H) → Nat
  | [] => 0
  | x :: r => uptoBulkEntry x + uptoBulkEntries r
def uptoBulkEntry {H : Type} : Lit × DataW H → Nat
  | (.string bytes, d) => bytes.length + uptoBulk d + 1
  | (_, d) => uptoBulk d + 1
 end
def uptoSmall : (H : Type) → List (DataW H) → Bool := fun _ ds => decide (uptoBulkAll ds ≤ 1048576)
def OpenSpec.upto (s : _root_.Go.ChangeSpec) : _root_.Go.OpenSpec := { _root_.Go.OpenSpec.ofChange s with cond := some uptoSmall }

/-- 'camshaftlaw15.AdmitJudges', WHERE WHAT IT READS IS OF BULK AT MOST 1048576: true; the input reads as it did. -/
def admitJudgesUptoRow : OpenClaim := { program := "ytngehojibcmieaagreatdoor", sum := "535a891e1124877c68e10eda2c7cc77a32ba5dc47bfea6593b1b5ddb72a16e39", func := "camshaft/camshaftlaw15.AdmitJudges", spec := "admitJudges", inPlace := ["internal/abi.NoEscape"], unfollowed := true, recurses := true, named := ["camshaft/num.names", "camshaft/crc.halves"], apart := false, laid := [("camshaft/num.names", laid_camshaft_num_names), ("camshaft/crc.halves", laid_camshaft_crc_halves)], narrowed := true }
def AdmitJudgesUptoSaid : Prop := admitJudgesUptoRow.holds Tryz.pinned (OpenSpec.upto admitJudgesSpec)

/-- 'camshaftlaw15.AdmitLoads', WHERE WHAT IT READS IS OF BULK AT MOST 1048576: true; the input reads as it did. -/
def admitLoadsUptoRow : OpenClaim := { program := "ytngehojibcmieaagreatdoor", sum := "535a891e1124877c68e10eda2c7cc77a32ba5dc47bfea6593b1b5ddb72a16e39", func := "camshaft/camshaftlaw15.AdmitLoads", spec := "admitLoads", inPlace := ["internal/abi.NoEscape"], unfollowed := true, recurses := true, named := ["camshaft/num.names", "camshaft/crc.halves"], apart := false, laid := [("camshaft/num.names", laid_camshaft_num_names), ("camshaft/crc.halves", laid_camshaft_crc_halves)], narrowed := true }
def AdmitLoadsUptoSaid : Prop := admitLoadsUptoRow.holds Tryz.pinned (OpenSpec.upto admitLoadsSpec)

/-- 'camshaftlaw15.AdmitTimes', WHERE WHAT IT READS IS OF BULK AT MOST 1048576: true; the input reads as it did. -/
def admitTimesUptoRow : OpenClaim := { program := "ytngehojibcmieaagreatdoor", sum := "535a891e1124877c68e10eda2c7cc77a32ba5dc47bfea6593b1b5ddb72a16e39", func := "camshaft/camshaftlaw15.AdmitTimes", spec := "admitTimes", inPlace := ["internal/abi.NoEscape"], unfollowed := true, recurses := true, named := ["camshaft/num.names", "camshaft/crc.halves"], apart := false, laid := [("camshaft/num.names", laid_camshaft_num_names), ("camshaft/crc.halves", laid_camshaft_crc_halves)], narrowed := true }
def AdmitTimesUptoSaid : Prop := admitTimesUptoRow.holds Tryz.pinned (OpenSpec.upto admitTimesSpec)

/-- 'camshaftlaw15.AdmitBlocks', WHERE WHAT IT READS IS OF BULK AT MOST 1048576: true; the input reads as it did. -/
def admitBlocksUptoRow : OpenClaim := { program := "ytngehojibcmieaagreatdoor", sum := "535a891e1124877c68e10eda2c7cc77a32ba5dc47bfea6593b1b5ddb72a16e39", func := "camshaft/camshaftlaw15.AdmitBlocks", spec := "admitBlocks", inPlace := ["internal/abi.NoEscape"], unfollowed := true, recurses := true, named := ["camshaft/num.names", "camshaft/crc.halves"], apart := false, laid := [("camshaft/num.names", laid_camshaft_num_names), ("camshaft/crc.halves", laid_camshaft_crc_halves)], narrowed := true }
def AdmitBlocksUptoSaid : Prop := admitBlocksUptoRow.holds Tryz.pinned (OpenSpec.upto admitBlocksSpec)

/-- 'camshaftlaw15.AdmitWider', WHERE WHAT IT READS IS OF BULK AT MOST 1048576: true; the input reads as it did. -/
def admitWiderUptoRow : OpenClaim := { program := "ytngehojibcmieaagreatdoor", sum := "535a891e1124877c68e10eda2c7cc77a32ba5dc47bfea6593b1b5ddb72a16e39", func := "camshaft/camshaftlaw15.AdmitWider", spec := "admitWider", inPlace := ["internal/abi.NoEscape"], unfollowed := true, recurses := true, named := ["camshaft/num.names", "camshaft/crc.halves"], apart := false, laid := [("camshaft/num.names", laid_camshaft_num_names), ("camshaft/crc.halves", laid_camshaft_crc_halves)], narrowed := true }
def AdmitWiderUptoSaid : Prop := admitWiderUptoRow.holds Tryz.pinned (OpenSpec.upto admitWiderSpec)

/-- 'camshaftlaw15.AdmitFewer', WHERE WHAT IT READS IS OF BULK AT MOST 1048576: true; the input reads as it did. -/
def admitFewerUptoRow : OpenClaim := { program := "ytngehojibcmieaagreatdoor", sum := "535a891e1124877c68e10eda2c7cc77a32ba5dc47bfea6593b1b5ddb72a16e39", func := "camshaft/camshaftlaw15.AdmitFewer", spec := "admitFewer", inPlace := ["internal/abi.NoEscape"], unfollowed := true, recurses := true, named := ["camshaft/num.names", "camshaft/crc.halves"], apart := false, laid := [("camshaft/num.names", laid_camshaft_num_names), ("camshaft/crc.halves", laid_camshaft_crc_halves)], narrowed := true }
def AdmitFewerUptoSaid : Prop := admitFewerUptoRow.holds Tryz.pinned (OpenSpec.upto admitFewerSpec)

end Rows
end Go.Proofs.YtngehojibcmieaaGreatDoor
