/-
  NARROWER THAN 'FOR EVERY INPUT', by the rows' own cells (each row's printed sentence says how): CrcTells: laid · CrcOn: laid · CrcOpens: laid · CrcShifts: laid · CrcParts: laid · CrcSwaps: laid · CrcLines: laid.
  DERIVED. THE GIVEN ROWS OF THIS SEAT. 7 by the template 'for every input the law returns true; each argument reads behind the call as it read before'; 0 by the template 'total and deterministic' (their statements: YtdkhefloooadhaaDoorTotals.lean).
  GIVEN WITH THE SEED: the statements are not yours to turn. If you find one false, say at which input.
  Laid BY PROGRAM, IN A SANDBOX (cutbox-rows.mjs): the forced cells as the released guide's own fill.sh prints them over the translation 9ff0eb485f316142… (all of the seat's roots in one cut). By AI agents, Wed Nov 11 2026. No macro, syntax, notation, axiom, sorry.
-/
import Derived.Test.YtdkhefloooadhaaDoorChecked
import GoSem.Claim
import GoSem.ClaimJoined
import GoSem.ClaimMapViews
import Derived.JoinedTies
import Derived.KernelRfl
namespace Go.Proofs.YtdkhefloooadhaaDoor
/- THE CELL 'sum', in the pinned program and in every row, IS THE sha256 OF THE DUMP (.gsa) THAT YtdkhefloooadhaaDoorProg.lean LOADS. Nothing in Lean hashes anything: it is a label: what it is worth is what the hold of that sum in a sandbox is worth. -/
noncomputable def Tryd.pinned : Pinned := { name := "ytdkhefloooadhaadoor", sum := "9ff0eb485f316142cdb851a010efa11de67d24510e1376840d27f947c575b65e", checked := Tryd.checked }
namespace Rows
def none {H : Type} : Left H := { results := [], args := [] }

/- WHAT THE LISTED PACKAGE-LEVEL VARIABLES READ AS WHEN THE CALL BEGINS. Each datum BY PROGRAM (the guide's laid-datum.mjs) off the statement by which the dump's own 'gosem.cut.vars' lays the variable. In a bare row this is a premise. The card (YtdkhefloooadhaaDoorCards.lean) ties it to the program's text. -/
def laid_camshaft_crc_halves {H : Type} : DataW H := .agg [.lit (.int .u16 0), .lit (.int .u16 4129), .lit (.int .u16 8258), .lit (.int .u16 12387), .lit (.int .u16 16516), .lit (.int .u16 20645), .lit (.int .u16 24774), .lit (.int .u16 28903), .lit (.int .u16 33032), .lit (.int .u16 37161), .lit (.int .u16 41290), .lit (.int .u16 45419), .lit (.int .u16 49548), .lit (.int .u16 53677), .lit (.int .u16 57806), .lit (.int .u16 61935)]

/-- 'camshaftlaw03.CrcTells': WHATEVER THE INPUT: true; the input reads as it did. -/
def crcTellsSpec : ChangeSpec := { name := "crcTells", fn := fun _ => fun
  | [d1, d2] => { results := [.lit (.bool true)], args := [d1, d2] }
  | _ => none }
def crcTellsRow : OpenClaim := { program := "ytdkhefloooadhaadoor", sum := "9ff0eb485f316142cdb851a010efa11de67d24510e1376840d27f947c575b65e", func := "camshaft/camshaftlaw03.CrcTells", spec := "crcTells", named := ["camshaft/crc.halves"], apart := false, laid := [("camshaft/crc.halves", laid_camshaft_crc_halves)] }
def CrcTellsSaid : Prop := crcTellsRow.holds Tryd.pinned (OpenSpec.ofChange crcTellsSpec)

/-- ITS FALSE NEIGHBOUR: 'it returns false'. Refute it at one input. -/
def crcTellsWrong : ChangeSpec := { name := "crcTells", fn := fun _ => fun
  | [d1, d2] => { results := [.lit (.bool false)], args := [d1, d2] }
  | _ => none }
def CrcTellsWrongFalsely : Prop := crcTellsRow.holds Tryd.pinned (OpenSpec.ofChange crcTellsWrong)

/-- 'camshaftlaw03.CrcOn': WHATEVER THE INPUT: true; the input reads as it did. -/
def crcOnSpec : ChangeSpec := { name := "crcOn", fn := fun _ => fun
  | [d1, d2, d3] => { results := [.lit (.bool true)], args := [d1, d2, d3] }
  | _ => none }
def crcOnRow : OpenClaim := { program := "ytdkhefloooadhaadoor", sum := "9ff0eb485f316142cdb851a010efa11de67d24510e1376840d27f947c575b65e", func := "camshaft/camshaftlaw03.CrcOn", spec := "crcOn", named := ["camshaft/crc.halves"], apart := false, laid := [("camshaft/crc.halves", laid_camshaft_crc_halves)] }
def CrcOnSaid : Prop := crcOnRow.holds Tryd.pinned (OpenSpec.ofChange crcOnSpec)

/-- ITS FALSE NEIGHBOUR: 'it returns false'. Refute it at one input. -/
def crcOnWrong : ChangeSpec := { name := "crcOn", fn := fun _ => fun
  | [d1, d2, d3] => { results := [.lit (.bool false)], args := [d1, d2, d3] }
  | _ => none }
def CrcOnWrongFalsely : Prop := crcOnRow.holds Tryd.pinned (OpenSpec.ofChange crcOnWrong)

/-- 'camshaftlaw03.CrcOpens': WHATEVER THE INPUT: true; the input reads as it did. -/
def crcOpensSpec : ChangeSpec := { name := "crcOpens", fn := fun _ => fun
  | [d1, d2, d3] => { results := [.lit (.bool true)], args := [d1, d2, d3] }
  | _ => none }
def crcOpensRow : OpenClaim := { program := "ytdkhefloooadhaadoor", sum := "9ff0eb485f316142cdb851a010efa11de67d24510e1376840d27f947c575b65e", func := "camshaft/camshaftlaw03.CrcOpens", spec := "crcOpens", named := ["camshaft/crc.halves"], apart := false, laid := [("camshaft/crc.halves", laid_camshaft_crc_halves)] }
def CrcOpensSaid : Prop := crcOpensRow.holds Tryd.pinned (OpenSpec.ofChange crcOpensSpec)

/-- ITS FALSE NEIGHBOUR: 'it returns false'. Refute it at one input. -/
def crcOpensWrong : ChangeSpec := { name := "crcOpens", fn := fun _ => fun
  | [d1, d2, d3] => { results := [.lit (.bool false)], args := [d1, d2, d3] }
  | _ => none }
def CrcOpensWrongFalsely : Prop := crcOpensRow.holds Tryd.pinned (OpenSpec.ofChange crcOpensWrong)

/-- 'camshaftlaw03.CrcShifts': WHATEVER THE INPUT: true; the input reads as it did. -/
def crcShiftsSpec : ChangeSpec := { name := "crcShifts", fn := fun _ => fun
  | [d1, d2, d3] => { results := [.lit (.bool true)], args := [d1, d2, d3] }
  | _ => none }
def crcShiftsRow : OpenClaim := { program := "ytdkhefloooadhaadoor", sum := "9ff0eb485f316142cdb851a010efa11de67d24510e1376840d27f947c575b65e", func := "camshaft/camshaftlaw03.CrcShifts", spec := "crcShifts", named := ["camshaft/crc.halves"], apart := false, laid := [("camshaft/crc.halves", laid_camshaft_crc_halves)] }
def CrcShiftsSaid : Prop := crcShiftsRow.holds Tryd.pinned (OpenSpec.ofChange crcShiftsSpec)

/-- ITS FALSE NEIGHBOUR: 'it returns false'. Refute it at one input. -/
def crcShiftsWrong : ChangeSpec := { name := "crcShifts", fn := fun _ => fun
  | [d1, d2, d3] => { results := [.lit (.bool false)], args := [d1, d2, d3] }
  | _ => none }
def CrcShiftsWrongFalsely : Prop := crcShiftsRow.holds Tryd.pinned (OpenSpec.ofChange crcShiftsWrong)

/-- 'camshaftlaw03.CrcParts': WHATEVER THE INPUT: true; the input reads as it did. -/
def crcPartsSpec : ChangeSpec := { name := "crcParts", fn := fun _ => fun
  | [d1, d2, d3] => { results := [.lit (.bool true)], args := [d1, d2, d3] }
  | _ => none }
def crcPartsRow : OpenClaim := { program := "ytdkhefloooadhaadoor", sum := "9ff0eb485f316142cdb851a010efa11de67d24510e1376840d27f947c575b65e", func := "camshaft/camshaftlaw03.CrcParts", spec := "crcParts", named := ["camshaft/crc.halves"], apart := false, laid := [("camshaft/crc.halves", laid_camshaft_crc_halves)] }
def CrcPartsSaid : Prop := crcPartsRow.holds Tryd.pinned (OpenSpec.ofChange crcPartsSpec)

/-- ITS FALSE NEIGHBOUR: 'it returns false'. Refute it at one input. -/
def crcPartsWrong : ChangeSpec := { name := "crcParts", fn := fun _ => fun
  | [d1, d2, d3] => { results := [.lit (.bool false)], args := [d1, d2, d3] }
  | _ => none }
def CrcPartsWrongFalsely : Prop := crcPartsRow.holds Tryd.pinned (OpenSpec.ofChange crcPartsWrong)

/-- 'camshaftlaw03.CrcSwaps': WHATEVER THE INPUT: true; the input reads as it did. -/
def crcSwapsSpec : ChangeSpec := { name := "crcSwaps", fn := fun _ => fun
  | [d1, d2] => { results := [.lit (.bool true)], args := [d1, d2] }
  | _ => none }
def crcSwapsRow : OpenClaim := { program := "ytdkhefloooadhaadoor", sum := "9ff0eb485f316142cdb851a010efa11de67d24510e1376840d27f947c575b65e", func := "camshaft/camshaftlaw03.CrcSwaps", spec := "crcSwaps", named := ["camshaft/crc.halves"], apart := false, laid := [("camshaft/crc.halves", laid_camshaft_crc_halves)] }
def CrcSwapsSaid : Prop := crcSwapsRow.holds Tryd.pinned (OpenSpec.ofChange crcSwapsSpec)

/-- ITS FALSE NEIGHBOUR: 'it returns false'. Refute it at one input. -/
def crcSwapsWrong : ChangeSpec := { name := "crcSwaps", fn := fun _ => fun
  | [d1, d2] => { results := [.lit (.bool false)], args := [d1, d2] }
  | _ => none }
def CrcSwapsWrongFalsely : Prop := crcSwapsRow.holds Tryd.pinned (OpenSpec.ofChange crcSwapsWrong)

/-- 'camshaftlaw03.CrcLines': WHATEVER THE INPUT: true; the input reads as it did. -/
def crcLinesSpec : ChangeSpec := { name := "crcLines", fn := fun _ => fun
  | [d1, d2, d3] => { results := [.lit (.bool true)], args := [d1, d2, d3] }
  | _ => none }
def crcLinesRow : OpenClaim := { program := "ytdkhefloooadhaadoor", sum := "9ff0eb485f316142cdb851a010efa11de67d24510e1376840d27f947c575b65e", func := "camshaft/camshaftlaw03.CrcLines", spec := "crcLines", named := ["camshaft/crc.halves"], apart := false, laid := [("camshaft/crc.halves", laid_camshaft_crc_halves)] }
def CrcLinesSaid : Prop := crcLinesRow.holds Tryd.pinned (OpenSpec.ofChange crcLinesSpec)

/-- ITS FALSE NEIGHBOUR: 'it returns false'. Refute it at one input. -/
def crcLinesWrong : ChangeSpec := { name := "crcLines", fn := fun _ => fun
  | [d1, d2, d3] => { results := [.lit (.bool false)], args := [d1, d2, d3] }
  | _ => none }
def CrcLinesWrongFalsely : Prop := crcLinesRow.holds Tryd.pinned (OpenSpec.ofChange crcLinesWrong)

/- THE SECOND FORM. 'bulk': how many values and letters a reading holds, each counted each time it is reached (what is shared counts as often as it is met; a slice's spare places count too). A statement '..UptoSaid' is the law's where the arguments, and the package variables that the reading takes, are together of bulk at most 1048576: NARROWER than '..Said'. Prove '..Said' where nothing that the law and all that it calls make is longer than what came in: it says more and counts as full. Else prove '..UptoSaid'. A law counts once. -/
mutual
def uptoBulk {H : Type} : DataW H → Nat
  | .lit (.string bytes) => bytes.length + 1
  | .lit _ => 1
  | .nil => 1
  | .ptr d => uptoBulk d + 1
  | .slice elems spare => uptoBulkAll elems + uptoBulkAll spare + 1
  | .agg parts => uptoBulkAll parts + 1
  | .iface _ d => uptoBulk d + 1
  | .map entries => uptoBulkEntries entries + 1
  | .held _ => 1
def uptoBulkAll {H : Type} : List (DataW H) → Nat
  | [] => 0
  | d :: r => uptoBulk d + uptoBulkAll r
def uptoBulkEntries {H : Type} : List (Lit × DataW H) → Nat
  | [] => 0
  | x :: r => uptoBulkEntry x + uptoBulkEntries r
def uptoBulkEntry {H : Type} : Lit × DataW H → Nat
  | (.string bytes, d) => bytes.length + uptoBulk d + 1
  | (_, d) => uptoBulk d + 1
 end
def uptoSmall : (H : Type) → List (DataW H) → Bool := fun _ ds => decide (uptoBulkAll ds ≤ 1048576)
def OpenSpec.upto (s : _root_.Go.ChangeSpec) : _root_.Go.OpenSpec := { _root_.Go.OpenSpec.ofChange s with cond := some uptoSmall }

/-- 'camshaftlaw03.CrcTells', WHERE WHAT IT READS IS OF BULK AT MOST 1048576: true; the input reads as it did. -/
def crcTellsUptoRow : OpenClaim := { program := "ytdkhefloooadhaadoor", sum := "9ff0eb485f316142cdb851a010efa11de67d24510e1376840d27f947c575b65e", func := "camshaft/camshaftlaw03.CrcTells", spec := "crcTells", named := ["camshaft/crc.halves"], apart := false, laid := [("camshaft/crc.halves", laid_camshaft_crc_halves)], narrowed := true }
def CrcTellsUptoSaid : Prop := crcTellsUptoRow.holds Tryd.pinned (OpenSpec.upto crcTellsSpec)

/-- 'camshaftlaw03.CrcOn', WHERE WHAT IT READS IS OF BULK AT MOST 1048576: true; the input reads as it did. -/
def crcOnUptoRow : OpenClaim := { program := "ytdkhefloooadhaadoor", sum := "9ff0eb485f316142cdb851a010efa11de67d24510e1376840d27f947c575b65e", func := "camshaft/camshaftlaw03.CrcOn", spec := "crcOn", named := ["camshaft/crc.halves"], apart := false, laid := [("camshaft/crc.halves", laid_camshaft_crc_halves)], narrowed := true }
def CrcOnUptoSaid : Prop := crcOnUptoRow.holds Tryd.pinned (OpenSpec.upto crcOnSpec)

/-- 'camshaftlaw03.CrcOpens', WHERE WHAT IT READS IS OF BULK AT MOST 1048576: true; the input reads as it did. -/
def crcOpensUptoRow : OpenClaim := { program := "ytdkhefloooadhaadoor", sum := "9ff0eb485f316142cdb851a010efa11de67d24510e1376840d27f947c575b65e", func := "camshaft/camshaftlaw03.CrcOpens", spec := "crcOpens", named := ["camshaft/crc.halves"], apart := false, laid := [("camshaft/crc.halves", laid_camshaft_crc_halves)], narrowed := true }
def CrcOpensUptoSaid : Prop := crcOpensUptoRow.holds Tryd.pinned (OpenSpec.upto crcOpensSpec)

/-- 'camshaftlaw03.CrcShifts', WHERE WHAT IT READS IS OF BULK AT MOST 1048576: true; the input reads as it did. -/
def crcShiftsUptoRow : OpenClaim := { program := "ytdkhefloooadhaadoor", sum := "9ff0eb485f316142cdb851a010efa11de67d24510e1376840d27f947c575b65e", func := "camshaft/camshaftlaw03.CrcShifts", spec := "crcShifts", named := ["camshaft/crc.halves"], apart := false, laid := [("camshaft/crc.halves", laid_camshaft_crc_halves)], narrowed := true }
def CrcShiftsUptoSaid : Prop := crcShiftsUptoRow.holds Tryd.pinned (OpenSpec.upto crcShiftsSpec)

/-- 'camshaftlaw03.CrcParts', WHERE WHAT IT READS IS OF BULK AT MOST 1048576: true; the input reads as it did. -/
def crcPartsUptoRow : OpenClaim := { program := "ytdkhefloooadhaadoor", sum := "9ff0eb485f316142cdb851a010efa11de67d24510e1376840d27f947c575b65e", func := "camshaft/camshaftlaw03.CrcParts", spec := "crcParts", named := ["camshaft/crc.halves"], apart := false, laid := [("camshaft/crc.halves", laid_camshaft_crc_halves)], narrowed := true }
def CrcPartsUptoSaid : Prop := crcPartsUptoRow.holds Tryd.pinned (OpenSpec.upto crcPartsSpec)

/-- 'camshaftlaw03.CrcSwaps', WHERE WHAT IT READS IS OF BULK AT MOST 1048576: true; the input reads as it did. -/
def crcSwapsUptoRow : OpenClaim := { program := "ytdkhefloooadhaadoor", sum := "9ff0eb485f316142cdb851a010efa11de67d24510e1376840d27f947c575b65e", func := "camshaft/camshaftlaw03.CrcSwaps", spec := "crcSwaps", named := ["camshaft/crc.halves"], apart := false, laid := [("camshaft/crc.halves", laid_camshaft_crc_halves)], narrowed := true }
def CrcSwapsUptoSaid : Prop := crcSwapsUptoRow.holds Tryd.pinned (OpenSpec.upto crcSwapsSpec)

/-- 'camshaftlaw03.CrcLines', WHERE WHAT IT READS IS OF BULK AT MOST 1048576: true; the input reads as it did. -/
def crcLinesUptoRow : OpenClaim := { program := "ytdkhefloooadhaadoor", sum := "9ff0eb485f316142cdb851a010efa11de67d24510e1376840d27f947c575b65e", func := "camshaft/camshaftlaw03.CrcLines", spec := "crcLines", named := ["camshaft/crc.halves"], apart := false, laid := [("camshaft/crc.halves", laid_camshaft_crc_halves)], narrowed := true }
def CrcLinesUptoSaid : Prop := crcLinesUptoRow.holds Tryd.pinned (OpenSpec.upto crcLinesSpec)

end Rows
end Go.Proofs.YtdkhefloooadhaaDoor
