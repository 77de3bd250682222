/-
  NARROWER THAN 'FOR EVERY INPUT', by the rows' own cells (each row's printed sentence says how): NestTells: laid · NestMatches: laid · NestJumps: laid · NestLocks: laid · NestHomes: laid · NestParts: laid · NestLoops: laid.
  DERIVED. THE GIVEN ROWS OF THIS SEAT. 7 by the template 'for every input the law returns true; each argument reads behind the call as it read before'; 0 by the template 'total and deterministic' (their statements: YtncnofcgpiaadaaDoorTotals.lean).
  GIVEN WITH THE SEED: the statements are not yours to turn. If you find one false, say at which input.
  Laid BY PROGRAM, IN A SANDBOX (cutbox-rows.mjs): the forced cells as the released guide's own fill.sh prints them over the translation 9a0966742d929d39… (all of the seat's roots in one cut). By AI agents, Wed Nov 11 2026. No macro, syntax, notation, axiom, sorry.
-/
import Derived.Test.YtncnofcgpiaadaaDoorChecked
import GoSem.Claim
import GoSem.ClaimJoined
import GoSem.ClaimMapViews
import Derived.JoinedTies
import Derived.KernelRfl
namespace Go.Proofs.YtncnofcgpiaadaaDoor
/- THE CELL 'sum', in the pinned program and in every row, IS THE sha256 OF THE DUMP (.gsa) THAT YtncnofcgpiaadaaDoorProg.lean LOADS. Nothing in Lean hashes anything: it is a label: what it is worth is what the hold of that sum in a sandbox is worth. -/
noncomputable def Tryd.pinned : Pinned := { name := "ytncnofcgpiaadaadoor", sum := "9a0966742d929d39924d2d30da9588ff052b2d0ffda8403f11f48cae2d052e38", checked := Tryd.checked }
namespace Rows
def none {H : Type} : Left H := { results := [], args := [] }

/- WHAT THE LISTED PACKAGE-LEVEL VARIABLES READ AS WHEN THE CALL BEGINS. Each datum BY PROGRAM (the guide's laid-datum.mjs) off the statement by which the dump's own 'gosem.cut.vars' lays the variable. In a bare row this is a premise. The card (YtncnofcgpiaadaaDoorCards.lean) ties it to the program's text. -/
def laid_camshaft_num_names {H : Type} : DataW H := .agg [.lit (.string []), .lit (.string [65, 68, 68]), .lit (.string [83, 85, 66]), .lit (.string [77, 85, 76]), .lit (.string [68, 73, 86]), .lit (.string [77, 79, 68]), .lit (.string [65, 78, 68]), .lit (.string [79, 82]), .lit (.string [88, 79, 82]), .lit (.string [83, 72, 76]), .lit (.string [83, 72, 82]), .lit (.string [76, 84]), .lit (.string [69, 81])]

/-- 'camshaftlaw06.NestTells': WHATEVER THE INPUT: true; the input reads as it did. -/
def nestTellsSpec : ChangeSpec := { name := "nestTells", fn := fun _ => fun
  | [d] => { results := [.lit (.bool true)], args := [d] }
  | _ => none }
def nestTellsRow : OpenClaim := { program := "ytncnofcgpiaadaadoor", sum := "9a0966742d929d39924d2d30da9588ff052b2d0ffda8403f11f48cae2d052e38", func := "camshaft/camshaftlaw06.NestTells", spec := "nestTells", unfollowed := true, recurses := true, named := ["camshaft/num.names"], apart := false, laid := [("camshaft/num.names", laid_camshaft_num_names)] }
def NestTellsSaid : Prop := nestTellsRow.holds Tryd.pinned (OpenSpec.ofChange nestTellsSpec)

/-- ITS FALSE NEIGHBOUR: 'it returns false'. Refute it at one input. -/
def nestTellsWrong : ChangeSpec := { name := "nestTells", fn := fun _ => fun
  | [d] => { results := [.lit (.bool false)], args := [d] }
  | _ => none }
def NestTellsWrongFalsely : Prop := nestTellsRow.holds Tryd.pinned (OpenSpec.ofChange nestTellsWrong)

/-- 'camshaftlaw06.NestMatches': WHATEVER THE INPUT: true; the input reads as it did. -/
def nestMatchesSpec : ChangeSpec := { name := "nestMatches", fn := fun _ => fun
  | [d] => { results := [.lit (.bool true)], args := [d] }
  | _ => none }
def nestMatchesRow : OpenClaim := { program := "ytncnofcgpiaadaadoor", sum := "9a0966742d929d39924d2d30da9588ff052b2d0ffda8403f11f48cae2d052e38", func := "camshaft/camshaftlaw06.NestMatches", spec := "nestMatches", unfollowed := true, recurses := true, named := ["camshaft/num.names"], apart := false, laid := [("camshaft/num.names", laid_camshaft_num_names)] }
def NestMatchesSaid : Prop := nestMatchesRow.holds Tryd.pinned (OpenSpec.ofChange nestMatchesSpec)

/-- ITS FALSE NEIGHBOUR: 'it returns false'. Refute it at one input. -/
def nestMatchesWrong : ChangeSpec := { name := "nestMatches", fn := fun _ => fun
  | [d] => { results := [.lit (.bool false)], args := [d] }
  | _ => none }
def NestMatchesWrongFalsely : Prop := nestMatchesRow.holds Tryd.pinned (OpenSpec.ofChange nestMatchesWrong)

/-- 'camshaftlaw06.NestJumps': WHATEVER THE INPUT: true; the input reads as it did. -/
def nestJumpsSpec : ChangeSpec := { name := "nestJumps", fn := fun _ => fun
  | [d] => { results := [.lit (.bool true)], args := [d] }
  | _ => none }
def nestJumpsRow : OpenClaim := { program := "ytncnofcgpiaadaadoor", sum := "9a0966742d929d39924d2d30da9588ff052b2d0ffda8403f11f48cae2d052e38", func := "camshaft/camshaftlaw06.NestJumps", spec := "nestJumps", unfollowed := true, recurses := true, named := ["camshaft/num.names"], apart := false, laid := [("camshaft/num.names", laid_camshaft_num_names)] }
def NestJumpsSaid : Prop := nestJumpsRow.holds Tryd.pinned (OpenSpec.ofChange nestJumpsSpec)

/-- ITS FALSE NEIGHBOUR: 'it returns false'. Refute it at one input. -/
def nestJumpsWrong : ChangeSpec := { name := "nestJumps", fn := fun _ => fun
  | [d] => { results := [.lit (.bool false)], args := [d] }
  | _ => none }
def NestJumpsWrongFalsely : Prop := nestJumpsRow.holds Tryd.pinned (OpenSpec.ofChange nestJumpsWrong)

/-- 'camshaftlaw06.NestLocks': WHATEVER THE INPUT: true; the input reads as it did. -/
def nestLocksSpec : ChangeSpec := { name := "nestLocks", fn := fun _ => fun
  | [d] => { results := [.lit (.bool true)], args := [d] }
  | _ => none }
def nestLocksRow : OpenClaim := { program := "ytncnofcgpiaadaadoor", sum := "9a0966742d929d39924d2d30da9588ff052b2d0ffda8403f11f48cae2d052e38", func := "camshaft/camshaftlaw06.NestLocks", spec := "nestLocks", unfollowed := true, recurses := true, named := ["camshaft/num.names"], apart := false, laid := [("camshaft/num.names", laid_camshaft_num_names)] }
def NestLocksSaid : Prop := nestLocksRow.holds Tryd.pinned (OpenSpec.ofChange nestLocksSpec)

/-- ITS FALSE NEIGHBOUR: 'it returns false'. Refute it at one input. -/
def nestLocksWrong : ChangeSpec := { name := "nestLocks", fn := fun _ => fun
  | [d] => { results := [.lit (.bool false)], args := [d] }
  | _ => none }
def NestLocksWrongFalsely : Prop := nestLocksRow.holds Tryd.pinned (OpenSpec.ofChange nestLocksWrong)

/-- 'camshaftlaw06.NestHomes': WHATEVER THE INPUT: true; the input reads as it did. -/
def nestHomesSpec : ChangeSpec := { name := "nestHomes", fn := fun _ => fun
  | [d] => { results := [.lit (.bool true)], args := [d] }
  | _ => none }
def nestHomesRow : OpenClaim := { program := "ytncnofcgpiaadaadoor", sum := "9a0966742d929d39924d2d30da9588ff052b2d0ffda8403f11f48cae2d052e38", func := "camshaft/camshaftlaw06.NestHomes", spec := "nestHomes", unfollowed := true, recurses := true, named := ["camshaft/num.names"], apart := false, laid := [("camshaft/num.names", laid_camshaft_num_names)] }
def NestHomesSaid : Prop := nestHomesRow.holds Tryd.pinned (OpenSpec.ofChange nestHomesSpec)

/-- ITS FALSE NEIGHBOUR: 'it returns false'. Refute it at one input. -/
def nestHomesWrong : ChangeSpec := { name := "nestHomes", fn := fun _ => fun
  | [d] => { results := [.lit (.bool false)], args := [d] }
  | _ => none }
def NestHomesWrongFalsely : Prop := nestHomesRow.holds Tryd.pinned (OpenSpec.ofChange nestHomesWrong)

/-- 'camshaftlaw06.NestParts': WHATEVER THE INPUT: true; the input reads as it did. -/
def nestPartsSpec : ChangeSpec := { name := "nestParts", fn := fun _ => fun
  | [d1, d2] => { results := [.lit (.bool true)], args := [d1, d2] }
  | _ => none }
def nestPartsRow : OpenClaim := { program := "ytncnofcgpiaadaadoor", sum := "9a0966742d929d39924d2d30da9588ff052b2d0ffda8403f11f48cae2d052e38", func := "camshaft/camshaftlaw06.NestParts", spec := "nestParts", unfollowed := true, recurses := true, named := ["camshaft/num.names"], apart := false, laid := [("camshaft/num.names", laid_camshaft_num_names)] }
def NestPartsSaid : Prop := nestPartsRow.holds Tryd.pinned (OpenSpec.ofChange nestPartsSpec)

/-- ITS FALSE NEIGHBOUR: 'it returns false'. Refute it at one input. -/
def nestPartsWrong : ChangeSpec := { name := "nestParts", fn := fun _ => fun
  | [d1, d2] => { results := [.lit (.bool false)], args := [d1, d2] }
  | _ => none }
def NestPartsWrongFalsely : Prop := nestPartsRow.holds Tryd.pinned (OpenSpec.ofChange nestPartsWrong)

/-- 'camshaftlaw06.NestLoops': WHATEVER THE INPUT: true; the input reads as it did. -/
def nestLoopsSpec : ChangeSpec := { name := "nestLoops", fn := fun _ => fun
  | [d1, d2] => { results := [.lit (.bool true)], args := [d1, d2] }
  | _ => none }
def nestLoopsRow : OpenClaim := { program := "ytncnofcgpiaadaadoor", sum := "9a0966742d929d39924d2d30da9588ff052b2d0ffda8403f11f48cae2d052e38", func := "camshaft/camshaftlaw06.NestLoops", spec := "nestLoops", unfollowed := true, recurses := true, named := ["camshaft/num.names"], apart := false, laid := [("camshaft/num.names", laid_camshaft_num_names)] }
def NestLoopsSaid : Prop := nestLoopsRow.holds Tryd.pinned (OpenSpec.ofChange nestLoopsSpec)

/-- ITS FALSE NEIGHBOUR: 'it returns false'. Refute it at one input. -/
def nestLoopsWrong : ChangeSpec := { name := "nestLoops", fn := fun _ => fun
  | [d1, d2] => { results := [.lit (.bool false)], args := [d1, d2] }
  | _ => none }
def NestLoopsWrongFalsely : Prop := nestLoopsRow.holds Tryd.pinned (OpenSpec.ofChange nestLoopsWrong)

/- THE SECOND FORM. 'bulk': how many values and letters a reading holds, each counted each time it is reached (what is shared counts as often as it is met; a slice's spare places count too). A statement '..UptoSaid' is the law's where the arguments, and the package variables that the reading takes, are together of bulk at most 1048576: NARROWER than '..Said'. Prove '..Said' where nothing that the law and all that it calls make is longer than what came in: it says more and counts as full. Else prove '..UptoSaid'. A law counts once. -/
mutual
def uptoBulk {H : Type} : DataW H → Nat
  | .lit (.string bytes) => bytes.length + 1
  | .lit _ => 1
  | .nil => 1
  | .ptr d => uptoBulk d + 1
  | .slice elems spare => uptoBulkAll elems + uptoBulkAll spare + 1
  | .agg parts => uptoBulkAll parts + 1
  | .iface _ d => uptoBulk d + 1
  | .map entries => uptoBulkEntries entries + 1
  | .held _ => 1
def uptoBulkAll {H : Type} : List (DataW H) → Nat
  | [] => 0
  | d :: r => uptoBulk d + uptoBulkAll r
def uptoBulkEntries {H : Type} : List (Lit × DataW H) → Nat
  | [] => 0
  | x :: r => uptoBulkEntry x + uptoBulkEntries r
def uptoBulkEntry {H : Type} : Lit × DataW H → Nat
  | (.string bytes, d) => bytes.length + uptoBulk d + 1
  | (_, d) => uptoBulk d + 1
 end
def uptoSmall : (H : Type) → List (DataW H) → Bool := fun _ ds => decide (uptoBulkAll ds ≤ 1048576)
def OpenSpec.upto (s : _root_.Go.ChangeSpec) : _root_.Go.OpenSpec := { _root_.Go.OpenSpec.ofChange s with cond := some uptoSmall }

/-- 'camshaftlaw06.NestTells', WHERE WHAT IT READS IS OF BULK AT MOST 1048576: true; the input reads as it did. -/
def nestTellsUptoRow : OpenClaim := { program := "ytncnofcgpiaadaadoor", sum := "9a0966742d929d39924d2d30da9588ff052b2d0ffda8403f11f48cae2d052e38", func := "camshaft/camshaftlaw06.NestTells", spec := "nestTells", unfollowed := true, recurses := true, named := ["camshaft/num.names"], apart := false, laid := [("camshaft/num.names", laid_camshaft_num_names)], narrowed := true }
def NestTellsUptoSaid : Prop := nestTellsUptoRow.holds Tryd.pinned (OpenSpec.upto nestTellsSpec)

/-- 'camshaftlaw06.NestMatches', WHERE WHAT IT READS IS OF BULK AT MOST 1048576: true; the input reads as it did. -/
def nestMatchesUptoRow : OpenClaim := { program := "ytncnofcgpiaadaadoor", sum := "9a0966742d929d39924d2d30da9588ff052b2d0ffda8403f11f48cae2d052e38", func := "camshaft/camshaftlaw06.NestMatches", spec := "nestMatches", unfollowed := true, recurses := true, named := ["camshaft/num.names"], apart := false, laid := [("camshaft/num.names", laid_camshaft_num_names)], narrowed := true }
def NestMatchesUptoSaid : Prop := nestMatchesUptoRow.holds Tryd.pinned (OpenSpec.upto nestMatchesSpec)

/-- 'camshaftlaw06.NestJumps', WHERE WHAT IT READS IS OF BULK AT MOST 1048576: true; the input reads as it did. -/
def nestJumpsUptoRow : OpenClaim := { program := "ytncnofcgpiaadaadoor", sum := "9a0966742d929d39924d2d30da9588ff052b2d0ffda8403f11f48cae2d052e38", func := "camshaft/camshaftlaw06.NestJumps", spec := "nestJumps", unfollowed := true, recurses := true, named := ["camshaft/num.names"], apart := false, laid := [("camshaft/num.names", laid_camshaft_num_names)], narrowed := true }
def NestJumpsUptoSaid : Prop := nestJumpsUptoRow.holds Tryd.pinned (OpenSpec.upto nestJumpsSpec)

/-- 'camshaftlaw06.NestLocks', WHERE WHAT IT READS IS OF BULK AT MOST 1048576: true; the input reads as it did. -/
def nestLocksUptoRow : OpenClaim := { program := "ytncnofcgpiaadaadoor", sum := "9a0966742d929d39924d2d30da9588ff052b2d0ffda8403f11f48cae2d052e38", func := "camshaft/camshaftlaw06.NestLocks", spec := "nestLocks", unfollowed := true, recurses := true, named := ["camshaft/num.names"], apart := false, laid := [("camshaft/num.names", laid_camshaft_num_names)], narrowed := true }
def NestLocksUptoSaid : Prop := nestLocksUptoRow.holds Tryd.pinned (OpenSpec.upto nestLocksSpec)

/-- 'camshaftlaw06.NestHomes', WHERE WHAT IT READS IS OF BULK AT MOST 1048576: true; the input reads as it did. -/
def nestHomesUptoRow : OpenClaim := { program := "ytncnofcgpiaadaadoor", sum := "9a0966742d929d39924d2d30da9588ff052b2d0ffda8403f11f48cae2d052e38", func := "camshaft/camshaftlaw06.NestHomes", spec := "nestHomes", unfollowed := true, recurses := true, named := ["camshaft/num.names"], apart := false, laid := [("camshaft/num.names", laid_camshaft_num_names)], narrowed := true }
def NestHomesUptoSaid : Prop := nestHomesUptoRow.holds Tryd.pinned (OpenSpec.upto nestHomesSpec)

/-- 'camshaftlaw06.NestParts', WHERE WHAT IT READS IS OF BULK AT MOST 1048576: true; the input reads as it did. -/
def nestPartsUptoRow : OpenClaim := { program := "ytncnofcgpiaadaadoor", sum := "9a0966742d929d39924d2d30da9588ff052b2d0ffda8403f11f48cae2d052e38", func := "camshaft/camshaftlaw06.NestParts", spec := "nestParts", unfollowed := true, recurses := true, named := ["camshaft/num.names"], apart := false, laid := [("camshaft/num.names", laid_camshaft_num_names)], narrowed := true }
def NestPartsUptoSaid : Prop := nestPartsUptoRow.holds Tryd.pinned (OpenSpec.upto nestPartsSpec)

/-- 'camshaftlaw06.NestLoops', WHERE WHAT IT READS IS OF BULK AT MOST 1048576: true; the input reads as it did. -/
def nestLoopsUptoRow : OpenClaim := { program := "ytncnofcgpiaadaadoor", sum := "9a0966742d929d39924d2d30da9588ff052b2d0ffda8403f11f48cae2d052e38", func := "camshaft/camshaftlaw06.NestLoops", spec := "nestLoops", unfollowed := true, recurses := true, named := ["camshaft/num.names"], apart := false, laid := [("camshaft/num.names", laid_camshaft_num_names)], narrowed := true }
def NestLoopsUptoSaid : Prop := nestLoopsUptoRow.holds Tryd.pinned (OpenSpec.upto nestLoopsSpec)

end Rows
end Go.Proofs.YtncnofcgpiaadaaDoor
