/-
  No cell of these rows narrows 'for every input' (looked for: loops, veiled, ifaces, maps, wideKeys, modest, calm, conditions, laid).
  DERIVED. THE GIVEN ROWS OF THIS SEAT. 6 by the template 'for every input the law returns true; each argument reads behind the call as it read before'; 0 by the template 'total and deterministic' (their statements: YtiibbeigkopkeaaTotals.lean).
  GIVEN WITH THE SEED: the statements are not yours to turn. If you find one false, say at which input.
  Laid BY PROGRAM, IN A SANDBOX (cutbox-rows.mjs): the forced cells as the released guide's own fill.sh prints them over the translation 2bb81d4121a105b6… (all of the seat's roots in one cut). By AI agents, Wed Nov 11 2026. No macro, syntax, notation, axiom, sorry.
-/
import Derived.Test.YtiibbeigkopkeaaChecked
import GoSem.Claim
import GoSem.ClaimJoined
import GoSem.ClaimMapViews
import Derived.JoinedTies
import Derived.KernelRfl
namespace Go.Proofs.Ytiibbeigkopkeaa
/- THE CELL 'sum', in the pinned program and in every row, IS THE sha256 OF THE DUMP (.gsa) THAT YtiibbeigkopkeaaProg.lean LOADS. Nothing in Lean hashes anything: it is a label: what it is worth is what the hold of that sum in a sandbox is worth. -/
noncomputable def Try.pinned : Pinned := { name := "ytiibbeigkopkeaa", sum := "2bb81d4121a105b6664812d1404da89e58b1592fb6c8dc9f5e0306d644176520", checked := Try.checked }
namespace Rows
def none {H : Type} : Left H := { results := [], args := [] }

/-- 'camshaftlaw14.RtaTells': WHATEVER THE INPUT: true; the input reads as it did. -/
def rtaTellsSpec : ChangeSpec := { name := "rtaTells", fn := fun _ => fun
  | [d1, d2, d3] => { results := [.lit (.bool true)], args := [d1, d2, d3] }
  | _ => none }
def rtaTellsRow : OpenClaim := { program := "ytiibbeigkopkeaa", sum := "2bb81d4121a105b6664812d1404da89e58b1592fb6c8dc9f5e0306d644176520", func := "camshaft/camshaftlaw14.RtaTells", spec := "rtaTells", unfollowed := true, recurses := true, apart := false }
def RtaTellsSaid : Prop := rtaTellsRow.holds Try.pinned (OpenSpec.ofChange rtaTellsSpec)

/-- ITS FALSE NEIGHBOUR: 'it returns false'. Refute it at one input. -/
def rtaTellsWrong : ChangeSpec := { name := "rtaTells", fn := fun _ => fun
  | [d1, d2, d3] => { results := [.lit (.bool false)], args := [d1, d2, d3] }
  | _ => none }
def RtaTellsWrongFalsely : Prop := rtaTellsRow.holds Try.pinned (OpenSpec.ofChange rtaTellsWrong)

/-- 'camshaftlaw14.RtaLeast': WHATEVER THE INPUT: true; the input reads as it did. -/
def rtaLeastSpec : ChangeSpec := { name := "rtaLeast", fn := fun _ => fun
  | [d1, d2] => { results := [.lit (.bool true)], args := [d1, d2] }
  | _ => none }
def rtaLeastRow : OpenClaim := { program := "ytiibbeigkopkeaa", sum := "2bb81d4121a105b6664812d1404da89e58b1592fb6c8dc9f5e0306d644176520", func := "camshaft/camshaftlaw14.RtaLeast", spec := "rtaLeast", unfollowed := true, recurses := true, apart := false }
def RtaLeastSaid : Prop := rtaLeastRow.holds Try.pinned (OpenSpec.ofChange rtaLeastSpec)

/-- ITS FALSE NEIGHBOUR: 'it returns false'. Refute it at one input. -/
def rtaLeastWrong : ChangeSpec := { name := "rtaLeast", fn := fun _ => fun
  | [d1, d2] => { results := [.lit (.bool false)], args := [d1, d2] }
  | _ => none }
def RtaLeastWrongFalsely : Prop := rtaLeastRow.holds Try.pinned (OpenSpec.ofChange rtaLeastWrong)

/-- 'camshaftlaw14.RtaGrows': WHATEVER THE INPUT: true; the input reads as it did. -/
def rtaGrowsSpec : ChangeSpec := { name := "rtaGrows", fn := fun _ => fun
  | [d1, d2, d3] => { results := [.lit (.bool true)], args := [d1, d2, d3] }
  | _ => none }
def rtaGrowsRow : OpenClaim := { program := "ytiibbeigkopkeaa", sum := "2bb81d4121a105b6664812d1404da89e58b1592fb6c8dc9f5e0306d644176520", func := "camshaft/camshaftlaw14.RtaGrows", spec := "rtaGrows", unfollowed := true, recurses := true, apart := false }
def RtaGrowsSaid : Prop := rtaGrowsRow.holds Try.pinned (OpenSpec.ofChange rtaGrowsSpec)

/-- ITS FALSE NEIGHBOUR: 'it returns false'. Refute it at one input. -/
def rtaGrowsWrong : ChangeSpec := { name := "rtaGrows", fn := fun _ => fun
  | [d1, d2, d3] => { results := [.lit (.bool false)], args := [d1, d2, d3] }
  | _ => none }
def RtaGrowsWrongFalsely : Prop := rtaGrowsRow.holds Try.pinned (OpenSpec.ofChange rtaGrowsWrong)

/-- 'camshaftlaw14.RtaPrios': WHATEVER THE INPUT: true; the input reads as it did. -/
def rtaPriosSpec : ChangeSpec := { name := "rtaPrios", fn := fun _ => fun
  | [d1, d2] => { results := [.lit (.bool true)], args := [d1, d2] }
  | _ => none }
def rtaPriosRow : OpenClaim := { program := "ytiibbeigkopkeaa", sum := "2bb81d4121a105b6664812d1404da89e58b1592fb6c8dc9f5e0306d644176520", func := "camshaft/camshaftlaw14.RtaPrios", spec := "rtaPrios", unfollowed := true, recurses := true, apart := false }
def RtaPriosSaid : Prop := rtaPriosRow.holds Try.pinned (OpenSpec.ofChange rtaPriosSpec)

/-- ITS FALSE NEIGHBOUR: 'it returns false'. Refute it at one input. -/
def rtaPriosWrong : ChangeSpec := { name := "rtaPrios", fn := fun _ => fun
  | [d1, d2] => { results := [.lit (.bool false)], args := [d1, d2] }
  | _ => none }
def RtaPriosWrongFalsely : Prop := rtaPriosRow.holds Try.pinned (OpenSpec.ofChange rtaPriosWrong)

/-- 'camshaftlaw14.RtaAccepts': WHATEVER THE INPUT: true; the input reads as it did. -/
def rtaAcceptsSpec : ChangeSpec := { name := "rtaAccepts", fn := fun _ => fun
  | [d1, d2, d3] => { results := [.lit (.bool true)], args := [d1, d2, d3] }
  | _ => none }
def rtaAcceptsRow : OpenClaim := { program := "ytiibbeigkopkeaa", sum := "2bb81d4121a105b6664812d1404da89e58b1592fb6c8dc9f5e0306d644176520", func := "camshaft/camshaftlaw14.RtaAccepts", spec := "rtaAccepts", unfollowed := true, recurses := true, apart := false }
def RtaAcceptsSaid : Prop := rtaAcceptsRow.holds Try.pinned (OpenSpec.ofChange rtaAcceptsSpec)

/-- ITS FALSE NEIGHBOUR: 'it returns false'. Refute it at one input. -/
def rtaAcceptsWrong : ChangeSpec := { name := "rtaAccepts", fn := fun _ => fun
  | [d1, d2, d3] => { results := [.lit (.bool false)], args := [d1, d2, d3] }
  | _ => none }
def RtaAcceptsWrongFalsely : Prop := rtaAcceptsRow.holds Try.pinned (OpenSpec.ofChange rtaAcceptsWrong)

/-- 'camshaftlaw14.RtaAlone': WHATEVER THE INPUT: true; the input reads as it did. -/
def rtaAloneSpec : ChangeSpec := { name := "rtaAlone", fn := fun _ => fun
  | [d] => { results := [.lit (.bool true)], args := [d] }
  | _ => none }
def rtaAloneRow : OpenClaim := { program := "ytiibbeigkopkeaa", sum := "2bb81d4121a105b6664812d1404da89e58b1592fb6c8dc9f5e0306d644176520", func := "camshaft/camshaftlaw14.RtaAlone", spec := "rtaAlone", unfollowed := true, recurses := true, apart := false }
def RtaAloneSaid : Prop := rtaAloneRow.holds Try.pinned (OpenSpec.ofChange rtaAloneSpec)

/-- ITS FALSE NEIGHBOUR: 'it returns false'. Refute it at one input. -/
def rtaAloneWrong : ChangeSpec := { name := "rtaAlone", fn := fun _ => fun
  | [d] => { results := [.lit (.bool false)], args := [d] }
  | _ => none }
def RtaAloneWrongFalsely : Prop := rtaAloneRow.holds Try.pinned (OpenSpec.ofChange rtaAloneWrong)

/- THE SECOND FORM. 'bulk': how many values and letters a reading holds, each counted each time it is reached (what is shared counts as often as it is met; a slice's spare places count too). A statement '..UptoSaid' is the law's where the arguments, and the package variables that the reading takes, are together of bulk at most 1048576: NARROWER than '..Said'. Prove '..Said' where nothing that the law and all that it calls make is longer than what came in: it says more and counts as full. Else prove '..UptoSaid'. A law counts once. -/
mutual
def uptoBulk {H : Type} : DataW H → Nat
  | .lit (.string bytes) => bytes.length + 1
  | .lit _ => 1
  | .nil => 1
  | .ptr d => uptoBulk d + 1
  | .slice elems spare => uptoBulkAll elems + uptoBulkAll spare + 1
  | .agg parts => uptoBulkAll parts + 1
  | .iface _ d => uptoBulk d + 1
  | .map entries => uptoBulkEntries entries + 1
  | .held _ => 1
def uptoBulkAll {H : Type} : List (DataW H) → Nat
  | [] => 0
  | d :: r => uptoBulk d + uptoBulkAll r
def uptoBulkEntries {H : Type} : List (Lit × DataW H) → Nat
  | [] => 0
  | x :: r => uptoBulkEntry x + uptoBulkEntries r
def uptoBulkEntry {H : Type} : Lit × DataW H → Nat
  | (.string bytes, d) => bytes.length + uptoBulk d + 1
  | (_, d) => uptoBulk d + 1
 end
def uptoSmall : (H : Type) → List (DataW H) → Bool := fun _ ds => decide (uptoBulkAll ds ≤ 1048576)
def OpenSpec.upto (s : _root_.Go.ChangeSpec) : _root_.Go.OpenSpec := { _root_.Go.OpenSpec.ofChange s with cond := some uptoSmall }

/-- 'camshaftlaw14.RtaTells', WHERE WHAT IT READS IS OF BULK AT MOST 1048576: true; the input reads as it did. -/
def rtaTellsUptoRow : OpenClaim := { program := "ytiibbeigkopkeaa", sum := "2bb81d4121a105b6664812d1404da89e58b1592fb6c8dc9f5e0306d644176520", func := "camshaft/camshaftlaw14.RtaTells", spec := "rtaTells", unfollowed := true, recurses := true, apart := false, narrowed := true }
def RtaTellsUptoSaid : Prop := rtaTellsUptoRow.holds Try.pinned (OpenSpec.upto rtaTellsSpec)

/-- 'camshaftlaw14.RtaLeast', WHERE WHAT IT READS IS OF BULK AT MOST 1048576: true; the input reads as it did. -/
def rtaLeastUptoRow : OpenClaim := { program := "ytiibbeigkopkeaa", sum := "2bb81d4121a105b6664812d1404da89e58b1592fb6c8dc9f5e0306d644176520", func := "camshaft/camshaftlaw14.RtaLeast", spec := "rtaLeast", unfollowed := true, recurses := true, apart := false, narrowed := true }
def RtaLeastUptoSaid : Prop := rtaLeastUptoRow.holds Try.pinned (OpenSpec.upto rtaLeastSpec)

/-- 'camshaftlaw14.RtaGrows', WHERE WHAT IT READS IS OF BULK AT MOST 1048576: true; the input reads as it did. -/
def rtaGrowsUptoRow : OpenClaim := { program := "ytiibbeigkopkeaa", sum := "2bb81d4121a105b6664812d1404da89e58b1592fb6c8dc9f5e0306d644176520", func := "camshaft/camshaftlaw14.RtaGrows", spec := "rtaGrows", unfollowed := true, recurses := true, apart := false, narrowed := true }
def RtaGrowsUptoSaid : Prop := rtaGrowsUptoRow.holds Try.pinned (OpenSpec.upto rtaGrowsSpec)

/-- 'camshaftlaw14.RtaPrios', WHERE WHAT IT READS IS OF BULK AT MOST 1048576: true; the input reads as it did. -/
def rtaPriosUptoRow : OpenClaim := { program := "ytiibbeigkopkeaa", sum := "2bb81d4121a105b6664812d1404da89e58b1592fb6c8dc9f5e0306d644176520", func := "camshaft/camshaftlaw14.RtaPrios", spec := "rtaPrios", unfollowed := true, recurses := true, apart := false, narrowed := true }
def RtaPriosUptoSaid : Prop := rtaPriosUptoRow.holds Try.pinned (OpenSpec.upto rtaPriosSpec)

/-- 'camshaftlaw14.RtaAccepts', WHERE WHAT IT READS IS OF BULK AT MOST 1048576: true; the input reads as it did. -/
def rtaAcceptsUptoRow : OpenClaim := { program := "ytiibbeigkopkeaa", sum := "2bb81d4121a105b6664812d1404da89e58b1592fb6c8dc9f5e0306d644176520", func := "camshaft/camshaftlaw14.RtaAccepts", spec := "rtaAccepts", unfollowed := true, recurses := true, apart := false, narrowed := true }
def RtaAcceptsUptoSaid : Prop := rtaAcceptsUptoRow.holds Try.pinned (OpenSpec.upto rtaAcceptsSpec)

/-- 'camshaftlaw14.RtaAlone', WHERE WHAT IT READS IS OF BULK AT MOST 1048576: true; the input reads as it did. -/
def rtaAloneUptoRow : OpenClaim := { program := "ytiibbeigkopkeaa", sum := "2bb81d4121a105b6664812d1404da89e58b1592fb6c8dc9f5e0306d644176520", func := "camshaft/camshaftlaw14.RtaAlone", spec := "rtaAlone", unfollowed := true, recurses := true, apart := false, narrowed := true }
def RtaAloneUptoSaid : Prop := rtaAloneUptoRow.holds Try.pinned (OpenSpec.upto rtaAloneSpec)

end Rows
end Go.Proofs.Ytiibbeigkopkeaa
