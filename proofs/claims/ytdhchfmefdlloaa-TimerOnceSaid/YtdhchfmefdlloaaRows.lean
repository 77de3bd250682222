/-
  No cell of these rows narrows 'for every input' (looked for: loops, veiled, ifaces, maps, wideKeys, modest, calm, conditions, laid).
  DERIVED. THE GIVEN ROWS OF THIS SEAT. 7 by the template 'for every input the law returns true; each argument reads behind the call as it read before'; 0 by the template 'total and deterministic' (their statements: YtdhchfmefdlloaaTotals.lean).
  GIVEN WITH THE SEED: the statements are not yours to turn. If you find one false, say at which input.
  Laid BY PROGRAM, IN A SANDBOX (cutbox-rows.mjs): the forced cells as the released guide's own fill.sh prints them over the translation be14dfaa48ab5e65… (all of the seat's roots in one cut). By AI agents, Wed Nov 11 2026. No macro, syntax, notation, axiom, sorry.
-/
import Derived.Test.YtdhchfmefdlloaaChecked
import GoSem.Claim
import GoSem.ClaimJoined
import GoSem.ClaimMapViews
import Derived.JoinedTies
import Derived.KernelRfl
namespace Go.Proofs.Ytdhchfmefdlloaa
/- THE CELL 'sum', in the pinned program and in every row, IS THE sha256 OF THE DUMP (.gsa) THAT YtdhchfmefdlloaaProg.lean LOADS. Nothing in Lean hashes anything: it is a label: what it is worth is what the hold of that sum in a sandbox is worth. -/
noncomputable def Try.pinned : Pinned := { name := "ytdhchfmefdlloaa", sum := "be14dfaa48ab5e65379fb25f1ec3856b653be1787338557c7fece1ed23e116cf", checked := Try.checked }
namespace Rows
def none {H : Type} : Left H := { results := [], args := [] }

/-- 'camshaftlaw16.TimerPlays': WHATEVER THE INPUT: true; the input reads as it did. -/
def timerPlaysSpec : ChangeSpec := { name := "timerPlays", fn := fun _ => fun
  | [d1, d2] => { results := [.lit (.bool true)], args := [d1, d2] }
  | _ => none }
def timerPlaysRow : OpenClaim := { program := "ytdhchfmefdlloaa", sum := "be14dfaa48ab5e65379fb25f1ec3856b653be1787338557c7fece1ed23e116cf", func := "camshaft/camshaftlaw16.TimerPlays", spec := "timerPlays", unfollowed := true, recurses := true, apart := false }
def TimerPlaysSaid : Prop := timerPlaysRow.holds Try.pinned (OpenSpec.ofChange timerPlaysSpec)

/-- ITS FALSE NEIGHBOUR: 'it returns false'. Refute it at one input. -/
def timerPlaysWrong : ChangeSpec := { name := "timerPlays", fn := fun _ => fun
  | [d1, d2] => { results := [.lit (.bool false)], args := [d1, d2] }
  | _ => none }
def TimerPlaysWrongFalsely : Prop := timerPlaysRow.holds Try.pinned (OpenSpec.ofChange timerPlaysWrong)

/-- 'camshaftlaw16.TimerOnce': WHATEVER THE INPUT: true; the input reads as it did. -/
def timerOnceSpec : ChangeSpec := { name := "timerOnce", fn := fun _ => fun
  | [d1, d2, d3] => { results := [.lit (.bool true)], args := [d1, d2, d3] }
  | _ => none }
def timerOnceRow : OpenClaim := { program := "ytdhchfmefdlloaa", sum := "be14dfaa48ab5e65379fb25f1ec3856b653be1787338557c7fece1ed23e116cf", func := "camshaft/camshaftlaw16.TimerOnce", spec := "timerOnce", unfollowed := true, recurses := true, apart := false }
def TimerOnceSaid : Prop := timerOnceRow.holds Try.pinned (OpenSpec.ofChange timerOnceSpec)

/-- ITS FALSE NEIGHBOUR: 'it returns false'. Refute it at one input. -/
def timerOnceWrong : ChangeSpec := { name := "timerOnce", fn := fun _ => fun
  | [d1, d2, d3] => { results := [.lit (.bool false)], args := [d1, d2, d3] }
  | _ => none }
def TimerOnceWrongFalsely : Prop := timerOnceRow.holds Try.pinned (OpenSpec.ofChange timerOnceWrong)

/-- 'camshaftlaw16.TimerAlone': WHATEVER THE INPUT: true; the input reads as it did. -/
def timerAloneSpec : ChangeSpec := { name := "timerAlone", fn := fun _ => fun
  | [d1, d2, d3] => { results := [.lit (.bool true)], args := [d1, d2, d3] }
  | _ => none }
def timerAloneRow : OpenClaim := { program := "ytdhchfmefdlloaa", sum := "be14dfaa48ab5e65379fb25f1ec3856b653be1787338557c7fece1ed23e116cf", func := "camshaft/camshaftlaw16.TimerAlone", spec := "timerAlone", unfollowed := true, recurses := true, apart := false }
def TimerAloneSaid : Prop := timerAloneRow.holds Try.pinned (OpenSpec.ofChange timerAloneSpec)

/-- ITS FALSE NEIGHBOUR: 'it returns false'. Refute it at one input. -/
def timerAloneWrong : ChangeSpec := { name := "timerAlone", fn := fun _ => fun
  | [d1, d2, d3] => { results := [.lit (.bool false)], args := [d1, d2, d3] }
  | _ => none }
def TimerAloneWrongFalsely : Prop := timerAloneRow.holds Try.pinned (OpenSpec.ofChange timerAloneWrong)

/-- 'camshaftlaw16.TimerNil': WHATEVER THE INPUT: true; the input reads as it did. -/
def timerNilSpec : ChangeSpec := { name := "timerNil", fn := fun _ => fun
  | [d] => { results := [.lit (.bool true)], args := [d] }
  | _ => none }
def timerNilRow : OpenClaim := { program := "ytdhchfmefdlloaa", sum := "be14dfaa48ab5e65379fb25f1ec3856b653be1787338557c7fece1ed23e116cf", func := "camshaft/camshaftlaw16.TimerNil", spec := "timerNil", unfollowed := true, recurses := true, apart := false }
def TimerNilSaid : Prop := timerNilRow.holds Try.pinned (OpenSpec.ofChange timerNilSpec)

/-- ITS FALSE NEIGHBOUR: 'it returns false'. Refute it at one input. -/
def timerNilWrong : ChangeSpec := { name := "timerNil", fn := fun _ => fun
  | [d] => { results := [.lit (.bool false)], args := [d] }
  | _ => none }
def TimerNilWrongFalsely : Prop := timerNilRow.holds Try.pinned (OpenSpec.ofChange timerNilWrong)

/-- 'camshaftlaw16.TimerSteady': WHATEVER THE INPUT: true; the input reads as it did. -/
def timerSteadySpec : ChangeSpec := { name := "timerSteady", fn := fun _ => fun
  | [d1, d2] => { results := [.lit (.bool true)], args := [d1, d2] }
  | _ => none }
def timerSteadyRow : OpenClaim := { program := "ytdhchfmefdlloaa", sum := "be14dfaa48ab5e65379fb25f1ec3856b653be1787338557c7fece1ed23e116cf", func := "camshaft/camshaftlaw16.TimerSteady", spec := "timerSteady", unfollowed := true, recurses := true, apart := false }
def TimerSteadySaid : Prop := timerSteadyRow.holds Try.pinned (OpenSpec.ofChange timerSteadySpec)

/-- ITS FALSE NEIGHBOUR: 'it returns false'. Refute it at one input. -/
def timerSteadyWrong : ChangeSpec := { name := "timerSteady", fn := fun _ => fun
  | [d1, d2] => { results := [.lit (.bool false)], args := [d1, d2] }
  | _ => none }
def TimerSteadyWrongFalsely : Prop := timerSteadyRow.holds Try.pinned (OpenSpec.ofChange timerSteadyWrong)

/-- 'camshaftlaw16.TimerCopies': WHATEVER THE INPUT: true; the input reads as it did. -/
def timerCopiesSpec : ChangeSpec := { name := "timerCopies", fn := fun _ => fun
  | [d1, d2] => { results := [.lit (.bool true)], args := [d1, d2] }
  | _ => none }
def timerCopiesRow : OpenClaim := { program := "ytdhchfmefdlloaa", sum := "be14dfaa48ab5e65379fb25f1ec3856b653be1787338557c7fece1ed23e116cf", func := "camshaft/camshaftlaw16.TimerCopies", spec := "timerCopies", unfollowed := true, recurses := true, apart := false }
def TimerCopiesSaid : Prop := timerCopiesRow.holds Try.pinned (OpenSpec.ofChange timerCopiesSpec)

/-- ITS FALSE NEIGHBOUR: 'it returns false'. Refute it at one input. -/
def timerCopiesWrong : ChangeSpec := { name := "timerCopies", fn := fun _ => fun
  | [d1, d2] => { results := [.lit (.bool false)], args := [d1, d2] }
  | _ => none }
def TimerCopiesWrongFalsely : Prop := timerCopiesRow.holds Try.pinned (OpenSpec.ofChange timerCopiesWrong)

/-- 'camshaftlaw16.TimerLate': WHATEVER THE INPUT: true; the input reads as it did. -/
def timerLateSpec : ChangeSpec := { name := "timerLate", fn := fun _ => fun
  | [d1, d2, d3] => { results := [.lit (.bool true)], args := [d1, d2, d3] }
  | _ => none }
def timerLateRow : OpenClaim := { program := "ytdhchfmefdlloaa", sum := "be14dfaa48ab5e65379fb25f1ec3856b653be1787338557c7fece1ed23e116cf", func := "camshaft/camshaftlaw16.TimerLate", spec := "timerLate", unfollowed := true, recurses := true, apart := false }
def TimerLateSaid : Prop := timerLateRow.holds Try.pinned (OpenSpec.ofChange timerLateSpec)

/-- ITS FALSE NEIGHBOUR: 'it returns false'. Refute it at one input. -/
def timerLateWrong : ChangeSpec := { name := "timerLate", fn := fun _ => fun
  | [d1, d2, d3] => { results := [.lit (.bool false)], args := [d1, d2, d3] }
  | _ => none }
def TimerLateWrongFalsely : Prop := timerLateRow.holds Try.pinned (OpenSpec.ofChange timerLateWrong)

/- THE SECOND FORM. 'bulk': how many values and letters a reading holds, each counted each time it is reached (what is shared counts as often as it is met; a slice's spare places count too). A statement '..UptoSaid' is the law's where the arguments, and the package variables that the reading takes, are together of bulk at most 1048576: NARROWER than '..Said'. Prove '..Said' where nothing that the law and all that it calls make is longer than what came in: it says more and counts as full. Else prove '..UptoSaid'. A law counts once. -/
mutual
def uptoBulk {H : Type} : DataW H → Nat
  | .lit (.string bytes) => bytes.length + 1
  | .lit _ => 1
  | .nil => 1
  | .ptr d => uptoBulk d + 1
  | .slice elems spare => uptoBulkAll elems + uptoBulkAll spare + 1
  | .agg parts => uptoBulkAll parts + 1
  | .iface _ d => uptoBulk d + 1
  | .map entries => uptoBulkEntries entries + 1
  | .held _ => 1
def uptoBulkAll {H : Type} : List (DataW H) → Nat
  | [] => 0
  | d :: r => uptoBulk d + uptoBulkAll r
def uptoBulkEntries {H : Type} : List (Lit × DataW H) → Nat
  | [] => 0
  | x :: r => uptoBulkEntry x + uptoBulkEntries r
def uptoBulkEntry {H : Type} : Lit × DataW H → Nat
  | (.string bytes, d) => bytes.length + uptoBulk d + 1
  | (_, d) => uptoBulk d + 1
 end
def uptoSmall : (H : Type) → List (DataW H) → Bool := fun _ ds => decide (uptoBulkAll ds ≤ 1048576)
def OpenSpec.upto (s : _root_.Go.ChangeSpec) : _root_.Go.OpenSpec := { _root_.Go.OpenSpec.ofChange s with cond := some uptoSmall }

/-- 'camshaftlaw16.TimerPlays', WHERE WHAT IT READS IS OF BULK AT MOST 1048576: true; the input reads as it did. -/
def timerPlaysUptoRow : OpenClaim := { program := "ytdhchfmefdlloaa", sum := "be14dfaa48ab5e65379fb25f1ec3856b653be1787338557c7fece1ed23e116cf", func := "camshaft/camshaftlaw16.TimerPlays", spec := "timerPlays", unfollowed := true, recurses := true, apart := false, narrowed := true }
def TimerPlaysUptoSaid : Prop := timerPlaysUptoRow.holds Try.pinned (OpenSpec.upto timerPlaysSpec)

/-- 'camshaftlaw16.TimerOnce', WHERE WHAT IT READS IS OF BULK AT MOST 1048576: true; the input reads as it did. -/
def timerOnceUptoRow : OpenClaim := { program := "ytdhchfmefdlloaa", sum := "be14dfaa48ab5e65379fb25f1ec3856b653be1787338557c7fece1ed23e116cf", func := "camshaft/camshaftlaw16.TimerOnce", spec := "timerOnce", unfollowed := true, recurses := true, apart := false, narrowed := true }
def TimerOnceUptoSaid : Prop := timerOnceUptoRow.holds Try.pinned (OpenSpec.upto timerOnceSpec)

/-- 'camshaftlaw16.TimerAlone', WHERE WHAT IT READS IS OF BULK AT MOST 1048576: true; the input reads as it did. -/
def timerAloneUptoRow : OpenClaim := { program := "ytdhchfmefdlloaa", sum := "be14dfaa48ab5e65379fb25f1ec3856b653be1787338557c7fece1ed23e116cf", func := "camshaft/camshaftlaw16.TimerAlone", spec := "timerAlone", unfollowed := true, recurses := true, apart := false, narrowed := true }
def TimerAloneUptoSaid : Prop := timerAloneUptoRow.holds Try.pinned (OpenSpec.upto timerAloneSpec)

/-- 'camshaftlaw16.TimerNil', WHERE WHAT IT READS IS OF BULK AT MOST 1048576: true; the input reads as it did. -/
def timerNilUptoRow : OpenClaim := { program := "ytdhchfmefdlloaa", sum := "be14dfaa48ab5e65379fb25f1ec3856b653be1787338557c7fece1ed23e116cf", func := "camshaft/camshaftlaw16.TimerNil", spec := "timerNil", unfollowed := true, recurses := true, apart := false, narrowed := true }
def TimerNilUptoSaid : Prop := timerNilUptoRow.holds Try.pinned (OpenSpec.upto timerNilSpec)

/-- 'camshaftlaw16.TimerSteady', WHERE WHAT IT READS IS OF BULK AT MOST 1048576: true; the input reads as it did. -/
def timerSteadyUptoRow : OpenClaim := { program := "ytdhchfmefdlloaa", sum := "be14dfaa48ab5e65379fb25f1ec3856b653be1787338557c7fece1ed23e116cf", func := "camshaft/camshaftlaw16.TimerSteady", spec := "timerSteady", unfollowed := true, recurses := true, apart := false, narrowed := true }
def TimerSteadyUptoSaid : Prop := timerSteadyUptoRow.holds Try.pinned (OpenSpec.upto timerSteadySpec)

/-- 'camshaftlaw16.TimerCopies', WHERE WHAT IT READS IS OF BULK AT MOST 1048576: true; the input reads as it did. -/
def timerCopiesUptoRow : OpenClaim := { program := "ytdhchfmefdlloaa", sum := "be14dfaa48ab5e65379fb25f1ec3856b653be1787338557c7fece1ed23e116cf", func := "camshaft/camshaftlaw16.TimerCopies", spec := "timerCopies", unfollowed := true, recurses := true, apart := false, narrowed := true }
def TimerCopiesUptoSaid : Prop := timerCopiesUptoRow.holds Try.pinned (OpenSpec.upto timerCopiesSpec)

/-- 'camshaftlaw16.TimerLate', WHERE WHAT IT READS IS OF BULK AT MOST 1048576: true; the input reads as it did. -/
def timerLateUptoRow : OpenClaim := { program := "ytdhchfmefdlloaa", sum := "be14dfaa48ab5e65379fb25f1ec3856b653be1787338557c7fece1ed23e116cf", func := "camshaft/camshaftlaw16.TimerLate", spec := "timerLate", unfollowed := true, recurses := true, apart := false, narrowed := true }
def TimerLateUptoSaid : Prop := timerLateUptoRow.holds Try.pinned (OpenSpec.upto timerLateSpec)

end Rows
end Go.Proofs.Ytdhchfmefdlloaa
