/-
  No cell of these rows narrows 'for every input' (looked for: loops, veiled, ifaces, maps, wideKeys, modest, calm, conditions, laid).
  DERIVED. THE GIVEN ROWS OF THIS SEAT. 7 by the template 'for every input the law returns true; each argument reads behind the call as it read before'; 0 by the template 'total and deterministic' (their statements: YthicoekoeffpaaaTotals.lean).
  GIVEN WITH THE SEED: the statements are not yours to turn. If you find one false, say at which input.
  Laid BY PROGRAM, IN A SANDBOX (cutbox-rows.mjs): the forced cells as the released guide's own fill.sh prints them over the translation 1d9a2ad418f0ba56… (all of the seat's roots in one cut). By AI agents, Wed Nov 11 2026. No macro, syntax, notation, axiom, sorry.
-/
import Derived.Test.YthicoekoeffpaaaChecked
import GoSem.Claim
import GoSem.ClaimJoined
import GoSem.ClaimMapViews
import Derived.JoinedTies
import Derived.KernelRfl
namespace Go.Proofs.Ythicoekoeffpaaa
/- THE CELL 'sum', in the pinned program and in every row, IS THE sha256 OF THE DUMP (.gsa) THAT YthicoekoeffpaaaProg.lean LOADS. Nothing in Lean hashes anything: it is a label: what it is worth is what the hold of that sum in a sandbox is worth. -/
noncomputable def Try.pinned : Pinned := { name := "ythicoekoeffpaaa", sum := "1d9a2ad418f0ba56e290069af130b3fb56f16979c087e9293dbc01b2bbe6d741", checked := Try.checked }
namespace Rows
def none {H : Type} : Left H := { results := [], args := [] }

/-- 'camshaftlaw13.CeilTells': WHATEVER THE INPUT: true; the input reads as it did. -/
def ceilTellsSpec : ChangeSpec := { name := "ceilTells", fn := fun _ => fun
  | [d1, d2] => { results := [.lit (.bool true)], args := [d1, d2] }
  | _ => none }
def ceilTellsRow : OpenClaim := { program := "ythicoekoeffpaaa", sum := "1d9a2ad418f0ba56e290069af130b3fb56f16979c087e9293dbc01b2bbe6d741", func := "camshaft/camshaftlaw13.CeilTells", spec := "ceilTells", unfollowed := true, recurses := true, apart := false }
def CeilTellsSaid : Prop := ceilTellsRow.holds Try.pinned (OpenSpec.ofChange ceilTellsSpec)

/-- ITS FALSE NEIGHBOUR: 'it returns false'. Refute it at one input. -/
def ceilTellsWrong : ChangeSpec := { name := "ceilTells", fn := fun _ => fun
  | [d1, d2] => { results := [.lit (.bool false)], args := [d1, d2] }
  | _ => none }
def CeilTellsWrongFalsely : Prop := ceilTellsRow.holds Try.pinned (OpenSpec.ofChange ceilTellsWrong)

/-- 'camshaftlaw13.CeilLifts': WHATEVER THE INPUT: true; the input reads as it did. -/
def ceilLiftsSpec : ChangeSpec := { name := "ceilLifts", fn := fun _ => fun
  | [d1, d2] => { results := [.lit (.bool true)], args := [d1, d2] }
  | _ => none }
def ceilLiftsRow : OpenClaim := { program := "ythicoekoeffpaaa", sum := "1d9a2ad418f0ba56e290069af130b3fb56f16979c087e9293dbc01b2bbe6d741", func := "camshaft/camshaftlaw13.CeilLifts", spec := "ceilLifts", unfollowed := true, recurses := true, apart := false }
def CeilLiftsSaid : Prop := ceilLiftsRow.holds Try.pinned (OpenSpec.ofChange ceilLiftsSpec)

/-- ITS FALSE NEIGHBOUR: 'it returns false'. Refute it at one input. -/
def ceilLiftsWrong : ChangeSpec := { name := "ceilLifts", fn := fun _ => fun
  | [d1, d2] => { results := [.lit (.bool false)], args := [d1, d2] }
  | _ => none }
def CeilLiftsWrongFalsely : Prop := ceilLiftsRow.holds Try.pinned (OpenSpec.ofChange ceilLiftsWrong)

/-- 'camshaftlaw13.CeilAbove': WHATEVER THE INPUT: true; the input reads as it did. -/
def ceilAboveSpec : ChangeSpec := { name := "ceilAbove", fn := fun _ => fun
  | [d1, d2] => { results := [.lit (.bool true)], args := [d1, d2] }
  | _ => none }
def ceilAboveRow : OpenClaim := { program := "ythicoekoeffpaaa", sum := "1d9a2ad418f0ba56e290069af130b3fb56f16979c087e9293dbc01b2bbe6d741", func := "camshaft/camshaftlaw13.CeilAbove", spec := "ceilAbove", unfollowed := true, recurses := true, apart := false }
def CeilAboveSaid : Prop := ceilAboveRow.holds Try.pinned (OpenSpec.ofChange ceilAboveSpec)

/-- ITS FALSE NEIGHBOUR: 'it returns false'. Refute it at one input. -/
def ceilAboveWrong : ChangeSpec := { name := "ceilAbove", fn := fun _ => fun
  | [d1, d2] => { results := [.lit (.bool false)], args := [d1, d2] }
  | _ => none }
def CeilAboveWrongFalsely : Prop := ceilAboveRow.holds Try.pinned (OpenSpec.ofChange ceilAboveWrong)

/-- 'camshaftlaw13.CeilWaits': WHATEVER THE INPUT: true; the input reads as it did. -/
def ceilWaitsSpec : ChangeSpec := { name := "ceilWaits", fn := fun _ => fun
  | [d1, d2, d3] => { results := [.lit (.bool true)], args := [d1, d2, d3] }
  | _ => none }
def ceilWaitsRow : OpenClaim := { program := "ythicoekoeffpaaa", sum := "1d9a2ad418f0ba56e290069af130b3fb56f16979c087e9293dbc01b2bbe6d741", func := "camshaft/camshaftlaw13.CeilWaits", spec := "ceilWaits", unfollowed := true, recurses := true, apart := false }
def CeilWaitsSaid : Prop := ceilWaitsRow.holds Try.pinned (OpenSpec.ofChange ceilWaitsSpec)

/-- ITS FALSE NEIGHBOUR: 'it returns false'. Refute it at one input. -/
def ceilWaitsWrong : ChangeSpec := { name := "ceilWaits", fn := fun _ => fun
  | [d1, d2, d3] => { results := [.lit (.bool false)], args := [d1, d2, d3] }
  | _ => none }
def CeilWaitsWrongFalsely : Prop := ceilWaitsRow.holds Try.pinned (OpenSpec.ofChange ceilWaitsWrong)

/-- 'camshaftlaw13.CeilOrders': WHATEVER THE INPUT: true; the input reads as it did. -/
def ceilOrdersSpec : ChangeSpec := { name := "ceilOrders", fn := fun _ => fun
  | [d1, d2] => { results := [.lit (.bool true)], args := [d1, d2] }
  | _ => none }
def ceilOrdersRow : OpenClaim := { program := "ythicoekoeffpaaa", sum := "1d9a2ad418f0ba56e290069af130b3fb56f16979c087e9293dbc01b2bbe6d741", func := "camshaft/camshaftlaw13.CeilOrders", spec := "ceilOrders", unfollowed := true, recurses := true, apart := false }
def CeilOrdersSaid : Prop := ceilOrdersRow.holds Try.pinned (OpenSpec.ofChange ceilOrdersSpec)

/-- ITS FALSE NEIGHBOUR: 'it returns false'. Refute it at one input. -/
def ceilOrdersWrong : ChangeSpec := { name := "ceilOrders", fn := fun _ => fun
  | [d1, d2] => { results := [.lit (.bool false)], args := [d1, d2] }
  | _ => none }
def CeilOrdersWrongFalsely : Prop := ceilOrdersRow.holds Try.pinned (OpenSpec.ofChange ceilOrdersWrong)

/-- 'camshaftlaw13.CeilLong': WHATEVER THE INPUT: true; the input reads as it did. -/
def ceilLongSpec : ChangeSpec := { name := "ceilLong", fn := fun _ => fun
  | [d1, d2] => { results := [.lit (.bool true)], args := [d1, d2] }
  | _ => none }
def ceilLongRow : OpenClaim := { program := "ythicoekoeffpaaa", sum := "1d9a2ad418f0ba56e290069af130b3fb56f16979c087e9293dbc01b2bbe6d741", func := "camshaft/camshaftlaw13.CeilLong", spec := "ceilLong", unfollowed := true, recurses := true, apart := false }
def CeilLongSaid : Prop := ceilLongRow.holds Try.pinned (OpenSpec.ofChange ceilLongSpec)

/-- ITS FALSE NEIGHBOUR: 'it returns false'. Refute it at one input. -/
def ceilLongWrong : ChangeSpec := { name := "ceilLong", fn := fun _ => fun
  | [d1, d2] => { results := [.lit (.bool false)], args := [d1, d2] }
  | _ => none }
def CeilLongWrongFalsely : Prop := ceilLongRow.holds Try.pinned (OpenSpec.ofChange ceilLongWrong)

/-- 'camshaftlaw13.CeilAlone': WHATEVER THE INPUT: true; the input reads as it did. -/
def ceilAloneSpec : ChangeSpec := { name := "ceilAlone", fn := fun _ => fun
  | [d1, d2] => { results := [.lit (.bool true)], args := [d1, d2] }
  | _ => none }
def ceilAloneRow : OpenClaim := { program := "ythicoekoeffpaaa", sum := "1d9a2ad418f0ba56e290069af130b3fb56f16979c087e9293dbc01b2bbe6d741", func := "camshaft/camshaftlaw13.CeilAlone", spec := "ceilAlone", unfollowed := true, recurses := true, apart := false }
def CeilAloneSaid : Prop := ceilAloneRow.holds Try.pinned (OpenSpec.ofChange ceilAloneSpec)

/-- ITS FALSE NEIGHBOUR: 'it returns false'. Refute it at one input. -/
def ceilAloneWrong : ChangeSpec := { name := "ceilAlone", fn := fun _ => fun
  | [d1, d2] => { results := [.lit (.bool false)], args := [d1, d2] }
  | _ => none }
def CeilAloneWrongFalsely : Prop := ceilAloneRow.holds Try.pinned (OpenSpec.ofChange ceilAloneWrong)

/- THE SECOND FORM. 'bulk': how many values and letters a reading holds, each counted each time it is reached (what is shared counts as often as it is met; a slice's spare places count too). A statement '..UptoSaid' is the law's where the arguments, and the package variables that the reading takes, are together of bulk at most 1048576: NARROWER than '..Said'. Prove '..Said' where nothing that the law and all that it calls make is longer than what came in: it says more and counts as full. Else prove '..UptoSaid'. A law counts once. -/
mutual
def uptoBulk {H : Type} : DataW H → Nat
  | .lit (.string bytes) => bytes.length + 1
  | .lit _ => 1
  | .nil => 1
  | .ptr d => uptoBulk d + 1
  | .slice elems spare => uptoBulkAll elems + uptoBulkAll spare + 1
  | .agg parts => uptoBulkAll parts + 1
  | .iface _ d => uptoBulk d + 1
  | .map entries => uptoBulkEntries entries + 1
  | .held _ => 1
def uptoBulkAll {H : Type} : List (DataW H) → Nat
  | [] => 0
  | d :: r => uptoBulk d + uptoBulkAll r
def uptoBulkEntries {H : Type} : List (Lit × DataW H) → Nat
  | [] => 0
  | x :: r => uptoBulkEntry x + uptoBulkEntries r
def uptoBulkEntry {H : Type} : Lit × DataW H → Nat
  | (.string bytes, d) => bytes.length + uptoBulk d + 1
  | (_, d) => uptoBulk d + 1
 end
def uptoSmall : (H : Type) → List (DataW H) → Bool := fun _ ds => decide (uptoBulkAll ds ≤ 1048576)
def OpenSpec.upto (s : _root_.Go.ChangeSpec) : _root_.Go.OpenSpec := { _root_.Go.OpenSpec.ofChange s with cond := some uptoSmall }

/-- 'camshaftlaw13.CeilTells', WHERE WHAT IT READS IS OF BULK AT MOST 1048576: true; the input reads as it did. -/
def ceilTellsUptoRow : OpenClaim := { program := "ythicoekoeffpaaa", sum := "1d9a2ad418f0ba56e290069af130b3fb56f16979c087e9293dbc01b2bbe6d741", func := "camshaft/camshaftlaw13.CeilTells", spec := "ceilTells", unfollowed := true, recurses := true, apart := false, narrowed := true }
def CeilTellsUptoSaid : Prop := ceilTellsUptoRow.holds Try.pinned (OpenSpec.upto ceilTellsSpec)

/-- 'camshaftlaw13.CeilLifts', WHERE WHAT IT READS IS OF BULK AT MOST 1048576: true; the input reads as it did. -/
def ceilLiftsUptoRow : OpenClaim := { program := "ythicoekoeffpaaa", sum := "1d9a2ad418f0ba56e290069af130b3fb56f16979c087e9293dbc01b2bbe6d741", func := "camshaft/camshaftlaw13.CeilLifts", spec := "ceilLifts", unfollowed := true, recurses := true, apart := false, narrowed := true }
def CeilLiftsUptoSaid : Prop := ceilLiftsUptoRow.holds Try.pinned (OpenSpec.upto ceilLiftsSpec)

/-- 'camshaftlaw13.CeilAbove', WHERE WHAT IT READS IS OF BULK AT MOST 1048576: true; the input reads as it did. -/
def ceilAboveUptoRow : OpenClaim := { program := "ythicoekoeffpaaa", sum := "1d9a2ad418f0ba56e290069af130b3fb56f16979c087e9293dbc01b2bbe6d741", func := "camshaft/camshaftlaw13.CeilAbove", spec := "ceilAbove", unfollowed := true, recurses := true, apart := false, narrowed := true }
def CeilAboveUptoSaid : Prop := ceilAboveUptoRow.holds Try.pinned (OpenSpec.upto ceilAboveSpec)

/-- 'camshaftlaw13.CeilWaits', WHERE WHAT IT READS IS OF BULK AT MOST 1048576: true; the input reads as it did. -/
def ceilWaitsUptoRow : OpenClaim := { program := "ythicoekoeffpaaa", sum := "1d9a2ad418f0ba56e290069af130b3fb56f16979c087e9293dbc01b2bbe6d741", func := "camshaft/camshaftlaw13.CeilWaits", spec := "ceilWaits", unfollowed := true, recurses := true, apart := false, narrowed := true }
def CeilWaitsUptoSaid : Prop := ceilWaitsUptoRow.holds Try.pinned (OpenSpec.upto ceilWaitsSpec)

/-- 'camshaftlaw13.CeilOrders', WHERE WHAT IT READS IS OF BULK AT MOST 1048576: true; the input reads as it did. -/
def ceilOrdersUptoRow : OpenClaim := { program := "ythicoekoeffpaaa", sum := "1d9a2ad418f0ba56e290069af130b3fb56f16979c087e9293dbc01b2bbe6d741", func := "camshaft/camshaftlaw13.CeilOrders", spec := "ceilOrders", unfollowed := true, recurses := true, apart := false, narrowed := true }
def CeilOrdersUptoSaid : Prop := ceilOrdersUptoRow.holds Try.pinned (OpenSpec.upto ceilOrdersSpec)

/-- 'camshaftlaw13.CeilLong', WHERE WHAT IT READS IS OF BULK AT MOST 1048576: true; the input reads as it did. -/
def ceilLongUptoRow : OpenClaim := { program := "ythicoekoeffpaaa", sum := "1d9a2ad418f0ba56e290069af130b3fb56f16979c087e9293dbc01b2bbe6d741", func := "camshaft/camshaftlaw13.CeilLong", spec := "ceilLong", unfollowed := true, recurses := true, apart := false, narrowed := true }
def CeilLongUptoSaid : Prop := ceilLongUptoRow.holds Try.pinned (OpenSpec.upto ceilLongSpec)

/-- 'camshaftlaw13.CeilAlone', WHERE WHAT IT READS IS OF BULK AT MOST 1048576: true; the input reads as it did. -/
def ceilAloneUptoRow : OpenClaim := { program := "ythicoekoeffpaaa", sum := "1d9a2ad418f0ba56e290069af130b3fb56f16979c087e9293dbc01b2bbe6d741", func := "camshaft/camshaftlaw13.CeilAlone", spec := "ceilAlone", unfollowed := true, recurses := true, apart := false, narrowed := true }
def CeilAloneUptoSaid : Prop := ceilAloneUptoRow.holds Try.pinned (OpenSpec.upto ceilAloneSpec)

end Rows
end Go.Proofs.Ythicoekoeffpaaa
