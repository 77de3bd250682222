/- What is proved here: plain facts on what instructions take and give, and on the stacks ahead of the instructions of a row. Conditions: those each theorem states. -/
import Derived.Test.YtkkoekfdncoifaaDoorNest2
namespace Go.Proofs.YtkkoekfdncoifaaDoor

/-- What an operation takes; what it gives for what it took. -/
def tk (o : Int) : List UInt8 :=
  if o = 2 ∨ o = 3 then [32] else if o = 4 then [32, 32] else if o = 5 then [105, 105]
  else if o = 6 ∨ o = 12 ∨ o = 14 ∨ o = 16 ∨ o = 18 then [105]
  else if o = 7 ∨ o = 10 ∨ o = 20 then [98] else if o = 8 ∨ o = 9 then [98, 98] else []
def gv (o a : Int) (t : List UInt8) : List UInt8 :=
  if o = 1 ∨ o = 6 ∨ o = 10 ∨ o = 11 ∨ o = 13 ∨ o = 15 ∨ o = 17 then [105]
  else if o = 3 then t ++ t else if o = 4 then t.drop 1 ++ t.take 1
  else if o = 5 then (if a = 11 ∨ a = 12 then [98] else [105])
  else if o = 7 ∨ o = 8 ∨ o = 9 then [98] else []
/-- Does one byte fit another one; do all? -/
def fit1 (x y : UInt8) : Bool := if y = 32 then (x == 105 || x == 98) else x == y
def fit : List UInt8 → List UInt8 → Bool
  | [], [] => true
  | x :: t, y :: u => fit1 x y && fit t u
  | _, _ => false
/-- What stands behind an operation, and its error. -/
def bh (o a : Int) (s : List UInt8) : List UInt8 := s.take (s.length - (tk o).length) ++ gv o a (s.drop (s.length - (tk o).length))
def bE (o a : Int) (s : List UInt8) : Int :=
  if s.length < (tk o).length then 9 else if fit (s.drop (s.length - (tk o).length)) (tk o) = true then (if 16 < (bh o a s).length then 9 else 0) else 10
/-- A place is handed a stack. -/
def hand (f : Nat → List UInt8 × Bool × Bool) (q : Nat) (s : List UInt8) : Nat → List UInt8 × Bool × Bool :=
  fun j => if j = q then (s, true, (f q).2.2 || ((f q).2.1 && (f q).1 != s)) else f j
def hands (f : Nat → List UInt8 × Bool × Bool) (l : List Nat) (s : List UInt8) : Nat → List UInt8 × Bool × Bool := l.foldl (fun f q => hand f q s) f
/-- The places that may come next. -/
def nx (l : List (Int × Int × Int)) (p : Nat) : List Nat :=
  if (at_ l p).1 = 25 then [] else if (at_ l p).1 = 19 then [led l p] else if (at_ l p).1 = 20 then [p + 1, led l p] else [p + 1]
/-- What each place was handed by the first k instructions. -/
def sp (l : List (Int × Int × Int)) : Nat → Nat → List UInt8 × Bool × Bool
  | 0 => hand (fun _ => ([], false, false)) 0 []
  | k + 1 => hands (sp l k) (nx l k) (bh (at_ l k).1 (at_ l k).2.1 (sp l k k).1)
/-- The stack ahead of a place. -/
def sf (l : List (Int × Int × Int)) (p : Nat) : List UInt8 := (sp l p p).1
/-- The error at a place. -/
def er (l : List (Int × Int × Int)) (k : Nat) : Int :=
  if (sp l k k).2.1 = false then 8 else if (sp l k k).2.2 = true then 10
  else if (at_ l k).1 = 22 ∧ sf l k ≠ sf l (mt l l.length k).toNat then 10 else bE (at_ l k).1 (at_ l k).2.1 (sf l k)
/-- The first error of the first k places. -/
def fe (l : List (Int × Int × Int)) : Nat → Int
  | 0 => 0
  | k + 1 => if fe l k = 0 then er l k else fe l k
/-- Stacks' error, and what Stacks tells. -/
def tE (l : List (Int × Int × Int)) : Int := if wE l = 0 then fe l l.length else wE l
def tL (l : List (Int × Int × Int)) : List (List UInt8) := (List.range l.length).map (sf l)
def tA (l : List (Int × Int × Int)) : List (List UInt8) := if tE l = 0 then tL l else []
/-- How deep the first k stacks get. -/
def dp (P : List (List UInt8)) : Nat → Nat
  | 0 => 0
  | k + 1 => max (dp P k) (P.getD k []).length
def dA (l : List (Int × Int × Int)) : Nat := if tE l = 0 then dp (tL l) l.length else 0
end Go.Proofs.YtkkoekfdncoifaaDoor
