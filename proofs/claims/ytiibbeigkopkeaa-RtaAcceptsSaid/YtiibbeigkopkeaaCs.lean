/- What is proved here: nothing; what the walks of the laws take of the program (RtaC: the contracts of Right, Next, Response and Accept), and fixed rows. Conditions: none. -/
import Derived.Test.YtiibbeigkopkeaaRq
import Derived.Test.YtiibbeigkopkeaaKl
namespace Go.Proofs.Ytiibbeigkopkeaa
open Go.ChangeShapes Go.WideShapes Go.RowKit

/-- What the program's own functions answer. -/
structure RtaC : Prop where
  right : ∀ (a : Option Addr) (n c : Nat) (L : List RtR) (w : World), RowS w a n L → n ≤ 140737488355328 → ∀ r, rgR L = r →
    Calls Try.prog 18 #[.slice a n c] w fun e w' => e = .returned (.bool r) ∧ Below w.heap.size w w'
  next : ∀ (a : Option Addr) (n c : Nat) (L : List RtR) (i wv : Int) (w : World), RowS w a n L → n ≤ 140737488355328 → ∀ rv er, nxR L i wv = (rv, er) →
    Calls Try.prog 12 #[.slice a n c, .int .i64 i, .int .i64 wv] w fun e w' => e = .returned (.tuple #[.int .i64 rv, .int .i64 er]) ∧ Below w.heap.size w w'
  resp : ∀ (a : Option Addr) (n c : Nat) (L : List RtR) (i : Int) (w : World), RowS w a n L → n ≤ 140737488355328 → ∀ rv er, rspR L i = (rv, er) →
    Calls Try.prog 14 #[.slice a n c, .int .i64 i] w fun e w' => e = .returned (.tuple #[.int .i64 rv, .int .i64 er]) ∧ Below w.heap.size w w'
  accept : ∀ (a : Option Addr) (n c : Nat) (L : List RtR) (w : World), RowS w a n L → n ≤ 140737488355328 → ∀ l rp er, accR L = (l, rp, er) →
    Calls Try.prog 16 #[.slice a n c] w fun e w' => ∃ ra rn rc, e = .returned (.tuple #[.slice ra rn rc, .int .i64 rp, .int .i64 er]) ∧ Row w' ra rn l ∧ Below w.heap.size w w'
/-- A fixed row of rows. -/
theorem lit_rows (W : World) (L : List RtR) (cs : Array Value) (n m : Nat) (hn : n = L.length) (hm : W.heap.size = m) (h : cs.toList = rsC L) (hl : L.length ≤ 100) : RowS (W.alloc (.cells cs 41)) (some ⟨m, 0, none⟩) n L := by
  subst hn hm
  have hs : cs.size = L.length * 6 := by have := congrArg List.length h; rw [rsC_len] at this; simpa using this
  have := World.ownsRow_lit (base := 0) (e := 41) (size := 6) W cs L.length (by omega) (by unfold maxLen; omega) hs
  rw [h] at this
  obtain ⟨a, c, hv, _, hr⟩ := RowS.own this
  cases hv
  exact hr
def kn1 : List RtR := [⟨2, 0, 10, 10, 0, 2⟩, ⟨3, 0, 20, 20, 0, 1⟩]
def kn2 : List RtR := [⟨5, 0, 10, 4, 0, 1⟩]
def kn3 : List RtR := [⟨2, 0, 10, 10, 3, 1⟩, ⟨3, 1, 20, 20, 0, 1⟩]
def kn4 : List RtR := [⟨2305843009213693952, 0, 1, 9, 0, 2⟩, ⟨1, 0, 9, 9, 9, 1⟩]
theorem kn1_acc : accR kn1 = ([2, 5], -1, 0) := by kernel_rfl
theorem kn1_next : nxR kn1 1 11 = (7, 0) := by kernel_rfl
theorem kn2_resp : rspR kn2 0 = (0, 13) := by kernel_rfl
theorem kn3_resp : rspR kn3 1 = (10, 0) := by kernel_rfl
theorem kn4_resp : rspR kn4 1 = (0, 13) := by kernel_rfl
theorem kn1_no : nxR kn1 2 0 = (0, 1) := by kernel_rfl
theorem kn1_right : rgR kn1 = true := by kernel_rfl
theorem kn0_right : rgR [⟨0, 0, 0, 0, 0, 0⟩] = false := by kernel_rfl
end Go.Proofs.Ytiibbeigkopkeaa
