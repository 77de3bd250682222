/- What is proved here: plain facts on numbers that can be (0 to 2^62 - 1), their sums, products, quotients that are rounded up, the foremost of a row; how a slice of ints reads as a list. Conditions: none beyond those each theorem states. -/
import Derived.WalkKit
import Derived.Deep.OwnRows
import Derived.Deep.QuietTactic
import Derived.BigQuiet
namespace Go.Proofs.Ytiibbeigkopkeaa
open Go.ChangeShapes Go.WideShapes Go.RowKit

/-- Whether a number can be. -/
def rt (n : Int) : Bool := decide (0 ≤ n) && decide (n < 4611686018427387904)
theorem rt_iff {n : Int} : rt n = true ↔ 0 ≤ n ∧ n < 4611686018427387904 := by unfold rt; simp
theorem rt_no {n : Int} : rt n = false ↔ ¬(0 ≤ n ∧ n < 4611686018427387904) := by rw [← rt_iff]; simp
/-- Whether all of a row can be. -/
def al (l : List Int) : Bool := l.all rt
theorem al_iff {l : List Int} : al l = true ↔ ∀ x ∈ l, rt x = true := by unfold al; rw [List.all_eq_true]
theorem al_at {l : List Int} : al l = true ↔ ∀ i, i < l.length → rt (l.getD i 0) = true := by
  rw [al_iff]
  constructor
  · intro h i hi
    have e : l.getD i 0 = l[i] := by simp [hi]
    rw [e]; exact h _ (List.getElem_mem hi)
  · intro h x hx
    obtain ⟨i, hi, rfl⟩ := List.getElem_of_mem hx
    have e : l.getD i 0 = l[i] := by simp [hi]
    rw [← e]; exact h i hi
theorem al_pos {l : List Int} (h : al l = true) : 0 ≤ l.sum := by
  rw [al_iff] at h
  induction l with
  | nil => simp
  | cons x r ih =>
    have h1 := rt_iff.1 (h x (by simp))
    have h2 := ih (fun y hy => h y (by simp [hy]))
    rw [List.sum_cons]; omega
/-- A sum, and what is wrong with it. -/
def addE (l : List Int) : Int := if al l then (if l.sum < 4611686018427387904 then 0 else 4) else 1
def addV (l : List Int) : Int := if al l then (if l.sum < 4611686018427387904 then l.sum else 0) else 0
/-- The sum of the first ones. -/
def ps (l : List Int) (k : Nat) : Int := (l.take k).sum
theorem ps_zero (l : List Int) : ps l 0 = 0 := by simp [ps]
theorem ps_all (l : List Int) : ps l l.length = l.sum := by simp [ps]
theorem ps_succ {l : List Int} {k : Nat} (h : k < l.length) : ps l (k + 1) = ps l k + l.getD k 0 := by
  unfold ps
  rw [List.take_succ_eq_append_getElem h, List.sum_append]
  simp [h]
theorem ps_le {l : List Int} (ha : al l = true) (k : Nat) : 0 ≤ ps l k ∧ ps l k ≤ l.sum := by
  have e : l.sum = ps l k + (l.drop k).sum := by
    conv => lhs; rw [← List.take_append_drop k l]
    rw [List.sum_append]; rfl
  have h1 : 0 ≤ ps l k := al_pos (by rw [al_iff] at ha ⊢; exact fun x hx => ha x (List.mem_of_mem_take hx))
  have h2 : 0 ≤ (l.drop k).sum := al_pos (by rw [al_iff] at ha ⊢; exact fun x hx => ha x (List.mem_of_mem_drop hx))
  omega
/-- A product, and what is wrong with it. -/
def mulE (a b : Int) : Int := if rt a && rt b then (if a * b < 4611686018427387904 then 0 else 4) else 1
def mulV (a b : Int) : Int := if rt a && rt b then (if a * b < 4611686018427387904 then a * b else 0) else 0
/-- A quotient that is rounded up, and what is wrong with it. -/
def ceE (a b : Int) : Int := if rt a && rt b && decide (b ≠ 0) then 0 else 1
def ceV (a b : Int) : Int := if rt a && rt b && decide (b ≠ 0) then (if 0 < a % b then a / b + 1 else a / b) else 0
/-- The foremost of the first k. -/
def bst (p : Int → Int → Bool) (l : List Int) : Nat → Int
  | 0 => 0
  | k + 1 => if k = 0 ∨ p (l.getD k 0) (bst p l k) = true then l.getD k 0 else bst p l k
/-- The greatest one, the least one. -/
def mo (l : List Int) : Int := bst (fun a b => decide (b < a)) l l.length
def lea (l : List Int) : Int := bst (fun a b => decide (a < b)) l l.length

theorem cell_lt {w : World} {p : Addr} {v : Value} (h : w.cell? p = some v) : p.block < w.heap.size := by
  rcases Nat.lt_or_ge p.block w.heap.size with h1 | h1
  · exact h1
  · unfold World.cell? at h
    rw [Array.getElem?_eq_none h1] at h
    simp at h
theorem keep_below {w W w9 : World} (h : Below w.heap.size w W) (hb : Below W.heap.size W w9) : Below w.heap.size w w9 := h.trans (hb.mono h.size)
theorem below_alloc (w : World) (o : Obj) : Below w.heap.size w (w.alloc o) := (Below.refl _ _).alloc (Nat.le_refl _) o

/-- A slice of ints reads as a list. -/
def Row (w : World) (a : Option Addr) (n : Nat) (l : List Int) : Prop :=
  n = l.length ∧ (0 < n → ∃ b off, a = some ⟨b, off, none⟩ ∧ b < w.heap.size ∧ ∀ i, i < n → w.cell? ⟨b, off + i, none⟩ = some (.int .i64 (l.getD i 0)))
theorem Row.below {w w' : World} {a : Option Addr} {n : Nat} {l : List Int} (h : Row w a n l) (hb : Below w.heap.size w w') : Row w' a n l := by
  refine ⟨h.1, fun hn => ?_⟩
  obtain ⟨b, off, rfl, hlt, hc⟩ := h.2 hn
  exact ⟨b, off, rfl, Nat.lt_of_lt_of_le hlt hb.size, fun i hi => (hb.cell (p := ⟨b, off + i, none⟩) hlt).trans (hc i hi)⟩
theorem Row.at_ {w : World} {a : Option Addr} {n : Nat} {l : List Int} (h : Row w a n l) {k : Nat} (hk : k < n) : ∃ b off x, a = some ⟨b, off, none⟩ ∧ b < w.heap.size ∧ l.getD k 0 = x ∧ w.cell? ⟨b, off + k, none⟩ = some (.int .i64 x) := by
  obtain ⟨b, off, rfl, hlt, hc⟩ := h.2 (by omega)
  exact ⟨b, off, _, rfl, hlt, rfl, hc k hk⟩
theorem Row.nil (w : World) (a : Option Addr) : Row w a 0 [] := ⟨rfl, fun h => absurd h (by omega)⟩
theorem Row.own {w : World} {base : Nat} {v : Value} {m : Nat} {l : List Int} (h : w.ownsRow base 3 1 v m (l.map (Value.int .i64))) : ∃ a n c, v = .slice a n c ∧ Row w a n l := by
  have hml : m = l.length := by have := h.1; simp at this; omega
  subst hml
  have hl := h.lt
  have hc := fun g => h.cells (g := g)
  rcases h.2 with ⟨hv, h0⟩ | ⟨g, cap, _, hv, _⟩
  · subst hv
    exact ⟨none, 0, 0, rfl, by omega, fun h => absurd h (by omega)⟩
  · subst hv
    refine ⟨_, _, _, rfl, rfl, fun _ => ⟨g, 0, rfl, (hl g rfl).2, fun i hi => ?_⟩⟩
    have := hc g rfl i (.int .i64 (l.getD i 0)) (by simp [hi])
    by_cases h0 : i = 0
    · subst h0; simpa [Addr.add] using this
    · simpa [Addr.add, h0] using this
theorem lit_ints (W : World) (cs : Array Value) (l : List Int) (n : Nat) (hn : n = l.length) (h : cs.toList = l.map (Value.int .i64)) (hl : l.length ≤ 1000) : Row (W.alloc (.cells cs 3)) (some ⟨W.heap.size, 0, none⟩) n l := by
  subst hn
  have hs : cs.size = l.length * 1 := by have := congrArg List.length h; simpa using this
  have := World.ownsRow_lit (base := 0) (e := 3) (size := 1) W cs l.length (by omega) (by unfold maxLen; omega) hs
  rw [h] at this
  obtain ⟨a, n, c, hv, hr⟩ := Row.own this
  cases hv
  exact hr
end Go.Proofs.Ytiibbeigkopkeaa
