/- What is proved here: how a row that a call owns reads as a list of instructions. Conditions: none beyond those each theorem states. -/
import Derived.Test.YtkkoekfdncoifaaDoorRow
namespace Go.Proofs.YtkkoekfdncoifaaDoor
open Go.ChangeShapes Go.WideShapes Go.RowKit

/-- Instructions as cells. -/
def cellsI (L : List (Int × Int × Int)) : List Value := L.flatMap fun i => [.int .i64 i.1, .int .i64 i.2.1, .int .i64 i.2.2]
theorem cellsI_snoc (L : List (Int × Int × Int)) (o a b : Int) : cellsI (L ++ [(o, a, b)]) = cellsI L ++ [.int .i64 o, .int .i64 a, .int .i64 b] := by simp [cellsI]
theorem cellsI_length (L : List (Int × Int × Int)) : (cellsI L).length = L.length * 3 := by
  induction L with
  | nil => rfl
  | cons i L ih => simp only [cellsI, List.flatMap_cons, List.length_append, List.length_cons, List.length_nil] at ih ⊢; omega
theorem cellsI_at (L : List (Int × Int × Int)) (i : Nat) (h : i < L.length) :
    (cellsI L)[i * 3]? = some (.int .i64 (L.getD i (0, 0, 0)).1) ∧ (cellsI L)[i * 3 + 1]? = some (.int .i64 (L.getD i (0, 0, 0)).2.1) ∧ (cellsI L)[i * 3 + 2]? = some (.int .i64 (L.getD i (0, 0, 0)).2.2) := by
  induction L generalizing i with
  | nil => simp at h
  | cons x L ih =>
    have e : cellsI (x :: L) = .int .i64 x.1 :: .int .i64 x.2.1 :: .int .i64 x.2.2 :: cellsI L := by simp [cellsI]
    rw [e]
    cases i with
    | zero => exact ⟨rfl, rfl, rfl⟩
    | succ i =>
      obtain ⟨h1, h2, h3⟩ := ih i (by simpa using h)
      have e1 : (i + 1) * 3 = i * 3 + 3 := by omega
      rw [e1]
      refine ⟨?_, ?_, ?_⟩
      · rw [show i * 3 + 3 = (i * 3) + 1 + 1 + 1 by omega, List.getElem?_cons_succ, List.getElem?_cons_succ, List.getElem?_cons_succ, h1]; simp
      · rw [show i * 3 + 3 + 1 = (i * 3 + 1) + 1 + 1 + 1 by omega, List.getElem?_cons_succ, List.getElem?_cons_succ, List.getElem?_cons_succ, h2]; simp
      · rw [show i * 3 + 3 + 2 = (i * 3 + 2) + 1 + 1 + 1 by omega, List.getElem?_cons_succ, List.getElem?_cons_succ, List.getElem?_cons_succ, h3]; simp
theorem RowI.own {w : World} {base : Nat} {v : Value} {m : Nat} {L : List (Int × Int × Int)} (h : w.ownsRow base 37 3 v m (cellsI L)) : ∃ a c, v = .slice a m c ∧ RowI w a m L := by
  have hml : m = L.length := by have := h.1; rw [cellsI_length] at this; omega
  subst hml
  have hl := h.lt
  have hc := fun g => h.cells (g := g)
  rcases h.2 with ⟨hv, h0⟩ | ⟨g, cap, _, hv, _⟩
  · subst hv
    rw [h0]
    exact ⟨none, 0, rfl, h0.symm, fun h => absurd h (by omega)⟩
  · subst hv
    refine ⟨_, _, rfl, rfl, fun _ => ⟨g, 0, rfl, (hl g rfl).2, fun i hi => ?_⟩⟩
    obtain ⟨h1, h2, h3⟩ := cellsI_at L i hi
    have k1 := hc g rfl _ _ h1
    have k2 := hc g rfl _ _ h2
    have k3 := hc g rfl _ _ h3
    refine ⟨?_, ?_, ?_⟩
    · by_cases h0 : i = 0
      · subst h0; simpa [Addr.add] using k1
      · have h3 : ¬ i * 3 = 0 := by omega
        simpa only [Addr.add, h3, if_false, Nat.zero_add] using k1
    · simpa [Addr.add] using k2
    · simpa [Addr.add] using k3
theorem own_form {w : World} {base : Nat} {v : Value} {L : List (Int × Int × Int)} (h : w.ownsRow base 37 3 v L.length (cellsI L)) : ∃ a n c, v = .slice a n c ∧ n = L.length ∧ RowI w a n L := by
  obtain ⟨a, c, hv, hr⟩ := RowI.own h
  exact ⟨a, _, c, hv, rfl, hr⟩
theorem own_below {w w' : World} {base : Nat} {v : Value} {m : Nat} {xs : List Value} (h : w.ownsRow base 37 3 v m xs) (hb : Below w.heap.size w w') : w'.ownsRow base 37 3 v m xs :=
  h.kept (row := none) ⟨hb.os, hb.tape, hb.output, hb.size, fun i hi _ => hb.block i hi⟩ (by
    cases h : v.ownBlock with
    | none => exact Or.inl rfl
    | some _ => exact Or.inr (by simp))
theorem ins_info : (Tryd.prog.info? 37).map (fun i => (i.zero, i.size, i.bytes)) = some (some (.agg #[.int .i64 0, .int .i64 0, .int .i64 0]), 3, 24) := by kernel_rfl
/-- What Read leaves. -/
def GotR (r : List (Int × Int × Int) × Int) (w : World) (e : Ending) (w' : World) : Prop :=
  ∃ a n c, e = .returned (.tuple #[.slice a n c, .int .i64 r.2]) ∧ RowI w' a n r.1 ∧ Below w.heap.size w w'

end Go.Proofs.YtkkoekfdncoifaaDoor
