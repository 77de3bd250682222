/- What is proved here: contracts of the small functions of package op (known, isPlace, Args, Name, rightB) and of num.Name. Condition: the tables of names hold what their initialisers lay ('Nms'). contracts of op.rightA and op.Right. how a slice of instructions reads as a list, and the contracts of slices.Equal, op.Same and the document's Same. Conditions: lists are not too long. how a slice of ints reads as a list, the contract of code.List, and of camshaftref02's Same at the same lists. Conditions: numbers fit 64 bits; lists are not too long. how a row that a call owns reads as a list of instructions. Conditions: none beyond those each theorem states. small facts on memory that a call leaves as it was. plain facts on texts as lists of bytes, and how a slice of strings reads as a list of -/
import Derived.Test.YtngehojibcmieaaGreatDoorQGa
import Derived.Deep.OwnRows
import Derived.Lib.Strings
import Derived.Orders
set_option maxRecDepth 100000
set_option maxHeartbeats 8000000
section
section
namespace Go.Proofs.YtngehojibcmieaaGreatDoor
open Go.ChangeShapes Go.WideShapes Go.RowKit
def nameOf (i : Nat) : ByteArray := ⟨([#[], #[65, 68, 68], #[83, 85, 66], #[77, 85, 76], #[68, 73, 86], #[77, 79, 68], #[65, 78, 68], #[79, 82], #[88, 79, 82], #[83, 72, 76], #[83, 72, 82], #[76, 84], #[69, 81]] : List (Array UInt8)).getD i #[]⟩
def Nms (w : World) : Prop := 1 < w.heap.size ∧ ∀ i : Nat, i < 13 → w.cell? ⟨1, i, none⟩ = some (.string (nameOf i))
theorem Nms.below {w w' : World} (h : Nms w) (g : Below w.heap.size w w') : Nms w' :=
 ⟨Nat.lt_of_lt_of_le h.1 g.size, fun i hi => (g.cell (p := ⟨1, i, none⟩) h.1).trans (h.2 i hi)⟩
def nm (a : Int) : ByteArray := if 1 ≤ a ∧ a ≤ 12 then nameOf a.toNat else ⟨#[]⟩
theorem numName_in (n : Nat) (s : ByteArray) (h1 : 1 ≤ n) (h2 : n ≤ 12) (w : World) (hc : w.cell? ⟨1, n, none⟩ = some (.string s)) :
  Calls Tryz.prog 236 #[.int .i64 n] w fun e w' => e = .returned (.string s) ∧ w = w' := by
 go_enter Tryz.func236, Tryz.ntmps236
 go_wp2
 go_ret
 exact ⟨rfl, rfl⟩
theorem numName_out (a : Int) (h : a < 1 ∨ 12 < a) (w : World) :
  Calls Tryz.prog 236 #[.int .i64 a] w fun e w' => e = .returned (.string ⟨#[]⟩) ∧ w = w' := by
 rcases h with h | h
 all_goals
  go_enter Tryz.func236, Tryz.ntmps236
  go_wp2
  go_ret
  exact ⟨rfl, rfl⟩
theorem numName_any (a : Int) (w : World) (hn : Nms w) :
  Calls Tryz.prog 236 #[.int .i64 a] w fun e w' => e = .returned (.string (nm a)) ∧ w = w' := by
 by_cases h : 1 ≤ a ∧ a ≤ 12
 ·obtain ⟨n, rfl⟩ : ∃ n : Nat, a = n := ⟨a.toNat, by omega⟩
  have e : nm n = nameOf n := by unfold nm; rw [if_pos h]; rfl
  rw [e]
  exact numName_in n _ (by omega) (by omega) w (hn.2 n (by omega))
 ·have e : nm a = ⟨#[]⟩ := by unfold nm; rw [if_neg h]
  rw [e]
  exact numName_out a (by omega) w
theorem nm_empty (a : Int) : ((nm a).toList == []) = !decide (1 ≤ a ∧ a ≤ 12) := by
 by_cases h : 1 ≤ a ∧ a ≤ 12
 ·rcases (show a = 1 ∨ a = 2 ∨ a = 3 ∨ a = 4 ∨ a = 5 ∨ a = 6 ∨ a = 7 ∨ a = 8 ∨ a = 9 ∨ a = 10 ∨ a = 11 ∨ a = 12 by omega) with rfl | rfl | rfl | rfl | rfl | rfl | rfl | rfl | rfl | rfl | rfl | rfl <;> decide +kernel
 ·have e : nm a = ⟨#[]⟩ := by unfold nm; rw [if_neg h]
  rw [e]; simp [h]
theorem known_op (o : Int) (w : World) : Calls Tryz.prog 214 #[.int .i64 o] w fun e w' => e = .returned (.bool (kn o)) ∧ w = w' := by
 by_cases h1 : o < 1
 ·have e : kn o = false := by unfold kn; simp; omega
  rw [e]
  go_enter Tryz.func214, Tryz.ntmps214
  go_wp2
  go_ret
  exact ⟨rfl, rfl⟩
 ·by_cases h2 : 25 < o
  ·have e : kn o = false := by unfold kn; simp; omega
   have d : decide (o ≤ 25) = false := by simp; omega
   rw [e]
   go_enter Tryz.func214, Tryz.ntmps214
   go_wp2
   go_ret
   exact ⟨rfl, rfl⟩
  ·have e : kn o = true := by unfold kn; simp; omega
   rw [e]
   go_enter Tryz.func214, Tryz.ntmps214
   go_wp2
   go_ret
   exact ⟨rfl, rfl⟩
theorem known_yes (o : Int) (h : 1 ≤ o ∧ o ≤ 25) (w : World) : Calls Tryz.prog 214 #[.int .i64 o] w fun e w' => e = .returned (.bool true) ∧ w = w' := by
 have := known_op o w
 rw [kn_iff.2 h] at this; exact this
theorem place_any (a m : Int) (w : World) : Calls Tryz.prog 237 #[.int .i64 a, .int .i64 m] w fun e w' => e = .returned (.bool (pl a m)) ∧ w = w' := by
 by_cases h1 : a < 0
 ·have e : pl a m = false := by unfold pl; simp; omega
  rw [e]
  go_enter Tryz.func237, Tryz.ntmps237
  go_wp2
  go_ret
  exact ⟨rfl, rfl⟩
 ·by_cases h2 : a < m
  ·have e : pl a m = true := by unfold pl; simp; omega
   rw [e]
   go_enter Tryz.func237, Tryz.ntmps237
   go_wp2
   go_ret
   exact ⟨rfl, rfl⟩
  ·have e : pl a m = false := by unfold pl; simp; omega
   rw [e]
   go_enter Tryz.func237, Tryz.ntmps237
   go_wp2
   go_ret
   exact ⟨rfl, rfl⟩
theorem rightB_any (o b : Int) (w : World) : Calls Tryz.prog 216 #[.int .i64 o, .int .i64 b] w fun e w' => e = .returned (.bool (rB o b)) ∧ w = w' := by
 by_cases h : o = 17 ∨ o = 18
 ·have e : rB o b = pl b 8 := by unfold rB; rw [if_pos h]
  rw [e]
  clear e
  rcases h with rfl | rfl
  all_goals
   go_enter Tryz.func216, Tryz.ntmps216
   go_wp2_with (go_at_call 237; refine (place_any _ _ _).mono ?_; rintro e w' ⟨rfl, rfl⟩)
   go_ret
   exact ⟨rfl, rfl⟩
 ·have e : rB o b = (b == 0) := by unfold rB; rw [if_neg h]
  have e1 : (o == 17) = false := by rw [beq_eq_false_iff_ne]; omega
  have e2 : (o == 18) = false := by rw [beq_eq_false_iff_ne]; omega
  rw [e]
  clear e h
  go_enter Tryz.func216, Tryz.ntmps216
  go_wp2
  go_ret
  exact ⟨rfl, rfl⟩
theorem nm_some {a : Int} (h : 1 ≤ a ∧ a ≤ 12) : (nm a).toList.isEmpty = false := by
 rcases (show a = 1 ∨ a = 2 ∨ a = 3 ∨ a = 4 ∨ a = 5 ∨ a = 6 ∨ a = 7 ∨ a = 8 ∨ a = 9 ∨ a = 10 ∨ a = 11 ∨ a = 12 by omega) with rfl | rfl | rfl | rfl | rfl | rfl | rfl | rfl | rfl | rfl | rfl | rfl <;> decide +kernel
theorem nm_none {a : Int} (h : ¬ (1 ≤ a ∧ a ≤ 12)) : nm a = ⟨#[]⟩ := by unfold nm; rw [if_neg h]
theorem rightA_two (a : Int) (w : World) (hn : Nms w) : Calls Tryz.prog 215 #[.int .i64 5, .int .i64 a] w fun e w' => e = .returned (.bool (rA 5 a)) ∧ w = w' := by
 have c := fun W h => numName_any a W h
 by_cases h : 1 ≤ a ∧ a ≤ 12
 ·have e : rA 5 a = true := by unfold rA; simp [h]
  obtain ⟨S, hS⟩ : ∃ S, S = nm a := ⟨_, rfl⟩
  have h1 := nm_some h
  rw [← hS] at c h1
  have C := Lib.hid c
  have h2 : ¬ S.toList = [] := by intro h; rw [h] at h1; cases h1
  have h3 : (S.toList == []) = false := by simpa using h2
  rw [e]
  clear e hS h c
  go_enter Tryz.func215, Tryz.ntmps215
  go_wp2_with (go_at_call 236; refine (C.out _ hn).mono ?_; rintro e w' ⟨rfl, rfl⟩)
  go_ret
  exact ⟨rfl, rfl⟩
 ·have e : rA 5 a = false := by unfold rA; simp; omega
  rw [nm_none h] at c
  have C := Lib.hid c
  rw [e]
  clear e c
  go_enter Tryz.func215, Tryz.ntmps215
  go_wp2_with (go_at_call 236; refine (C.out _ hn).mono ?_; rintro e w' ⟨rfl, rfl⟩)
  go_ret
  exact ⟨rfl, rfl⟩
theorem rightA_loop (a : Int) (w : World) : Calls Tryz.prog 215 #[.int .i64 21, .int .i64 a] w fun e w' => e = .returned (.bool (rA 21 a)) ∧ w = w' := by
 by_cases h1 : a < 1
 ·have e : rA 21 a = false := by unfold rA; simp; omega
  rw [e]
  go_enter Tryz.func215, Tryz.ntmps215
  go_wp2
  go_ret
  exact ⟨rfl, rfl⟩
 ·by_cases h2 : a ≤ 1000
  ·have e : rA 21 a = true := by unfold rA; simp; omega
   rw [e]
   go_enter Tryz.func215, Tryz.ntmps215
   go_wp2
   go_ret
   exact ⟨rfl, rfl⟩
  ·have e : rA 21 a = false := by unfold rA; simp; omega
   have d : decide (a ≤ 1000) = false := by simp; omega
   rw [e]
   go_enter Tryz.func215, Tryz.ntmps215
   go_wp2
   go_ret
   exact ⟨rfl, rfl⟩
theorem rightA_any (o a : Int) (h : 1 ≤ o ∧ o ≤ 25) (w : World) (hn : Nms w) : Calls Tryz.prog 215 #[.int .i64 o, .int .i64 a] w fun e w' => e = .returned (.bool (rA o a)) ∧ w = w' := by
 by_cases h5 : o = 5
 ·subst h5; exact rightA_two a w hn
 by_cases h21 : o = 21
 ·subst h21; exact rightA_loop a w
 clear hn
 rcases (show o = 1 ∨ o = 2 ∨ o = 3 ∨ o = 4 ∨ o = 6 ∨ o = 7 ∨ o = 8 ∨ o = 9 ∨ o = 10 ∨ o = 11 ∨ o = 12 ∨ o = 13 ∨ o = 14 ∨ o = 15 ∨ o = 16 ∨ o = 17 ∨ o = 18 ∨ o = 19 ∨ o = 20 ∨ o = 22 ∨ o = 23 ∨ o = 24 ∨ o = 25 by omega) with
  rfl | rfl | rfl | rfl | rfl | rfl | rfl | rfl | rfl | rfl | rfl | rfl | rfl | rfl | rfl | rfl | rfl | rfl | rfl | rfl | rfl | rfl | rfl
 all_goals
  clear h h5 h21
  go_enter Tryz.func215, Tryz.ntmps215
  go_wp2_with (go_at_call 237; refine (place_any _ _ _).mono ?_; rintro e w' ⟨rfl, rfl⟩)
  go_ret
  exact ⟨rfl, rfl⟩
theorem right_any (o a b : Int) (w : World) (hn : Nms w) :
  Calls Tryz.prog 175 #[.agg #[.int .i64 o, .int .i64 a, .int .i64 b]] w fun e w' => e = .returned (.bool (right (o, a, b))) ∧ Below w.heap.size w w' := by
 have e : right (o, a, b) = (kn o && (rA o a && rB o b)) := rfl
 have ck := known_op o
 cases hk : kn o
 ·rw [hk] at e ck
  have C := Lib.hid ck
  rw [e]
  clear e ck hk
  go_enter Tryz.func175, Tryz.ntmps175
  go_wp2_with (go_at_call 214; refine (C.out _).mono ?_; rintro e w' ⟨rfl, rfl⟩)
  go_ret
  exact ⟨rfl, (Below.refl _ _).alloc (Nat.le_refl _) _⟩
 ·have hko := kn_iff.1 hk
  have ca := fun W h => rightA_any o a hko W h
  have cb := fun W => rightB_any o b W
  have hn' : ∀ x, Nms (w.alloc x) := fun x => hn.below ((Below.refl _ _).alloc (Nat.le_refl _) _)
  have HN := Lib.hid hn'
  obtain ⟨x, hx⟩ : ∃ x, x = rA o a := ⟨_, rfl⟩
  obtain ⟨y, hy⟩ : ∃ y, y = rB o b := ⟨_, rfl⟩
  rw [hk, ← hx, ← hy] at e
  rw [hk] at ck
  rw [← hx] at ca
  rw [← hy] at cb
  have C := Lib.hid ck
  have CA := Lib.hid ca
  have CB := Lib.hid cb
  rw [e]
  clear e ck ca cb hk hx hy hn' hko hn
  cases x
  all_goals
   go_enter Tryz.func175, Tryz.ntmps175
   go_wp2_with (first
    | (go_at_call 214; refine (C.out _).mono ?_; rintro e w' ⟨rfl, rfl⟩)
    | (go_at_call 215; refine (CA.out _ (HN.out _)).mono ?_; rintro e w' ⟨rfl, rfl⟩)
    | (go_at_call 216; refine (CB.out _).mono ?_; rintro e w' ⟨rfl, rfl⟩))
   go_ret
   exact ⟨rfl, (Below.refl _ _).alloc (Nat.le_refl _) _⟩
def RowI (w : World) (a : Option Addr) (n : Nat) (L : List (Int × Int × Int)) : Prop :=
 n = L.length ∧ (0 < n → ∃ b off, a = some ⟨b, off, none⟩ ∧ b < w.heap.size ∧ ∀ i, i < n → w.cell? ⟨b, off + i * 3, none⟩ = some (.int .i64 (L.getD i (0, 0, 0)).1) ∧ w.cell? ⟨b, off + i * 3 + 1, none⟩ = some (.int .i64 (L.getD i (0, 0, 0)).2.1) ∧ w.cell? ⟨b, off + i * 3 + 2, none⟩ = some (.int .i64 (L.getD i (0, 0, 0)).2.2))
theorem RowI.below {w w' : World} {a : Option Addr} {n : Nat} {L : List (Int × Int × Int)} (h : RowI w a n L) (hb : Below w.heap.size w w') : RowI w' a n L := by
 refine ⟨h.1, fun hn => ?_⟩
 obtain ⟨b, off, rfl, hlt, hc⟩ := h.2 hn
 refine ⟨b, off, rfl, Nat.lt_of_lt_of_le hlt hb.size, fun i hi => ?_⟩
 obtain ⟨h1, h2, h3⟩ := hc i hi
 exact ⟨(hb.cell (p := ⟨b, off + i * 3, none⟩) hlt).trans h1, (hb.cell (p := ⟨b, off + i * 3 + 1, none⟩) hlt).trans h2, (hb.cell (p := ⟨b, off + i * 3 + 2, none⟩) hlt).trans h3⟩
theorem RowI.nil (w : World) (a : Option Addr) : RowI w a 0 [] := ⟨rfl, fun h => absurd h (by omega)⟩
theorem RowI.at_ {w : World} {a : Option Addr} {n k : Nat} {L : List (Int × Int × Int)} (h : RowI w a n L) (hk : k < n) : ∃ b off o x y, a = some ⟨b, off, none⟩ ∧ b < w.heap.size ∧ L[k]? = some (o, x, y) ∧
  w.cell? ⟨b, off + k * 3, none⟩ = some (.int .i64 o) ∧ w.cell? ⟨b, off + k * 3 + 1, none⟩ = some (.int .i64 x) ∧ w.cell? ⟨b, off + k * 3 + 2, none⟩ = some (.int .i64 y) := by
 obtain ⟨b, off, e, hlt, hc⟩ := h.2 (by omega)
 obtain ⟨h1, h2, h3⟩ := hc k hk
 have hl : k < L.length := by have := h.1; omega
 have hg : L[k]? = some (L.getD k (0, 0, 0)) := by rw [List.getElem?_eq_getElem hl, List.getD_eq_getElem?_getD, List.getElem?_eq_getElem hl]; rfl
 exact ⟨b, off, _, _, _, e, hlt, hg, h1, h2, h3⟩
theorem take_same {α : Type} {L M : List α} {k : Nat} {x : α} (hL : L[k]? = some x) (hM : M[k]? = some x) (h : L.take k = M.take k) : L.take (k + 1) = M.take (k + 1) := by
 rw [List.take_add_one, List.take_add_one, h, hL, hM]
theorem row_ne {L M : List (Int × Int × Int)} {k : Nat} {x y : Int × Int × Int} (hL : L[k]? = some x) (hM : M[k]? = some y) (h : x ≠ y) : decide (L = M) = false := by
 rw [decide_eq_false_iff_not]
 intro e
 rw [e, hM] at hL
 exact h (Option.some.inj hL).symm
theorem row_len {L M : List (Int × Int × Int)} (h : L.length ≠ M.length) : decide (L = M) = false := by
 rw [decide_eq_false_iff_not]
 intro e
 exact h (by rw [e])
def Row (w : World) (a : Option Addr) (n : Nat) (l : List Int) : Prop :=
 n = l.length ∧ (0 < n → ∃ b off, a = some ⟨b, off, none⟩ ∧ b < w.heap.size ∧ ∀ i, i < n → w.cell? ⟨b, off + i, none⟩ = some (.int .i64 (l.getD i 0)))
theorem Row.below {w w' : World} {a : Option Addr} {n : Nat} {l : List Int} (h : Row w a n l) (hb : Below w.heap.size w w') : Row w' a n l := by
 refine ⟨h.1, fun hn => ?_⟩
 obtain ⟨b, off, rfl, hlt, hc⟩ := h.2 hn
 exact ⟨b, off, rfl, Nat.lt_of_lt_of_le hlt hb.size, fun i hi => (hb.cell (p := ⟨b, off + i, none⟩) hlt).trans (hc i hi)⟩
theorem Row.nil (w : World) (a : Option Addr) : Row w a 0 [] := ⟨rfl, fun h => absurd h (by omega)⟩
theorem Row.own {w : World} {base : Nat} {v : Value} {m : Nat} {l : List Int} (h : w.ownsRow base 3 1 v m (l.map (Value.int .i64))) : ∃ a n c, v = .slice a n c ∧ Row w a n l := by
 have hml : m = l.length := by have := h.1; simp at this; omega
 subst hml
 have hl := h.lt
 have hc := fun g => h.cells (g := g)
 rcases h.2 with ⟨hv, h0⟩ | ⟨g, cap, _, hv, _⟩
 ·subst hv
  exact ⟨none, 0, 0, rfl, by omega, fun h => absurd h (by omega)⟩
 ·subst hv
  refine ⟨_, _, _, rfl, rfl, fun _ => ⟨g, 0, rfl, (hl g rfl).2, fun i hi => ?_⟩⟩
  have := hc g rfl i (.int .i64 (l.getD i 0)) (by simp [hi])
  by_cases h0 : i = 0
  ·subst h0; simpa [Addr.add] using this
  ·simpa [Addr.add, h0] using this
def cellsI (L : List (Int × Int × Int)) : List Value := L.flatMap fun i => [.int .i64 i.1, .int .i64 i.2.1, .int .i64 i.2.2]
theorem cellsI_snoc (L : List (Int × Int × Int)) (o a b : Int) : cellsI (L ++ [(o, a, b)]) = cellsI L ++ [.int .i64 o, .int .i64 a, .int .i64 b] := by simp [cellsI]
theorem cellsI_length (L : List (Int × Int × Int)) : (cellsI L).length = L.length * 3 := by
 induction L with
 | nil => rfl
 | cons i L ih => simp only [cellsI, List.flatMap_cons, List.length_append, List.length_cons, List.length_nil] at ih ⊢; omega
theorem cellsI_at (L : List (Int × Int × Int)) (i : Nat) (h : i < L.length) :
  (cellsI L)[i * 3]? = some (.int .i64 (L.getD i (0, 0, 0)).1) ∧ (cellsI L)[i * 3 + 1]? = some (.int .i64 (L.getD i (0, 0, 0)).2.1) ∧ (cellsI L)[i * 3 + 2]? = some (.int .i64 (L.getD i (0, 0, 0)).2.2) := by
 induction L generalizing i with
 | nil => simp at h
 | cons x L ih =>
  have e : cellsI (x :: L) = .int .i64 x.1 :: .int .i64 x.2.1 :: .int .i64 x.2.2 :: cellsI L := by simp [cellsI]
  rw [e]
  cases i with
  | zero => exact ⟨rfl, rfl, rfl⟩
  | succ i =>
   obtain ⟨h1, h2, h3⟩ := ih i (by simpa using h)
   have e1 : (i + 1) * 3 = i * 3 + 3 := by omega
   rw [e1]
   refine ⟨?_, ?_, ?_⟩
   ·rw [show i * 3 + 3 = (i * 3) + 1 + 1 + 1 by omega, List.getElem?_cons_succ, List.getElem?_cons_succ, List.getElem?_cons_succ, h1]; simp
   ·rw [show i * 3 + 3 + 1 = (i * 3 + 1) + 1 + 1 + 1 by omega, List.getElem?_cons_succ, List.getElem?_cons_succ, List.getElem?_cons_succ, h2]; simp
   ·rw [show i * 3 + 3 + 2 = (i * 3 + 2) + 1 + 1 + 1 by omega, List.getElem?_cons_succ, List.getElem?_cons_succ, List.getElem?_cons_succ, h3]; simp
theorem RowI.own {w : World} {base : Nat} {v : Value} {m : Nat} {L : List (Int × Int × Int)} (h : w.ownsRow base 103 3 v m (cellsI L)) : ∃ a c, v = .slice a m c ∧ RowI w a m L := by
 have hml : m = L.length := by have := h.1; rw [cellsI_length] at this; omega
 subst hml
 have hl := h.lt
 have hc := fun g => h.cells (g := g)
 rcases h.2 with ⟨hv, h0⟩ | ⟨g, cap, _, hv, _⟩
 ·subst hv
  rw [h0]
  exact ⟨none, 0, rfl, h0.symm, fun h => absurd h (by omega)⟩
 ·subst hv
  refine ⟨_, _, rfl, rfl, fun _ => ⟨g, 0, rfl, (hl g rfl).2, fun i hi => ?_⟩⟩
  obtain ⟨h1, h2, h3⟩ := cellsI_at L i hi
  have k1 := hc g rfl _ _ h1
  have k2 := hc g rfl _ _ h2
  have k3 := hc g rfl _ _ h3
  refine ⟨?_, ?_, ?_⟩
  ·by_cases h0 : i = 0
   ·subst h0; simpa [Addr.add] using k1
   ·have h3 : ¬ i * 3 = 0 := by omega
    simpa only [Addr.add, h3, if_false, Nat.zero_add] using k1
  ·simpa [Addr.add] using k2
  ·simpa [Addr.add] using k3
theorem own_form {w : World} {base : Nat} {v : Value} {L : List (Int × Int × Int)} (h : w.ownsRow base 103 3 v L.length (cellsI L)) : ∃ a n c, v = .slice a n c ∧ n = L.length ∧ RowI w a n L := by
 obtain ⟨a, c, hv, hr⟩ := RowI.own h
 exact ⟨a, _, c, hv, rfl, hr⟩
theorem own_below {w w' : World} {base : Nat} {v : Value} {m : Nat} {xs : List Value} (h : w.ownsRow base 103 3 v m xs) (hb : Below w.heap.size w w') : w'.ownsRow base 103 3 v m xs :=
 h.kept (row := none) ⟨hb.os, hb.tape, hb.output, hb.size, fun i hi _ => hb.block i hi⟩ (by
  cases h : v.ownBlock with
  | none => exact Or.inl rfl
  | some _ => exact Or.inr (by simp))
theorem ins_info : (Tryz.prog.info? 103).map (fun i => (i.zero, i.size, i.bytes)) = some (some (.agg #[.int .i64 0, .int .i64 0, .int .i64 0]), 3, 24) := by kernel_rfl
theorem cell_lt {w : World} {p : Addr} {v : Value} (h : w.cell? p = some v) : p.block < w.heap.size := by
 rcases Nat.lt_or_ge p.block w.heap.size with h1 | h1
 ·exact h1
 ·unfold World.cell? at h
  rw [Array.getElem?_eq_none h1] at h
  simp at h
theorem keep_below {w W w9 : World} (h : Below w.heap.size w W) (hb : Below W.heap.size W w9) : Below w.heap.size w w9 := h.trans (hb.mono h.size)
theorem below_alloc (w : World) (o : Obj) : Below w.heap.size w (w.alloc o) := (Below.refl _ _).alloc (Nat.le_refl _) o
theorem keep_cell {W w9 : World} {p : Addr} {v : Value} (hb : Below W.heap.size W w9) (h : W.cell? p = some v) : w9.cell? p = some v := (hb.cell (cell_lt h)).trans h
theorem new_block (w : World) (o : Obj) : (w.alloc o).heap[w.heap.size]? = some o := Go.Deep.blk_alloc_new _ _
def bs (l : List UInt8) : ByteArray := ⟨l.toArray⟩
theorem bs_list (l : List UInt8) : (bs l).data.toList = l := by simp [bs]
theorem bs_of (s : ByteArray) : bs s.data.toList = s := by simp [bs]
theorem bs_size (l : List UInt8) : (bs l).size = l.length := by simp [bs, ByteArray.size]
theorem bs_toList (l : List UInt8) : (bs l).toList = l := by rw [Lib.toList_data, bs_list]
theorem bs_append (a b : List UInt8) : bs a ++ bs b = bs (a ++ b) := by
 rw [← bs_of (bs a ++ bs b)]; congr 1
theorem bs_extract (l : List UInt8) (f k : Nat) : (bs l).extract f k = bs ((l.take k).drop f) := by
 rw [← bs_of ((bs l).extract f k), Lib.extract_data, List.drop_take, bs_list]
def RowS (w : World) (a : Option Addr) (n : Nat) (P : List (List UInt8)) : Prop :=
 n = P.length ∧ (0 < n → ∃ b off, a = some ⟨b, off, none⟩ ∧ b < w.heap.size ∧ ∀ i, i < n → w.cell? ⟨b, off + i, none⟩ = some (.string (bs (P.getD i []))))
theorem RowS.below {w w' : World} {a : Option Addr} {n : Nat} {P : List (List UInt8)} (h : RowS w a n P) (hb : Below w.heap.size w w') : RowS w' a n P := by
 refine ⟨h.1, fun hn => ?_⟩
 obtain ⟨b, off, rfl, hlt, hc⟩ := h.2 hn
 exact ⟨b, off, rfl, Nat.lt_of_lt_of_le hlt hb.size, fun i hi => (hb.cell (p := ⟨b, off + i, none⟩) hlt).trans (hc i hi)⟩
theorem RowS.nil (w : World) (a : Option Addr) : RowS w a 0 [] := ⟨rfl, fun h => absurd h (by omega)⟩
def cellsS (P : List (List UInt8)) : List Value := P.map fun p => .string (bs p)
theorem RowS.own {w : World} {base : Nat} {v : Value} {m : Nat} {P : List (List UInt8)} (h : w.ownsRow base 9 1 v m (cellsS P)) : ∃ a c, v = .slice a m c ∧ RowS w a m P := by
 have hml : m = P.length := by have := h.1; simp only [cellsS, List.length_map] at this; omega
 subst hml
 have hl := h.lt
 have hc := fun g => h.cells (g := g)
 rcases h.2 with ⟨hv, h0⟩ | ⟨g, cap, _, hv, _⟩
 ·subst hv
  rw [h0]
  exact ⟨none, 0, rfl, h0.symm, fun h => absurd h (by omega)⟩
 ·subst hv
  refine ⟨_, _, rfl, rfl, fun _ => ⟨g, 0, rfl, (hl g rfl).2, fun i hi => ?_⟩⟩
  have hx : (cellsS P)[i]? = some (.string (bs (P.getD i []))) := by
   unfold cellsS
   rw [List.getElem?_map, List.getElem?_eq_getElem hi, List.getD_eq_getElem?_getD, List.getElem?_eq_getElem hi]; rfl
  have k1 := hc g rfl _ _ hx
  by_cases h0 : i = 0
  ·subst h0; simpa [Addr.add] using k1
  ·simpa [Addr.add, h0] using k1
theorem str_info : (Tryz.prog.info? 9).map (fun i => (i.zero, i.size, i.bytes)) = some (some (.string ⟨#[]⟩), 1, 16) := by kernel_rfl
theorem spot_info : (Tryz.prog.info? 252).map (fun i => (i.zero, i.size, i.bytes)) = some (some (.agg #[.string ⟨#[]⟩, .bool false, .bool false]), 3, 24) := by kernel_rfl
def unlB (listed : Array Bool) : Nat := listed.toList.countP (fun x => !x)
theorem unlB_set {listed : Array Bool} {i : Nat} (h : listed.getD i true = false) : unlB (listed.setIfInBounds i true) + 1 = unlB listed := by
 have hi : i < listed.size := by
  rcases Nat.lt_or_ge i listed.size with h' | h'
  ·exact h'
  ·simp [Array.getElem?_eq_none h'] at h
 have hv : listed[i] = false := by simpa [hi] using h
 unfold unlB
 rw [Array.toList_setIfInBounds]
 have e : listed.toList = listed.toList.take i ++ listed[i] :: listed.toList.drop (i + 1) := by
  have := List.take_append_drop i listed.toList
  rw [List.drop_eq_getElem_cons (by simpa using hi)] at this
  simpa using this.symm
 rw [List.set_eq_take_append_cons_drop, if_pos (by simpa using hi)]
 rw [List.countP_append, List.countP_cons]
 conv => rhs; rw [e, List.countP_append, List.countP_cons, hv]
 simp
 omega
theorem unlB_zero {listed : Array Bool} (h : unlB listed = 0) (i : Nat) : listed.getD i true = true := by
 unfold unlB at h
 rw [List.countP_eq_zero] at h
 rcases Nat.lt_or_ge i listed.size with h' | h'
 ·have := h listed[i] (by simp)
  simpa [h'] using this
 ·simp [Array.getElem?_eq_none h']
theorem wpAny_inv {P : Program} {md : Region.Mode} {ops : Array Oper} {Q : Exit → Act → World → Prop} (I : Array Bool → Act → World → Prop)
  (hdep : ∀ (i : Nat) o, ops[i]? = some o → ∀ e ∈ o.after, e.on < i)
  (hend : ∀ listed a w, (∀ i : Nat, listed.getD i true = true) → I listed a w → Q .normal a w)
  (hstep : ∀ (listed : Array Bool) a w (i : Nat) o, ops[i]? = some o → listed.getD i true = false → (∀ e ∈ o.after, Region.binds md e = true → listed.getD e.on false = true) → I listed a w →
   o.guard = none ∧ o.wp P a w (I (listed.setIfInBounds i true)) Q) :
  ∀ (fuel : Nat) (listed : Array Bool) (a : Act) (w : World), listed.size = ops.size → unlB listed ≤ fuel → I listed a w → wpAny P md ops Q fuel listed a w := by
 have hall : ∀ listed : Array Bool, listed.size = ops.size → Region.ready md ops listed = [] → ∀ i : Nat, listed.getD i true = true := by
  intro listed hsz hr i
  induction i using Nat.strongRecOn with
  | ind i ih =>
   cases h : listed.getD i true
   ·exfalso
    have hi : i < listed.size := by
     rcases Nat.lt_or_ge i listed.size with h' | h'
     ·exact h'
     ·simp [Array.getElem?_eq_none h'] at h
    obtain ⟨o, ho⟩ : ∃ o, ops[i]? = some o := ⟨ops[i]'(by omega), by simp [← hsz, hi]⟩
    have : i ∈ Region.ready md ops listed := mem_ready.2 ⟨h, o, ho, fun e he _ => by
     have h1 := hdep i o ho e he
     have h2 := ih e.on h1
     have h3 : e.on < listed.size := by omega
     simpa [h3] using h2⟩
    rw [hr] at this; simp at this
   ·rfl
 intro fuel
 induction fuel with
 | zero =>
  intro listed a w hsz hu hI
  have ha := unlB_zero (Nat.le_zero.1 hu)
  refine ⟨?_, hend listed a w ha hI⟩
  cases hr : Region.ready md ops listed with
  | nil => rfl
  | cons x r =>
   have := (mem_ready.1 (show x ∈ Region.ready md ops listed by rw [hr]; simp)).1
   rw [ha x] at this; cases this
 | succ fuel ih =>
  intro listed a w hsz hu hI
  refine ⟨fun hr => hend listed a w (hall listed hsz hr) hI, fun i hi => ?_⟩
  obtain ⟨h0, o, ho, hd⟩ := mem_ready.1 hi
  obtain ⟨hg, hw⟩ := hstep listed a w i o ho h0 hd hI
  unfold wpOp
  rw [ho]
  have hwant : Region.wanted o (yielded ops a.tmps) = true := by unfold Region.wanted; rw [hg]
  simp only [hwant, if_true]
  refine Or.inl (Oper.wp_mono (fun a' w' h => ih _ a' w' (by simpa using hsz) ?_ h) hw)
  have := unlB_set h0
  omega
end Go.Proofs.YtngehojibcmieaaGreatDoor
end
end
