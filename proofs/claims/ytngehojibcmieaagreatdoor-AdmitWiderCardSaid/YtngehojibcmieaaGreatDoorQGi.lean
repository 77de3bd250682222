/- What is proved here: images as plain data, and when one is right. Conditions: none beyond those each theorem states. how rows of rows, rows of tasks, and images lie in memory. contracts of the small functions of package image (within, numbersOf, rightNumbers, rise, rightBlocks). Conditions: rows are not too long. -/
import Derived.Test.YtngehojibcmieaaGreatDoorQGb
set_option maxRecDepth 100000
set_option maxHeartbeats 8000000
section
section
namespace Go.Proofs.YtngehojibcmieaaGreatDoor
structure TkP where
 (pr pe de ji : Int) (bl ou : List Int) (co : List (Int × Int × Int))
structure ImP where
 (sw la cm inp : Int) (safe : List Int) (blocks : List (List Int)) (tasks : List TkP)
def inB (n lo hi : Int) : Bool := decide (lo ≤ n) && decide (n ≤ hi)
def riseE (ahead room : Int) : List Int → Bool
 | [] => true
 | p :: l => decide (ahead < p) && (decide (p < room) && riseE p room l)
def apE (seen : List Int) : List Int → Bool
 | [] => true
 | p :: l => !seen.contains p && apE (p :: seen) l
def codeE (co : List (Int × Int × Int)) : Bool := inB co.length 1 200 && co.all right
def tkNumE (t : TkP) : Bool := inB t.pr 1 100 && (inB t.pe 1 1048576 && (inB t.de 1 t.pe && inB t.ji 0 1048576))
def tkE (nb ns : Int) (t : TkP) : Bool := tkNumE t && (riseE (-1) nb t.bl && (riseE (-1) ns t.ou && codeE t.co))
def numE (m : ImP) : Bool := inB m.sw 0 100 && (inB m.la 1 100 && (inB m.cm 1 100 && inB m.inp 0 16))
def blocksE (l : List (List Int)) : Bool := decide (l.length ≤ 8) && l.all fun x => inB x.length 1 8
def outsT (l : List TkP) : List Int := l.flatMap (·.ou)
def tasksE (m : ImP) : Bool := inB m.tasks.length 1 8 && (m.tasks.all (tkE m.blocks.length m.safe.length) && apE [] (outsT m.tasks))
def imE (m : ImP) : Bool := numE m && (decide (m.safe.length ≤ 16) && (blocksE m.blocks && tasksE m))
theorem inB_iff {n lo hi : Int} : inB n lo hi = true ↔ lo ≤ n ∧ n ≤ hi := by unfold inB; simp
theorem inB_f {n lo hi : Int} (h : n < lo ∨ hi < n) : inB n lo hi = false := by
 unfold inB; rcases h with h | h
 ·rw [decide_eq_false (by omega)]; rfl
 ·rw [decide_eq_false (p := n ≤ hi) (by omega), Bool.and_false]
theorem riseE_mem {ahead room : Int} {l : List Int} (h : riseE ahead room l = true) : ∀ p ∈ l, ahead < p ∧ p < room := by
 induction l generalizing ahead with
 | nil => intro p hp; cases hp
 | cons q l ih =>
  simp only [riseE, Bool.and_eq_true, decide_eq_true_eq] at h
  intro p hp
  rcases List.mem_cons.1 hp with rfl | hp
  ·exact ⟨h.1, h.2.1⟩
  ·have := ih h.2.2 p hp; exact ⟨by omega, this.2⟩
def lightN (m : ImP) : Int :=
 m.safe.length + m.blocks.length + m.tasks.length
def bulkB (l : List (List Int)) : Int := (l.map fun x => min (x.length : Int) 100).sum
def bulkT (l : List TkP) : Int := (l.map fun t => min (t.bl.length : Int) 100 + min (t.ou.length : Int) 100 + min (t.co.length : Int) 10000 / 20).sum
def lightE (m : ImP) : Int := if 80 < lightN m then 0 else if 200 < lightN m + bulkB m.blocks + bulkT m.tasks then 0 else 1
end Go.Proofs.YtngehojibcmieaaGreatDoor
end
section
namespace Go.Proofs.YtngehojibcmieaaGreatDoor
open Go.ChangeShapes Go.WideShapes Go.RowKit
structure Sl where
 (a : Option Addr) (n c : Nat)
def Sl.v (s : Sl) : Value := .slice s.a s.n s.c
structure TaV where
 (pr pe de ji : Int) (bl ou co : Sl)
def TaV.cells (t : TaV) : List Value := [.int .i64 t.pr, .int .i64 t.pe, .int .i64 t.de, .int .i64 t.ji, t.bl.v, t.ou.v, t.co.v]
def SlI (w : World) (s : Sl) (l : List Int) : Prop := Row w s.a s.n l ∧ s.n ≤ 140737488355328
def SlC (w : World) (s : Sl) (l : List (Int × Int × Int)) : Prop := RowI w s.a s.n l ∧ s.n ≤ 140737488355328
def TaV.Is (w : World) (t : TaV) (T : TkP) : Prop :=
 t.pr = T.pr ∧ t.pe = T.pe ∧ t.de = T.de ∧ t.ji = T.ji ∧ SlI w t.bl T.bl ∧ SlI w t.ou T.ou ∧ SlC w t.co T.co
def RowR (w : World) (a : Option Addr) (n : Nat) (L : List (List Int)) : Prop :=
 n = L.length ∧ (0 < n → ∃ b off, a = some ⟨b, off, none⟩ ∧ b < w.heap.size ∧ ∀ i, i < n → ∃ s : Sl, w.cell? ⟨b, off + i, none⟩ = some s.v ∧ SlI w s (L.getD i []))
def RowT (w : World) (a : Option Addr) (n : Nat) (L : List TkP) : Prop :=
 n = L.length ∧ (0 < n → ∃ b off, a = some ⟨b, off, none⟩ ∧ b < w.heap.size ∧ ∀ i, i < n → ∃ (t : TaV) (T : TkP), L[i]? = some T ∧ t.Is w T ∧ ∀ j v, t.cells[j]? = some v → w.cell? ⟨b, off + i * 7 + j, none⟩ = some v)
structure ImV where
 (sw la cm inp : Int) (safe blocks tasks : Sl)
def ImV.cells (x : ImV) : List Value := [.int .i64 x.sw, .int .i64 x.la, .int .i64 x.cm, .int .i64 x.inp, x.safe.v, x.blocks.v, x.tasks.v]
def ImV.v (x : ImV) : Value := .agg #[.int .i64 x.sw, .int .i64 x.la, .int .i64 x.cm, .int .i64 x.inp, x.safe.v, x.blocks.v, x.tasks.v]
def ImV.Is (w : World) (x : ImV) (m : ImP) : Prop :=
 x.sw = m.sw ∧ x.la = m.la ∧ x.cm = m.cm ∧ x.inp = m.inp ∧ SlI w x.safe m.safe ∧ (RowR w x.blocks.a x.blocks.n m.blocks ∧ x.blocks.n ≤ 140737488355328) ∧ (RowT w x.tasks.a x.tasks.n m.tasks ∧ x.tasks.n ≤ 140737488355328)
theorem SlI.below {w w' : World} {s : Sl} {l : List Int} (h : SlI w s l) (hb : Below w.heap.size w w') : SlI w' s l := ⟨h.1.below hb, h.2⟩
theorem SlC.below {w w' : World} {s : Sl} {l : List (Int × Int × Int)} (h : SlC w s l) (hb : Below w.heap.size w w') : SlC w' s l := ⟨h.1.below hb, h.2⟩
theorem TaV.Is.below {w w' : World} {t : TaV} {T : TkP} (h : t.Is w T) (hb : Below w.heap.size w w') : t.Is w' T := by
 obtain ⟨h1, h2, h3, h4, h5, h6, h7⟩ := h
 exact ⟨h1, h2, h3, h4, h5.below hb, h6.below hb, h7.below hb⟩
theorem RowR.below {w w' : World} {a : Option Addr} {n : Nat} {L : List (List Int)} (h : RowR w a n L) (hb : Below w.heap.size w w') : RowR w' a n L := by
 refine ⟨h.1, fun hn => ?_⟩
 obtain ⟨b, off, e, hlt, hc⟩ := h.2 hn
 refine ⟨b, off, e, Nat.lt_of_lt_of_le hlt hb.size, fun i hi => ?_⟩
 obtain ⟨s, h1, h2⟩ := hc i hi
 exact ⟨s, keep_cell hb h1, h2.below hb⟩
theorem RowT.below {w w' : World} {a : Option Addr} {n : Nat} {L : List TkP} (h : RowT w a n L) (hb : Below w.heap.size w w') : RowT w' a n L := by
 refine ⟨h.1, fun hn => ?_⟩
 obtain ⟨b, off, e, hlt, hc⟩ := h.2 hn
 refine ⟨b, off, e, Nat.lt_of_lt_of_le hlt hb.size, fun i hi => ?_⟩
 obtain ⟨t, T, h0, h1, h2⟩ := hc i hi
 exact ⟨t, T, h0, h1.below hb, fun j v hj => keep_cell hb (h2 j v hj)⟩
theorem ImV.Is.below {w w' : World} {x : ImV} {m : ImP} (h : x.Is w m) (hb : Below w.heap.size w w') : x.Is w' m := by
 obtain ⟨h1, h2, h3, h4, h5, h6, h7⟩ := h
 exact ⟨h1, h2, h3, h4, h5.below hb, ⟨h6.1.below hb, h6.2⟩, ⟨h7.1.below hb, h7.2⟩⟩
theorem Row.item {w : World} {a : Option Addr} {n k : Nat} {l : List Int} (h : Row w a n l) (hk : k < n) : ∃ b off x, a = some ⟨b, off, none⟩ ∧ b < w.heap.size ∧ l[k]? = some x ∧ w.cell? ⟨b, off + k, none⟩ = some (.int .i64 x) := by
 obtain ⟨b, off, e, hlt, hc⟩ := h.2 (by omega)
 have hl : k < l.length := by have := h.1; omega
 refine ⟨b, off, l.getD k 0, e, hlt, ?_, hc k hk⟩
 simp [hl]
theorem RowR.item {w : World} {a : Option Addr} {n k : Nat} {L : List (List Int)} (h : RowR w a n L) (hk : k < n) :
  ∃ b off a' n' c' l, a = some ⟨b, off, none⟩ ∧ b < w.heap.size ∧ L[k]? = some l ∧ w.cell? ⟨b, off + k, none⟩ = some (.slice a' n' c') ∧ Row w a' n' l ∧ n' ≤ 140737488355328 := by
 obtain ⟨b, off, e, hlt, hc⟩ := h.2 (by omega)
 obtain ⟨s, h1, h2, h3⟩ := hc k hk
 have hl : k < L.length := by have := h.1; omega
 exact ⟨b, off, s.a, s.n, s.c, _, e, hlt, by simp [hl], h1, h2, h3⟩
theorem RowT.item {w W : World} {a : Option Addr} {n k : Nat} {L : List TkP} (h : RowT w a n L) (hb : Below w.heap.size w W) (hk : k < n) :
  ∃ b off T ba bn bc oa on oc ca cn cc, a = some ⟨b, off, none⟩ ∧ b < w.heap.size ∧ L[k]? = some T ∧ (Row w ba bn T.bl ∧ bn ≤ 140737488355328) ∧ (Row w oa on T.ou ∧ on ≤ 140737488355328) ∧ (RowI w ca cn T.co ∧ cn ≤ 140737488355328) ∧
   W.cell? ⟨b, off + k * 7, none⟩ = some (.int .i64 T.pr) ∧ W.cell? ⟨b, off + k * 7 + 1, none⟩ = some (.int .i64 T.pe) ∧ W.cell? ⟨b, off + k * 7 + 2, none⟩ = some (.int .i64 T.de) ∧ W.cell? ⟨b, off + k * 7 + 3, none⟩ = some (.int .i64 T.ji) ∧
   W.cell? ⟨b, off + k * 7 + 4, none⟩ = some (.slice ba bn bc) ∧ W.cell? ⟨b, off + k * 7 + 5, none⟩ = some (.slice oa on oc) ∧ W.cell? ⟨b, off + k * 7 + 6, none⟩ = some (.slice ca cn cc) := by
 obtain ⟨b, off, e, hlt, hc⟩ := h.2 (by omega)
 obtain ⟨t, T, h0, ⟨k1, k2, k3, k4, k5, k6, k7⟩, h2⟩ := hc k hk
 have c1 := keep_cell hb (h2 0 _ rfl)
 have c2 := keep_cell hb (h2 1 _ rfl)
 have c3 := keep_cell hb (h2 2 _ rfl)
 have c4 := keep_cell hb (h2 3 _ rfl)
 rw [k1] at c1
 rw [k2] at c2
 rw [k3] at c3
 rw [k4] at c4
 exact ⟨b, off, T, _, _, _, _, _, _, _, _, _, e, hlt, h0, k5, k6, k7, c1, c2, c3, c4, keep_cell hb (h2 4 _ rfl), keep_cell hb (h2 5 _ rfl), keep_cell hb (h2 6 _ rfl)⟩
theorem take_cons_drop {α : Type} {l : List α} {k : Nat} {x : α} (h : l[k]? = some x) : l.drop k = x :: l.drop (k + 1) := by
 obtain ⟨hk, e⟩ := List.getElem?_eq_some_iff.1 h
 rw [List.drop_eq_getElem_cons hk, e]
theorem take_cat {α : Type} {l : List α} {k : Nat} {x : α} (h : l[k]? = some x) : l.take (k + 1) = l.take k ++ [x] := by
 obtain ⟨hk, e⟩ := List.getElem?_eq_some_iff.1 h
 rw [List.take_succ_eq_append_getElem hk, e]
theorem inside_any (n lo hi : Int) (w : World) : Calls Tryz.prog 129 #[.int .i64 n, .int .i64 lo, .int .i64 hi] w fun e w' => e = .returned (.bool (inB n lo hi)) ∧ w = w' := by
 by_cases h : lo ≤ n
 ·obtain ⟨z, hz⟩ : ∃ z, z = decide (n ≤ hi) := ⟨_, rfl⟩
  have e : inB n lo hi = z := by unfold inB; rw [decide_eq_true h, hz]; rfl
  rw [e]
  have d : decide (lo ≤ n) = true := decide_eq_true h
  cases z
  all_goals
   have hz2 := hz.symm
   clear hz e
   go_enter Tryz.func129, Tryz.ntmps129
   go_wp2
   go_ret
   exact ⟨rfl, rfl⟩
 ·have e : inB n lo hi = false := inB_f (by omega)
  rw [e]
  have d : decide (lo ≤ n) = false := decide_eq_false h
  go_enter Tryz.func129, Tryz.ntmps129
  go_wp2
  go_ret
  exact ⟨rfl, rfl⟩
theorem numbers_any (a b c d : Int) (s t u : Sl) (w : World) : Calls Tryz.prog 59 #[.agg #[.int .i64 a, .int .i64 b, .int .i64 c, .int .i64 d, .slice s.a s.n s.c, .slice t.a t.n t.c, .slice u.a u.n u.c]] w fun e w' => e = .returned (.agg #[.int .i64 a, .int .i64 b, .int .i64 c, .int .i64 d]) ∧ Below w.heap.size w w' := by
 go_enter Tryz.func59, Tryz.ntmps59
 go_wp2
 refine bodyPost_ret (v := .agg #[.int .i64 a, .int .i64 b, .int .i64 c, .int .i64 d]) (by simp [results, Tryz.results59, go_sem]) rfl ⟨rfl, ?_⟩
 exact ((Below.refl _ _).alloc (Nat.le_refl _) _).alloc (by simp) _
theorem tnumbers_any (a b c d : Int) (s t u : Sl) (w : World) : Calls Tryz.prog 105 #[.agg #[.int .i64 a, .int .i64 b, .int .i64 c, .int .i64 d, .slice s.a s.n s.c, .slice t.a t.n t.c, .slice u.a u.n u.c]] w fun e w' => e = .returned (.agg #[.int .i64 a, .int .i64 b, .int .i64 c, .int .i64 d]) ∧ Below w.heap.size w w' := by
 go_enter Tryz.func105, Tryz.ntmps105
 go_wp2
 refine bodyPost_ret (v := .agg #[.int .i64 a, .int .i64 b, .int .i64 c, .int .i64 d]) (by simp [results, Tryz.results105, go_sem]) rfl ⟨rfl, ?_⟩
 exact ((Below.refl _ _).alloc (Nat.le_refl _) _).alloc (by simp) _
theorem rightNums_any (a b c d : Int) (w : World) (r : Bool) (hr : (inB a 0 100 && (inB b 1 100 && (inB c 1 100 && (inB d 0 16)))) = r) : Calls Tryz.prog 87 #[.agg #[.int .i64 a, .int .i64 b, .int .i64 c, .int .i64 d]] w fun e w' => e = .returned (.bool r) ∧ Below w.heap.size w w' := by
 rcases Bool.eq_false_or_eq_true (inB a 0 100) with h0 | h0
 rotate_left
 ·simp only [h0, Bool.false_and] at hr
  subst hr
  go_enter Tryz.func87, Tryz.ntmps87
  go_wp2_with (refine (inside_any _ _ _ _).mono ?_; rintro e w' ⟨rfl, rfl⟩)
  go_ret
  exact ⟨rfl, (Below.refl _ _).alloc (Nat.le_refl _) _⟩
 simp only [h0, Bool.true_and] at hr
 rcases Bool.eq_false_or_eq_true (inB b 1 100) with h1 | h1
 rotate_left
 ·simp only [h1, Bool.false_and] at hr
  subst hr
  go_enter Tryz.func87, Tryz.ntmps87
  go_wp2_with (refine (inside_any _ _ _ _).mono ?_; rintro e w' ⟨rfl, rfl⟩)
  go_ret
  exact ⟨rfl, (Below.refl _ _).alloc (Nat.le_refl _) _⟩
 simp only [h1, Bool.true_and] at hr
 rcases Bool.eq_false_or_eq_true (inB c 1 100) with h2 | h2
 rotate_left
 ·simp only [h2, Bool.false_and] at hr
  subst hr
  go_enter Tryz.func87, Tryz.ntmps87
  go_wp2_with (refine (inside_any _ _ _ _).mono ?_; rintro e w' ⟨rfl, rfl⟩)
  go_ret
  exact ⟨rfl, (Below.refl _ _).alloc (Nat.le_refl _) _⟩
 simp only [h2, Bool.true_and] at hr
 go_enter Tryz.func87, Tryz.ntmps87
 go_wp2_with (refine (inside_any _ _ _ _).mono ?_; rintro e w' ⟨rfl, rfl⟩)
 go_ret
 exact ⟨by first | rfl | rw [hr], (Below.refl _ _).alloc (Nat.le_refl _) _⟩
theorem rightTkNums_any (a b c d : Int) (w : World) (r : Bool) (hr : (inB a 1 100 && (inB b 1 1048576 && (inB c 1 b && (inB d 0 1048576)))) = r) : Calls Tryz.prog 130 #[.agg #[.int .i64 a, .int .i64 b, .int .i64 c, .int .i64 d]] w fun e w' => e = .returned (.bool r) ∧ Below w.heap.size w w' := by
 rcases Bool.eq_false_or_eq_true (inB a 1 100) with h0 | h0
 rotate_left
 ·simp only [h0, Bool.false_and] at hr
  subst hr
  go_enter Tryz.func130, Tryz.ntmps130
  go_wp2_with (refine (inside_any _ _ _ _).mono ?_; rintro e w' ⟨rfl, rfl⟩)
  go_ret
  exact ⟨rfl, (Below.refl _ _).alloc (Nat.le_refl _) _⟩
 simp only [h0, Bool.true_and] at hr
 rcases Bool.eq_false_or_eq_true (inB b 1 1048576) with h1 | h1
 rotate_left
 ·simp only [h1, Bool.false_and] at hr
  subst hr
  go_enter Tryz.func130, Tryz.ntmps130
  go_wp2_with (refine (inside_any _ _ _ _).mono ?_; rintro e w' ⟨rfl, rfl⟩)
  go_ret
  exact ⟨rfl, (Below.refl _ _).alloc (Nat.le_refl _) _⟩
 simp only [h1, Bool.true_and] at hr
 rcases Bool.eq_false_or_eq_true (inB c 1 b) with h2 | h2
 rotate_left
 ·simp only [h2, Bool.false_and] at hr
  subst hr
  go_enter Tryz.func130, Tryz.ntmps130
  go_wp2_with (refine (inside_any _ _ _ _).mono ?_; rintro e w' ⟨rfl, rfl⟩)
  go_ret
  exact ⟨rfl, (Below.refl _ _).alloc (Nat.le_refl _) _⟩
 simp only [h2, Bool.true_and] at hr
 go_enter Tryz.func130, Tryz.ntmps130
 go_wp2_with (refine (inside_any _ _ _ _).mono ?_; rintro e w' ⟨rfl, rfl⟩)
 go_ret
 exact ⟨by first | rfl | rw [hr], (Below.refl _ _).alloc (Nat.le_refl _) _⟩
end Go.Proofs.YtngehojibcmieaaGreatDoor
end
end
