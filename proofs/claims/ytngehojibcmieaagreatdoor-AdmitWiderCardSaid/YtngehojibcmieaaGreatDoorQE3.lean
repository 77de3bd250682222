/- What is proved here: small facts on memory; how rows of tasks' numbers lie in memory, and such rows that a call owns. Conditions: none beyond those each theorem states. laws for a region whose operations may come in any order, some of them calls, the last one a store: what is told of each one's value, and of the world, holds at the end. Conditions: those each theorem states. a law for a region whose operations may come in any order: those that change memory come one behind the other, the last one behind all. Conditions: those the theorem states. -/
import Derived.Test.YtngehojibcmieaaGreatDoorQE2
import Derived.Lib.Builder
import Derived.Lib.SlFresh
import Derived.Maps.AppendAt
import Derived.OneCell
import Derived.BigFrame
import Derived.Orders
section
namespace Go.Proofs.YtngehojibcmieaaGreatDoor.Kd
open Go.ChangeShapes Go.WideShapes Go.RowKit
theorem keep_cell {W w9 : World} {p : Addr} {v : Value} (hb : Below W.heap.size W w9) (h : W.cell? p = some v) : w9.cell? p = some v := (hb.cell (cell_lt h)).trans h
theorem new_block (w : World) (o : Obj) : (w.alloc o).heap[w.heap.size]? = some o := Go.Deep.blk_alloc_new _ _
theorem cells_new (w : World) (cs : Array Value) (t : TypeId) (j : Nat) (v : Value) (h : cs.toList[j]? = some v) : (w.alloc (.cells cs t)).cell? ⟨w.heap.size, j, none⟩ = some v := by
 have := Lib.cell_of_heap (new_block w (.cells cs t)) j
 rw [this]
 simpa using h
theorem take_cons_drop {α : Type} {l : List α} {k : Nat} {x : α} (h : l[k]? = some x) : l.drop k = x :: l.drop (k + 1) := by
 obtain ⟨hk, e⟩ := List.getElem?_eq_some_iff.1 h
 rw [List.drop_eq_getElem_cons hk, e]
theorem take_cat {α : Type} {l : List α} {k : Nat} {x : α} (h : l[k]? = some x) : l.take (k + 1) = l.take k ++ [x] := by
 obtain ⟨hk, e⟩ := List.getElem?_eq_some_iff.1 h
 rw [List.take_succ_eq_append_getElem hk, e]
theorem all_step {α : Type} {f : α → Bool} {l : List α} {k : Nat} {x : α} (h : l[k]? = some x) : (l.drop k).all f = (f x && (l.drop (k + 1)).all f) := by
 rw [take_cons_drop h]; rfl
theorem Row.item {w : World} {a : Option Addr} {n k : Nat} {l : List Int} (h : Row w a n l) (hk : k < n) : ∃ b off x, a = some ⟨b, off, none⟩ ∧ b < w.heap.size ∧ l[k]? = some x ∧ w.cell? ⟨b, off + k, none⟩ = some (.int .i64 x) := by
 obtain ⟨b, off, e, hlt, hc⟩ := h.2 (by omega)
 have hl : k < l.length := by have := h.1; omega
 refine ⟨b, off, l.getD k 0, e, hlt, ?_, hc k hk⟩
 simp [hl]
theorem add_plain' (b off j : Nat) : (⟨b, off, none⟩ : Addr).add j = ⟨b, off + j, none⟩ := by
 unfold Addr.add
 split
 ·simp
 ·rfl
theorem info_parts {i : Option TypeInfo} {z : Value} {s b : Nat} (h : i.map (fun i => (i.zero, i.size, i.bytes)) = some (some z, s, b)) : ∃ j, i = some j ∧ j.zero = some z ∧ j.size = s ∧ j.bytes = b := by
 obtain ⟨j, hj, e⟩ := Option.map_eq_some_iff.1 h
 simp only [Prod.mk.injEq] at e
 exact ⟨j, hj, e.1, e.2.1, e.2.2⟩
theorem own_keep {w w' : World} {base e size : Nat} {v : Value} {m : Nat} {xs : List Value} (h : w.ownsRow base e size v m xs) (hb : Below w.heap.size w w') : w'.ownsRow base e size v m xs :=
 h.kept (row := none) ⟨hb.os, hb.tape, hb.output, hb.size, fun i hi _ => hb.block i hi⟩ (by
  cases h : v.ownBlock with
  | none => exact Or.inl rfl
  | some _ => exact Or.inr (by simp))
theorem int_info : (Tryz.prog.info? 3).map (fun i => (i.zero, i.size, i.bytes)) = some (some (.int .i64 0), 1, 8) := by kernel_rfl
def One (w : World) (b : Nat) (cs : List Value) (W : World) : Prop := Below w.heap.size w W ∧ ∀ j v, cs[j]? = some v → W.cell? ⟨b, j, none⟩ = some v
theorem One.keep {w W W' : World} {b : Nat} {cs : List Value} (h : One w b cs W) (hb : Below W.heap.size W W') : One w b cs W' := ⟨keep_below h.1 hb, fun j v hj => keep_cell hb (h.2 j v hj)⟩
theorem One.new (w : World) (cs : Array Value) (t : TypeId) : One w w.heap.size cs.toList (w.alloc (.cells cs t)) := ⟨below_alloc _ _, cells_new w cs t⟩
def rtC (r : RtR) : List Value := [.int .i64 r.C, .int .i64 r.B, .int .i64 r.T, .int .i64 r.D, .int .i64 r.J, .int .i64 r.P]
def RowS (w : World) (a : Option Addr) (n : Nat) (L : List RtR) : Prop :=
 n = L.length ∧ (0 < n → ∃ b off, a = some ⟨b, off, none⟩ ∧ b < w.heap.size ∧ ∀ i, i < n → ∃ r, L[i]? = some r ∧ ∀ j v, (rtC r)[j]? = some v → w.cell? ⟨b, off + i * 6 + j, none⟩ = some v)
theorem RowS.below {w w' : World} {a : Option Addr} {n : Nat} {L : List RtR} (h : RowS w a n L) (hb : Below w.heap.size w w') : RowS w' a n L := by
 refine ⟨h.1, fun hn => ?_⟩
 obtain ⟨b, off, e, hlt, hc⟩ := h.2 hn
 refine ⟨b, off, e, Nat.lt_of_lt_of_le hlt hb.size, fun i hi => ?_⟩
 obtain ⟨r, h0, h2⟩ := hc i hi
 exact ⟨r, h0, fun j v hj => keep_cell hb (h2 j v hj)⟩
theorem RowS.nil (w : World) (a : Option Addr) : RowS w a 0 [] := ⟨rfl, fun h => absurd h (by omega)⟩
theorem RowS.item {w W : World} {a : Option Addr} {n k : Nat} {L : List RtR} (h : RowS w a n L) (hb : Below w.heap.size w W) (hk : k < n) :
  ∃ b off r, a = some ⟨b, off, none⟩ ∧ b < w.heap.size ∧ L[k]? = some r ∧
   W.cell? ⟨b, off + k * 6, none⟩ = some (.int .i64 r.C) ∧ W.cell? ⟨b, off + k * 6 + 1, none⟩ = some (.int .i64 r.B) ∧ W.cell? ⟨b, off + k * 6 + 2, none⟩ = some (.int .i64 r.T) ∧
   W.cell? ⟨b, off + k * 6 + 3, none⟩ = some (.int .i64 r.D) ∧ W.cell? ⟨b, off + k * 6 + 4, none⟩ = some (.int .i64 r.J) ∧ W.cell? ⟨b, off + k * 6 + 5, none⟩ = some (.int .i64 r.P) := by
 obtain ⟨b, off, e, hlt, hc⟩ := h.2 (by omega)
 obtain ⟨r, h0, h2⟩ := hc k hk
 exact ⟨b, off, r, e, hlt, h0, keep_cell hb (h2 0 _ rfl), keep_cell hb (h2 1 _ rfl), keep_cell hb (h2 2 _ rfl), keep_cell hb (h2 3 _ rfl), keep_cell hb (h2 4 _ rfl), keep_cell hb (h2 5 _ rfl)⟩
def rsC (L : List RtR) : List Value := L.flatMap rtC
theorem rsC_snoc (L : List RtR) (r : RtR) : rsC (L ++ [r]) = rsC L ++ rtC r := by simp [rsC]
theorem rsC_len (L : List RtR) : (rsC L).length = L.length * 6 := by
 induction L with
 | nil => rfl
 | cons x l ih => simp only [rsC, List.flatMap_cons, List.length_append, List.length_cons, rtC, List.length_nil] at ih ⊢; omega
theorem rsC_at (L : List RtR) (i j : Nat) (r : RtR) (h : L[i]? = some r) (hj : j < 6) : (rsC L)[i * 6 + j]? = (rtC r)[j]? := by
 induction L generalizing i with
 | nil => simp at h
 | cons x l ih =>
  have e : rsC (x :: l) = rtC x ++ rsC l := rfl
  rw [e]
  rcases i with _ | i
  ·simp at h
   subst h
   rw [List.getElem?_append_left (by show 0 * 6 + j < 6; omega)]
   rw [show 0 * 6 + j = j by omega]
  ·rw [List.getElem?_append_right (by show 6 ≤ (i + 1) * 6 + j; omega)]
   rw [show (i + 1) * 6 + j - (rtC x).length = i * 6 + j by show (i + 1) * 6 + j - 6 = _; omega]
   exact ih i (by simpa using h)
theorem rtC_cell (r : RtR) : ∀ u ∈ rtC r, u.oneCell' = true := by
 intro u hu
 simp [rtC] at hu
 rcases hu with rfl | rfl | rfl | rfl | rfl | rfl <;> rfl
theorem RowS.own {w : World} {base e : Nat} {v : Value} {m : Nat} {L : List RtR} (h : w.ownsRow base e 6 v m (rsC L)) : ∃ a c, v = .slice a m c ∧ m = L.length ∧ RowS w a m L := by
 have hl := h.1
 rw [rsC_len] at hl
 have hm : m = L.length := by omega
 rcases h.2 with ⟨h1, h2⟩ | ⟨g, cap, cur, h1, h2, h3, h4⟩
 ·subst h2
  exact ⟨none, 0, h1, hm, ⟨hm, fun h => absurd h (by omega)⟩⟩
 ·subst h1
  have hlt := h.lt g rfl
  refine ⟨_, cap, rfl, hm, ⟨hm, fun _ => ⟨g, 0, rfl, hlt.2, fun i hi2 => ?_⟩⟩⟩
  have hiv : i < L.length := by omega
  refine ⟨L[i], List.getElem?_eq_getElem hiv, fun j x hj => ?_⟩
  have hj6 : j < 6 := (List.getElem?_eq_some_iff.1 hj).1
  have := rsC_at L i j _ (List.getElem?_eq_getElem hiv) hj6
  rw [show 0 + i * 6 + j = i * 6 + j by omega, h.cellAt (i * 6 + j) (by omega), this]
  exact hj
theorem rrow_info : (Tryz.prog.info? 81).map (fun i => (i.zero, i.size, i.bytes)) = some (some (.agg #[.int .i64 0, .int .i64 0, .int .i64 0, .int .i64 0, .int .i64 0, .int .i64 0]), 6, 48) := by kernel_rfl
def unlB (listed : Array Bool) : Nat := listed.toList.countP (fun x => !x)
theorem unlB_set {listed : Array Bool} {i : Nat} (h : listed.getD i true = false) : unlB (listed.setIfInBounds i true) + 1 = unlB listed := by
 have hi : i < listed.size := by
  rcases Nat.lt_or_ge i listed.size with h' | h'
  ·exact h'
  ·simp [Array.getElem?_eq_none h'] at h
 have hv : listed[i] = false := by simpa [hi] using h
 unfold unlB
 rw [Array.toList_setIfInBounds]
 have e : listed.toList = listed.toList.take i ++ listed[i] :: listed.toList.drop (i + 1) := by
  have := List.take_append_drop i listed.toList
  rw [List.drop_eq_getElem_cons (by simpa using hi)] at this
  simpa using this.symm
 rw [List.set_eq_take_append_cons_drop, if_pos (by simpa using hi)]
 rw [List.countP_append, List.countP_cons]
 conv => rhs; rw [e, List.countP_append, List.countP_cons, hv]
 simp
 omega
theorem unlB_zero {listed : Array Bool} (h : unlB listed = 0) (i : Nat) : listed.getD i true = true := by
 unfold unlB at h
 rw [List.countP_eq_zero] at h
 rcases Nat.lt_or_ge i listed.size with h' | h'
 ·have := h listed[i] (by simp)
  simpa [h'] using this
 ·simp [Array.getElem?_eq_none h']
theorem wpAny_inv {P : Program} {md : Region.Mode} {ops : Array Oper} {Q : Exit → Act → World → Prop} (I : Array Bool → Act → World → Prop)
  (hdep : ∀ (i : Nat) o, ops[i]? = some o → ∀ e ∈ o.after, e.on < i)
  (hend : ∀ listed a w, (∀ i : Nat, listed.getD i true = true) → I listed a w → Q .normal a w)
  (hstep : ∀ (listed : Array Bool) a w (i : Nat) o, ops[i]? = some o → listed.getD i true = false → (∀ e ∈ o.after, Region.binds md e = true → listed.getD e.on false = true) → I listed a w →
   o.guard = none ∧ o.wp P a w (I (listed.setIfInBounds i true)) Q) :
  ∀ (fuel : Nat) (listed : Array Bool) (a : Act) (w : World), listed.size = ops.size → unlB listed ≤ fuel → I listed a w → wpAny P md ops Q fuel listed a w := by
 have hall : ∀ listed : Array Bool, listed.size = ops.size → Region.ready md ops listed = [] → ∀ i : Nat, listed.getD i true = true := by
  intro listed hsz hr i
  induction i using Nat.strongRecOn with
  | ind i ih =>
   cases h : listed.getD i true
   ·exfalso
    have hi : i < listed.size := by
     rcases Nat.lt_or_ge i listed.size with h' | h'
     ·exact h'
     ·simp [Array.getElem?_eq_none h'] at h
    obtain ⟨o, ho⟩ : ∃ o, ops[i]? = some o := ⟨ops[i]'(by omega), by simp [← hsz, hi]⟩
    have : i ∈ Region.ready md ops listed := mem_ready.2 ⟨h, o, ho, fun e he _ => by
     have h1 := hdep i o ho e he
     have h2 := ih e.on h1
     have h3 : e.on < listed.size := by omega
     simpa [h3] using h2⟩
    rw [hr] at this; simp at this
   ·rfl
 intro fuel
 induction fuel with
 | zero =>
  intro listed a w hsz hu hI
  have ha := unlB_zero (Nat.le_zero.1 hu)
  refine ⟨?_, hend listed a w ha hI⟩
  cases hr : Region.ready md ops listed with
  | nil => rfl
  | cons x r =>
   have := (mem_ready.1 (show x ∈ Region.ready md ops listed by rw [hr]; simp)).1
   rw [ha x] at this; cases this
 | succ fuel ih =>
  intro listed a w hsz hu hI
  refine ⟨fun hr => hend listed a w (hall listed hsz hr) hI, fun i hi => ?_⟩
  obtain ⟨h0, o, ho, hd⟩ := mem_ready.1 hi
  obtain ⟨hg, hw⟩ := hstep listed a w i o ho h0 hd hI
  unfold wpOp
  rw [ho]
  have hwant : Region.wanted o (yielded ops a.tmps) = true := by unfold Region.wanted; rw [hg]
  simp only [hwant, if_true]
  refine Or.inl (Oper.wp_mono (fun a' w' h => ih _ a' w' (by simpa using hsz) ?_ h) hw)
  have := unlB_set h0
  omega
theorem size_put (a : Act) (d : Option Nat) (v : Value) : (a.put d v).tmps.size = a.tmps.size := by
 unfold Act.put; cases d <;> simp
theorem defs_put (a : Act) (d : Option Nat) (v : Value) : (a.put d v).defers = a.defers := by
 unfold Act.put; cases d <;> rfl
theorem getD_set_ne {listed : Array Bool} {i j : Nat} (d : Bool) (h : i ≠ j) : (listed.setIfInBounds i true).getD j d = listed.getD j d := by
 simp only [Array.getD_eq_getD_getElem?, Array.getElem?_setIfInBounds_ne h]
theorem listed_of {listed : Array Bool} {i j : Nat} (h : (listed.setIfInBounds i true).getD j true = true) (hij : j ≠ i) : listed.getD j true = true := by
 rw [getD_set_ne true (Ne.symm hij)] at h; exact h
theorem listed_true {listed : Array Bool} {i : Nat} (h : listed.getD i false = true) : listed.getD i true = true := by
 rcases Nat.lt_or_ge i listed.size with h' | h'
 ·simpa [h'] using h
 ·simp [Array.getElem?_eq_none h']
theorem act_ext {a a' : Act} (hd : a.defers = a'.defers) (hs : a.tmps.size = a'.tmps.size) (h : ∀ k, k < a.tmps.size → a.eval (.tmp k) = a'.eval (.tmp k)) : a = a' := by
 obtain ⟨t, d⟩ := a
 obtain ⟨t', d'⟩ := a'
 simp only at hd hs
 subst hd
 congr 1
 apply Array.ext hs
 intro i h1 h2
 have := h i h1
 unfold Act.eval at this
 simpa [h1, h2] using this
theorem wpAny_inv2 {P : Program} {md : Region.Mode} {ops : Array Oper} {Q : Exit → Act → World → Prop} (I : Array Bool → Act → World → Prop)
  (hdep : ∀ (i : Nat) o, ops[i]? = some o → ∀ e ∈ o.after, Region.binds md e = true → e.on < i)
  (hend : ∀ listed a w, (∀ i : Nat, listed.getD i true = true) → I listed a w → Q .normal a w)
  (hstep : ∀ (listed : Array Bool) a w (i : Nat) o, ops[i]? = some o → listed.getD i true = false → (∀ e ∈ o.after, Region.binds md e = true → listed.getD e.on false = true) → I listed a w →
   (if Region.wanted o (yielded ops a.tmps) = true then o.wp P a w (I (listed.setIfInBounds i true)) Q else I (listed.setIfInBounds i true) (a.put o.dst undef) w)) :
  ∀ (fuel : Nat) (listed : Array Bool) (a : Act) (w : World), listed.size = ops.size → unlB listed ≤ fuel → I listed a w → wpAny P md ops Q fuel listed a w := by
 have hall : ∀ listed : Array Bool, listed.size = ops.size → Region.ready md ops listed = [] → ∀ i : Nat, listed.getD i true = true := by
  intro listed hsz hr i
  induction i using Nat.strongRecOn with
  | ind i ih =>
   cases h : listed.getD i true
   ·exfalso
    have hi : i < listed.size := by
     rcases Nat.lt_or_ge i listed.size with h' | h'
     ·exact h'
     ·simp [Array.getElem?_eq_none h'] at h
    obtain ⟨o, ho⟩ : ∃ o, ops[i]? = some o := ⟨ops[i]'(by omega), by simp [← hsz, hi]⟩
    have : i ∈ Region.ready md ops listed := mem_ready.2 ⟨h, o, ho, fun e he hb => by
     have h1 := hdep i o ho e he hb
     have h2 := ih e.on h1
     have h3 : e.on < listed.size := by omega
     simpa [h3] using h2⟩
    rw [hr] at this; simp at this
   ·rfl
 intro fuel
 induction fuel with
 | zero =>
  intro listed a w hsz hu hI
  have ha := unlB_zero (Nat.le_zero.1 hu)
  refine ⟨?_, hend listed a w ha hI⟩
  cases hr : Region.ready md ops listed with
  | nil => rfl
  | cons x r =>
   have := (mem_ready.1 (show x ∈ Region.ready md ops listed by rw [hr]; simp)).1
   rw [ha x] at this; cases this
 | succ fuel ih =>
  intro listed a w hsz hu hI
  refine ⟨fun hr => hend listed a w (hall listed hsz hr) hI, fun i hi => ?_⟩
  obtain ⟨h0, o, ho, hd⟩ := mem_ready.1 hi
  have hw := hstep listed a w i o ho h0 hd hI
  have hle : unlB (listed.setIfInBounds i true) ≤ fuel := by have := unlB_set h0; omega
  unfold wpOp
  rw [ho]
  simp only
  cases hwt : Region.wanted o (yielded ops a.tmps)
  ·rw [hwt] at hw
   simp only [Bool.false_eq_true, if_false] at hw ⊢
   exact ih _ _ w (by simpa using hsz) hle hw
  ·rw [hwt] at hw
   simp only [if_true] at hw ⊢
   exact Or.inl (Oper.wp_mono (fun a' w' h => ih _ a' w' (by simpa using hsz) hle h) hw)
def Gives (P : Program) (o : Oper) (ρ : Operand → Value) (w : World) (R : Value → World → Prop) : Prop :=
 (∃ v w', (execOp ρ o).run P w = .ok (.value v) w' ∧ R v w') ∨ (∃ f args, (execOp ρ o).run P w = .ok (.enter f args) w ∧ Calls P f args w fun e w' => ∃ v, e = .returned v ∧ R v w')
theorem Gives.val {P : Program} {o : Oper} {ρ : Operand → Value} {w w' : World} {R : Value → World → Prop} {v : Value} (h : (execOp ρ o).run P w = .ok (.value v) w') (r : R v w') : Gives P o ρ w R := Or.inl ⟨v, w', h, r⟩
theorem Gives.enter {P : Program} {o : Oper} {ρ : Operand → Value} {w : World} {R : Value → World → Prop} {f : FuncId} {args : Array Value} (h : (execOp ρ o).run P w = .ok (.enter f args) w) (c : Calls P f args w fun e w' => ∃ v, e = .returned v ∧ R v w') : Gives P o ρ w R := Or.inr ⟨f, args, h, c⟩
theorem Gives.wp {P : Program} {o : Oper} {a : Act} {w : World} {R : Value → World → Prop} {K : Act → World → Prop} {Q : Exit → Act → World → Prop} (h : Gives P o a.eval w R) (hK : ∀ v w', R v w' → K (a.put o.dst v) w') : o.wp P a w K Q := by
 unfold Oper.wp
 rcases h with ⟨v, w', h1, h2⟩ | ⟨f, args, h1, h2⟩
 ·rw [h1]; exact hK v w' h2
 ·rw [h1, Oper.upon_enter]
  refine h2.mono fun e w' he => ?_
  obtain ⟨v, rfl, hr⟩ := he
  exact hK v w' hr
structure RegI (T n : Nat) (dst : Nat → Nat) (ok : Nat → Value → Prop) (S : World → Prop) (a0 : Act) (listed : Array Bool) (a : Act) (w : World) : Prop where
 size : a.tmps.size = T
 defs : a.defers = a0.defers
 lsz : listed.size = n
 vals : ∀ i, i < n → listed.getD i true = true → ok i (a.eval (.tmp (dst i)))
 oth : ∀ k, (∀ i, i < n → dst i ≠ k) → a.eval (.tmp k) = a0.eval (.tmp k)
 s : S w
theorem eval_at {a : Act} {k : Nat} (h : k < a.tmps.size) : a.tmps[k]? = some (a.eval (.tmp k)) := by
 unfold Act.eval
 simp [h]
theorem eval_put_other {a : Act} {d k : Nat} (v : Value) (h : d ≠ k) : (a.put (some d) v).eval (.tmp k) = a.eval (.tmp k) := by
 unfold Act.eval Act.put
 simp [h]
theorem eval_put_same {a : Act} {d : Nat} (v : Value) (h : d < a.tmps.size) : (a.put (some d) v).eval (.tmp d) = v := by
 unfold Act.eval Act.put
 simp [h]
theorem region_ok {P : Program} {id : Nat} {ops : Array Oper} {Q : Exit → Act → World → Prop} {a : Act} {w : World} (T n : Nat) (dst : Nat → Nat) (dep : Nat → List Nat) (ok : Nat → Value → Prop) (S : World → Prop)
  (hm : P.follows .mixedOrders = true) (hn : ops.size = n) (hinj : ∀ i j, i < n → j < n → dst i = dst j → i = j) (h0 : ∀ i, i < n → dst i < T) (hT : a.tmps.size = T)
  (hg : ∀ (i : Nat) o, ops[i]? = some o → o.dst = some (dst i) ∧ (∀ d ∈ dep i, d < i ∧ ∃ e ∈ o.after, e.on = d ∧ Region.binds .any e = true) ∧ ∀ e ∈ o.after, Region.binds .any e = true → e.on < i)
  (hx : ∀ (i : Nat) o, ops[i]? = some o → ∀ (a' : Act) w', S w' → (∀ k, (∀ i, i < n → dst i ≠ k) → a'.eval (.tmp k) = a.eval (.tmp k)) → (∀ j ∈ dep i, ok j (a'.eval (.tmp (dst j)))) →
   (o.guard = none ∧ Gives P o a'.eval w' fun v w'' => ok i v ∧ S w'') ∨
   (∃ j b c, o.guard = some (j, b) ∧ j ∈ dep i ∧ a'.eval (.tmp (dst j)) = .bool c ∧ (c = b → Gives P o a'.eval w' fun v w'' => ok i v ∧ S w'') ∧ (c ≠ b → ok i undef)))
  (hS : S w.drew)
  (hQ : ∀ a' w', a'.tmps.size = T → a'.defers = a.defers → (∀ k, (∀ i, i < n → dst i ≠ k) → a'.eval (.tmp k) = a.eval (.tmp k)) → (∀ i, i < n → ok i (a'.eval (.tmp (dst i)))) → S w' → Q .normal a' w') :
  (Code.region id ops true).wp P Q a w := by
 refine wp_region_any hm (wpAny_inv2 (I := RegI T n dst ok S a) ?_ ?_ ?_ ops.size _ a _ (by simp) ?_ ?_)
 ·intro i o ho e he hb
  exact (hg i o ho).2.2 e he hb
 ·intro listed a' w' hall h
  exact hQ a' w' h.size h.defs h.oth (fun i hi => h.vals i hi (hall i)) h.s
 ·intro listed a' w' i o ho hl hdeps h
  obtain ⟨g1, g2, g3⟩ := hg i o ho
  have hi : i < n := by rw [← hn]; exact (Array.getElem?_eq_some_iff.1 ho).1
  have hd : ∀ j ∈ dep i, ok j (a'.eval (.tmp (dst j))) := by
   intro j hj
   obtain ⟨hji, e, he, h1, h2⟩ := g2 j hj
   exact h.vals j (by omega) (by rw [← h1]; exact listed_true (hdeps e he h2))
  have hdi := h0 i hi
  have put : ∀ v w'', ok i v ∧ S w'' → RegI T n dst ok S a (listed.setIfInBounds i true) (a'.put o.dst v) w'' := by
   intro v w'' ⟨e1, e2⟩
   rw [g1]
   refine ⟨by rw [size_put]; exact h.size, by rw [defs_put]; exact h.defs, by simpa using h.lsz, ?_, ?_, e2⟩
   ·intro j hj hjl
    by_cases e : j = i
    ·subst e; rw [eval_put_same _ (by rw [h.size]; exact hdi)]; exact e1
    ·rw [eval_put_other _ (fun e3 => e (hinj i j hi hj e3).symm)]; exact h.vals j hj (listed_of hjl e)
   ·intro k hk; rw [eval_put_other _ (hk i hi)]; exact h.oth k hk
  rcases hx i o ho a' w' h.s h.oth hd with ⟨x1, x2⟩ | ⟨j, b, c, x1, x2, x3, x4, x5⟩
  ·have hwant : Region.wanted o (yielded ops a'.tmps) = true := by unfold Region.wanted; rw [x1]
   rw [if_pos hwant]
   exact x2.wp put
  ·obtain ⟨hji, _⟩ := g2 j x2
   obtain ⟨oj, hoj⟩ : ∃ oj, ops[j]? = some oj := ⟨ops[j]'(by omega), by simp⟩
   have gj := (hg j oj hoj).1
   have hy : yielded ops a'.tmps j = some c := by
    unfold yielded
    rw [hoj]
    simp only [Option.bind_some, gj]
    rw [eval_at (by rw [h.size]; exact h0 j (by omega)), x3]
   have hwant : Region.wanted o (yielded ops a'.tmps) = (some c == some b) := by unfold Region.wanted; rw [x1]; simp only [hy]
   by_cases e : c = b
   ·rw [if_pos (by rw [hwant, e]; simp)]
    exact (x4 e).wp put
   ·rw [if_neg (by rw [hwant]; simpa using e)]
    exact put _ _ ⟨x5 e, h.s⟩
 ·unfold unlB
  have := List.countP_le_length (p := fun x => !x) (l := (Array.replicate ops.size false).toList)
  simpa using this
 ·refine ⟨hT, rfl, by simp [hn], ?_, fun _ _ => rfl, hS⟩
  intro i hi hl; simp [hn, hi] at hl
theorem act_mix {a a' : Act} {l : List Value} (lo n : Nat) (hl : a.tmps = l.toArray) (hs : a'.tmps.size = a.tmps.size) (hd : a'.defers = a.defers) (hn : lo + n ≤ l.length)
  (ho : ∀ k, (k < lo ∨ lo + n ≤ k) → a'.eval (.tmp k) = a.eval (.tmp k)) :
  ∃ us : List Value, us.length = n ∧ (∀ i, i < n → us.getD i undef = a'.eval (.tmp (lo + i))) ∧ a' = { tmps := (l.take lo ++ (us ++ l.drop (lo + n))).toArray, defers := a.defers } := by
 have hsl : a'.tmps.size = l.length := by rw [hs, hl]; simp
 refine ⟨(List.range n).map fun i => a'.eval (.tmp (lo + i)), by simp, fun i hi => by simp [hi], ?_⟩
 refine act_ext hd (by rw [hsl]; simp; omega) fun k hk => ?_
 have hk2 : k < l.length := by omega
 have e0 : ∀ (z : List Value) (b : Act), b.tmps = z.toArray → b.eval (.tmp k) = z.getD k undef := by
  intro z b hb; unfold Act.eval; rw [hb]; simp [List.getD_eq_getElem?_getD]
 refine Eq.trans ?_ (e0 (l.take lo ++ (((List.range n).map fun i => a'.eval (.tmp (lo + i))) ++ l.drop (lo + n))) { tmps := (l.take lo ++ (((List.range n).map fun i => a'.eval (.tmp (lo + i))) ++ l.drop (lo + n))).toArray, defers := a.defers } rfl).symm
 rw [List.getD_eq_getElem?_getD]
 by_cases h1 : k < lo
 ·rw [ho k (Or.inl h1), e0 l a hl, List.getElem?_append, if_pos (by rw [List.length_take]; omega), List.getElem?_take, if_pos h1, List.getD_eq_getElem?_getD]
 ·rw [List.getElem?_append, if_neg (by rw [List.length_take]; omega), List.length_take, Nat.min_eq_left (by omega)]
  by_cases h2 : k < lo + n
  ·rw [List.getElem?_append, if_pos (by rw [List.length_map, List.length_range]; omega), List.getElem?_map, List.getElem?_range (by omega)]
   show _ = a'.eval (.tmp (lo + (k - lo)))
   rw [show lo + (k - lo) = k by omega]
  ·rw [ho k (Or.inr (by omega)), e0 l a hl, List.getElem?_append, if_neg (by rw [List.length_map, List.length_range]; omega), List.length_map, List.length_range, List.getElem?_drop, List.getD_eq_getElem?_getD]
   rw [show lo + n + (k - lo - n) = k by omega]
theorem getD_set_same {listed : Array Bool} {i : Nat} : (listed.setIfInBounds i true).getD i true = true := by
 rcases Nat.lt_or_ge i listed.size with h | h
 ·simp [h]
 ·simp [h]
structure RegC (T N p : Nat) (mv dst : Nat → Nat) (dep : Nat → List Nat) (ok : Nat → Value → Prop) (S : Nat → Value → World → Prop) (a0 : Act) (listed : Array Bool) (a : Act) (w : World) : Prop where
 size : a.tmps.size = T
 defs : a.defers = a0.defers
 lsz : listed.size = N + 1
 vals : ∀ i, i ≤ N → (∀ t, t < p → mv t ≠ i) → listed.getD i true = true → ok i (a.eval (.tmp (dst i)))
 oth : ∀ k, (∀ i, i ≤ N → dst i ≠ k) → a.eval (.tmp k) = a0.eval (.tmp k)
 cl : ∀ i, i ≤ N → listed.getD i true = true → ∀ j ∈ dep i, listed.getD j true = true
 dn : listed.getD N true = true → ∀ i, i ≤ N → listed.getD i true = true
 pre : listed.getD N true = false → a.eval (.tmp (dst N)) = a0.eval (.tmp (dst N))
 ph : ∃ j, j ≤ p ∧ (∀ t, t < p → (listed.getD (mv t) true = true ↔ t < j)) ∧ S j (if j = 0 then undef else a.eval (.tmp (dst (mv (j - 1))))) w
theorem region_chain {P : Program} {id : Nat} {ops : Array Oper} {Q : Exit → Act → World → Prop} {a : Act} {w : World} (T N p : Nat) (mv dst : Nat → Nat) (dep : Nat → List Nat) (ok : Nat → Value → Prop) (S : Nat → Value → World → Prop)
  (hm : P.follows .mixedOrders = true) (hn : ops.size = N + 1) (hinj : ∀ i j, i ≤ N → j ≤ N → dst i = dst j → i = j) (hT : a.tmps.size = T)
  (hp : 0 < p) (hlast : mv (p - 1) = N) (hmvi : ∀ s t, s < p → t < p → mv s = mv t → s = t) (hmvN : ∀ t, t < p → mv t ≤ N) (hmvd : ∀ t, t + 1 < p → mv t ∈ dep (mv (t + 1)))
  (hg : ∀ (i : Nat) o, ops[i]? = some o → ((o.dst = some (dst i) ∧ dst i < T) ∨ (o.dst = none ∧ i = N ∧ ∀ v v' W, S p v W → S p v' W)) ∧ o.guard = none ∧ (∀ d ∈ dep i, d < i ∧ ∃ e ∈ o.after, e.on = d ∧ Region.binds .any e = true) ∧ ∀ e ∈ o.after, Region.binds .any e = true → e.on < i)
  (hup : ∀ i, i < N → ∃ j, j ≤ N ∧ i < j ∧ i ∈ dep j)
  (hx : ∀ (i : Nat) o, i ≤ N → (∀ t, t < p → mv t ≠ i) → ops[i]? = some o → ∀ (a' : Act) W j v, j < p → S j v W → (∀ k, (∀ i, i < N → dst i ≠ k) → a'.eval (.tmp k) = a.eval (.tmp k)) → (∀ j ∈ dep i, (∀ t, t < p → mv t ≠ j) → ok j (a'.eval (.tmp (dst j)))) → ∃ u, (execOp a'.eval o).run P W = .ok (.value u) W ∧ ok i u)
  (hmv : ∀ t o, t < p → ops[mv t]? = some o → ∀ (a' : Act) W v, S t v W → (0 < t → v = a'.eval (.tmp (dst (mv (t - 1))))) → (∀ k, (∀ i, i < N → dst i ≠ k) → a'.eval (.tmp k) = a.eval (.tmp k)) → (∀ j ∈ dep (mv t), (∀ s, s < p → mv s ≠ j) → ok j (a'.eval (.tmp (dst j)))) → ∀ K : Act → World → Prop, (∀ v' W', S (t + 1) v' W' → K (a'.put o.dst v') W') → o.wp P a' W K Q)
  (hS : S 0 undef w.drew)
  (hQ : ∀ a' w', a'.tmps.size = T → a'.defers = a.defers → (∀ k, (∀ i, i ≤ N → dst i ≠ k) → a'.eval (.tmp k) = a.eval (.tmp k)) → S p (a'.eval (.tmp (dst N))) w' → Q .normal a' w') :
  (Code.region id ops true).wp P Q a w := by
 have low : ∀ (listed : Array Bool) (i k : Nat), listed.getD k true = true → (listed.setIfInBounds i true).getD k true = true := by
  intro listed i k hk
  by_cases e : k = i
  ·subst e; exact getD_set_same
  ·rw [getD_set_ne true (Ne.symm e)]; exact hk
 refine wp_region_any hm (wpAny_inv2 (I := RegC T N p mv dst dep ok S a) ?_ ?_ ?_ ops.size _ a _ (by simp) ?_ ?_)
 ·intro i o ho e he
  exact (hg i o ho).2.2.2 e he
 ·intro listed a' w' hall h
  obtain ⟨j, hj, hph, hs⟩ := h.ph
  have hjp : j = p := by
   have := (hph (p - 1) (by omega)).1 (hall _)
   omega
  subst hjp
  rw [if_neg (by omega), hlast] at hs
  exact hQ a' w' h.size h.defs h.oth hs
 ·intro listed a' w' i o ho hl hdeps h
  obtain ⟨g1, g2, g3, g4⟩ := hg i o ho
  have hi : i ≤ N := by have := (Array.getElem?_eq_some_iff.1 ho).1; omega
  have hwant : Region.wanted o (yielded ops a'.tmps) = true := by unfold Region.wanted; rw [g2]
  rw [if_pos hwant]
  have hdl2 : ∀ j ∈ dep i, listed.getD j true = true := by
   intro j hj
   obtain ⟨_, e, he, h1, h2⟩ := g3 j hj
   rw [← h1]; exact listed_true (hdeps e he h2)
  have hdl3 : ∀ j ∈ dep i, j < i := fun j hj => (g3 j hj).1
  have hnl : listed.getD N true = false := by
   cases hq : listed.getD N true
   ·rfl
   ·have := h.dn hq i hi; rw [hl] at this; cases this
  obtain ⟨j, hj, hph, hs⟩ := h.ph
  have hjp : j < p := by
   rcases Nat.lt_or_ge j p with h1 | h1
   ·exact h1
   ·have := (hph (p - 1) (by omega)).2 (by omega)
    rw [hlast, hnl] at this; cases this
  have hcl : ∀ k, k ≤ N → (listed.setIfInBounds i true).getD k true = true → ∀ j ∈ dep k, (listed.setIfInBounds i true).getD j true = true := by
   intro k hk hkl d hd
   by_cases e : k = i
   ·subst e; exact low _ _ d (hdl2 d hd)
   ·exact low _ _ d (h.cl k hk (listed_of hkl e) d hd)
  have hdn : (listed.setIfInBounds i true).getD N true = true → ∀ k, k ≤ N → (listed.setIfInBounds i true).getD k true = true := by
   intro hN
   have all : ∀ m k, k + m = N → (listed.setIfInBounds i true).getD k true = true := by
    intro m
    induction m using Nat.strongRecOn with
    | ind m ih =>
     intro k hk
     by_cases e : k = N
     ·rw [e]; exact hN
     ·obtain ⟨d, h1, h2, h3⟩ := hup k (by omega)
      exact hcl d h1 (ih (N - d) (by omega) d (by omega)) k h3
   exact fun k hk => all (N - k) k (by omega)
  have hoth2 : ∀ k, (∀ i, i < N → dst i ≠ k) → a'.eval (.tmp k) = a.eval (.tmp k) := by
   intro k hk
   by_cases e : dst N = k
   ·rw [← e]; exact h.pre hnl
   ·refine h.oth k fun i hi2 => ?_
    by_cases e2 : i = N
    ·rw [e2]; exact e
    ·exact hk i (by omega)
  have hsz : (listed.setIfInBounds i true).size = N + 1 := by simpa using h.lsz
  by_cases hq : ∀ t, t < p → mv t ≠ i
  ·have hd : ∀ d ∈ dep i, (∀ t, t < p → mv t ≠ d) → ok d (a'.eval (.tmp (dst d))) := fun d hd hqd => h.vals d (by have := hdl3 d hd; omega) hqd (hdl2 d hd)
   obtain ⟨u, e1, e2⟩ := hx i o hi hq ho a' w' j _ hjp hs hoth2 hd
   have hiN : i ≠ N := fun e => hq (p - 1) (by omega) (by rw [hlast, e])
   have g1 : o.dst = some (dst i) ∧ dst i < T := g1.resolve_right (fun h => hiN h.2.1)
   unfold Oper.wp
   rw [e1]
   show RegC T N p mv dst dep ok S a (listed.setIfInBounds i true) (a'.put o.dst u) w'
   rw [g1.1]
   refine ⟨by rw [size_put]; exact h.size, by rw [defs_put]; exact h.defs, hsz, ?_, ?_, hcl, hdn, ?_, j, hj, ?_, ?_⟩
   ·intro k hk hqk hkl
    by_cases e : k = i
    ·subst e; rw [eval_put_same _ (by rw [h.size]; exact g1.2)]; exact e2
    ·rw [eval_put_other _ (fun e3 => e (hinj i k hi hk e3).symm)]; exact h.vals k hk hqk (listed_of hkl e)
   ·intro k hk; rw [eval_put_other _ (hk i hi)]; exact h.oth k hk
   ·intro _; rw [eval_put_other _ (fun e => hiN (hinj i N hi (Nat.le_refl _) e))]; exact h.pre hnl
   ·intro t ht; rw [getD_set_ne true (Ne.symm (hq t ht))]; exact hph t ht
   ·by_cases e : j = 0
    ·rw [if_pos e]; rw [if_pos e] at hs; exact hs
    ·rw [if_neg e]; rw [if_neg e] at hs
     rw [eval_put_other _ (fun e3 => by have := hinj i (mv (j - 1)) hi (hmvN _ (by omega)) e3; exact hq (j - 1) (by omega) this.symm)]
     exact hs
  ·obtain ⟨t, htp, hti⟩ : ∃ t, t < p ∧ mv t = i := by
    refine Classical.byContradiction fun hc => hq fun t ht e => hc ⟨t, ht, e⟩
   subst hti
   have htj : t = j := by
    have h1 : ¬ t < j := fun h1 => by have := (hph t htp).2 h1; rw [hl] at this; cases this
    by_cases e : t = 0
    ·omega
    ·obtain ⟨s, rfl⟩ : ∃ s, t = s + 1 := ⟨t - 1, by omega⟩
     have := (hph s (by omega)).1 (hdl2 _ (hmvd s htp))
     omega
   subst htj
   have hd : ∀ d ∈ dep (mv t), (∀ s, s < p → mv s ≠ d) → ok d (a'.eval (.tmp (dst d))) := fun d hd hqd => h.vals d (by have := hdl3 d hd; omega) hqd (hdl2 d hd)
   refine hmv t o htp ho a' w' _ hs (fun h0 => by rw [if_neg (by omega)]) hoth2 hd _ fun v' W' hs' => ?_
   have hph' : ∀ s, s < p → ((listed.setIfInBounds (mv t) true).getD (mv s) true = true ↔ s < t + 1) := by
    intro s hsp
    by_cases e : s = t
    ·subst e; exact ⟨fun _ => by omega, fun _ => getD_set_same⟩
    ·rw [getD_set_ne true (fun e2 => e (hmvi t s htp hsp e2).symm), hph s hsp]; omega
   rcases g1 with ⟨g1, gT⟩ | ⟨g1, gN, gv⟩
   ·rw [g1]
    refine ⟨by rw [size_put]; exact h.size, by rw [defs_put]; exact h.defs, hsz, ?_, ?_, hcl, hdn, ?_, t + 1, by omega, hph', ?_⟩
    ·intro k hk hqk hkl
     have e : k ≠ mv t := fun e => hqk t htp e.symm
     rw [eval_put_other _ (fun e3 => e (hinj (mv t) k hi hk e3).symm)]; exact h.vals k hk hqk (listed_of hkl e)
    ·intro k hk; rw [eval_put_other _ (hk _ hi)]; exact h.oth k hk
    ·intro hf
     by_cases e : mv t = N
     ·rw [e, getD_set_same] at hf; cases hf
     ·rw [eval_put_other _ (fun e2 => e (hinj (mv t) N hi (Nat.le_refl _) e2))]; exact h.pre hnl
    ·rw [if_neg (by omega), Nat.add_sub_cancel, eval_put_same _ (by rw [h.size]; exact gT)]; exact hs'
   ·rw [g1]
    have htp1 : t + 1 = p := by
     have := hmvi t (p - 1) htp (by omega) (by rw [hlast]; exact gN)
     omega
    refine ⟨h.size, h.defs, hsz, ?_, h.oth, hcl, hdn, fun _ => h.pre hnl, t + 1, by omega, hph', ?_⟩
    ·intro k hk hqk hkl
     exact h.vals k hk hqk (listed_of hkl (fun e => hqk t htp e.symm))
    ·rw [htp1] at hs' ⊢; exact gv _ _ _ hs'
 ·unfold unlB
  have := List.countP_le_length (p := fun x => !x) (l := (Array.replicate ops.size false).toList)
  simpa using this
 ·have hf : ∀ i, i ≤ N → (Array.replicate ops.size false).getD i true = false := by
   intro i hi; simp [hn, show i < N + 1 by omega]
  refine ⟨hT, rfl, by simp [hn], ?_, fun _ _ => rfl, ?_, ?_, fun _ => rfl, 0, by omega, ?_, hS⟩
  ·intro i hi _ hl; rw [hf i hi] at hl; cases hl
  ·intro i hi hl; rw [hf i hi] at hl; cases hl
  ·intro hl; rw [hf N (Nat.le_refl _)] at hl; cases hl
  ·intro t ht; rw [hf _ (hmvN t ht)]; simp
theorem wp_value {P : Program} {o : Oper} {a : Act} {w w' : World} {v : Value} {K : Act → World → Prop} {Q : Exit → Act → World → Prop} (h : (execOp a.eval o).run P w = .ok (.value v) w') (hK : K (a.put o.dst v) w') : o.wp P a w K Q := by
 unfold Oper.wp; rw [h]; exact hK
theorem wp_skip {P : Program} {o : Oper} {a : Act} {w w' : World} {K : Act → World → Prop} {Q : Exit → Act → World → Prop} (h : (execOp a.eval o).run P w = .ok .skip w') (hK : K (a.put o.dst undef) w') : o.wp P a w K Q := by
 unfold Oper.wp; rw [h]; exact hK
theorem act_mix1 {a a' : Act} {l : List Value} (lo n d : Nat) (v : Value) (hl : a.tmps = l.toArray) (hs : a'.tmps.size = a.tmps.size) (hd : a'.defers = a.defers) (hn : lo + n ≤ l.length) (hdl : d < l.length) (hv : a'.eval (.tmp d) = v) (hdo : d < lo ∨ lo + n ≤ d)
  (ho : ∀ k, k ≠ d → (k < lo ∨ lo + n ≤ k) → a'.eval (.tmp k) = a.eval (.tmp k)) :
  ∃ us : List Value, us.length = n ∧ a' = { tmps := ((l.set d v).take lo ++ (us ++ (l.set d v).drop (lo + n))).toArray, defers := a.defers } := by
 obtain ⟨us, h1, _, h3⟩ := act_mix (a := { tmps := (l.set d v).toArray, defers := a.defers }) (a' := a') (l := l.set d v) lo n rfl (by rw [hs, hl]; simp) hd (by rw [List.length_set]; exact hn) (fun k hk => by
  by_cases e : k = d
  ·subst e
   rw [hv]; unfold Act.eval; simp [hdl]
  ·rw [ho k e hk]
   unfold Act.eval
   rw [hl]
   simp [List.getElem?_set_ne (Ne.symm e)])
 exact ⟨us, h1, h3⟩
end Go.Proofs.YtngehojibcmieaaGreatDoor.Kd
end
