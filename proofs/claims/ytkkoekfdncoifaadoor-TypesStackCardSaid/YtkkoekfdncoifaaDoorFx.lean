/- What is proved here: what the functions of types' effects are, and the contract of types.effects: a map that has, at each operation, a function that tells what it takes, and one that tells what it gives. Conditions: none beyond those each theorem states. -/
import Derived.Test.YtkkoekfdncoifaaDoorStr
import Derived.Test.YtkkoekfdncoifaaDoorTy
import Derived.Test.YtkkoekfdncoifaaDoorAny
import Derived.Maps.OwnSet
import Derived.Maps.Own
namespace Go.Proofs.YtkkoekfdncoifaaDoor
open Go.ChangeShapes Go.WideShapes Go.RowKit Go.Maps

theorem taking_any (s : List UInt8) (w : World) : Calls Tryd.prog 32 #[.string (bs s)] w fun e w' => ∃ b, e = .returned (.func (.func 51) #[] #[.pointer (some ⟨b, 0, none⟩)]) ∧ w.heap.size ≤ b ∧ w'.cell? ⟨b, 0, none⟩ = some (.string (bs s)) ∧ Below w.heap.size w w' := by
  go_enter Tryd.func32, Tryd.ntmps32
  go_wp2
  go_ret
  exact ⟨w.heap.size, rfl, Nat.le_refl _, by simp, below_alloc _ _⟩
theorem giving_any (s : List UInt8) (w : World) : Calls Tryd.prog 33 #[.string (bs s)] w fun e w' => ∃ b, e = .returned (.func (.func 52) #[] #[.pointer (some ⟨b, 0, none⟩)]) ∧ w.heap.size ≤ b ∧ w'.cell? ⟨b, 0, none⟩ = some (.string (bs s)) ∧ Below w.heap.size w w' := by
  go_enter Tryd.func33, Tryd.ntmps33
  go_wp2
  go_ret
  exact ⟨w.heap.size, rfl, Nat.le_refl _, by simp, below_alloc _ _⟩
theorem took_any (s : ByteArray) (w : World) (b : Nat) (h : w.cell? ⟨b, 0, none⟩ = some (.string s)) : Calls Tryd.prog 51 #[.pointer (some ⟨b, 0, none⟩)] w fun e w' => e = .returned (.string s) ∧ w = w' := by
  go_enter Tryd.func51, Tryd.ntmps51
  go_wp2
  go_ret
  exact ⟨rfl, rfl⟩
theorem gave_any (s t : ByteArray) (a : Int) (w : World) (b : Nat) (h : w.cell? ⟨b, 0, none⟩ = some (.string s)) : Calls Tryd.prog 52 #[.int .i64 a, .string t, .pointer (some ⟨b, 0, none⟩)] w fun e w' => e = .returned (.string s) ∧ w = w' := by
  go_enter Tryd.func52, Tryd.ntmps52
  go_wp2
  go_ret
  exact ⟨rfl, rfl⟩
theorem run_store_func (P : Program) (w : World) (a : Addr) (m : Mode) (fn : Fn) (first cap : Array Value) : (store a (.func fn first cap) m).run P w = stored P w a (.func fn first cap) m := run_store P w a _ m rfl

/-- A function value that tells a text, and one that tells what comes of a number and a text. -/
def TkV (lo : Nat) (w : World) (v : Value) (s : List UInt8) : Prop := ∃ b, v = .func (.func 51) #[] #[.pointer (some ⟨b, 0, none⟩)] ∧ lo ≤ b ∧ w.cell? ⟨b, 0, none⟩ = some (.string (bs s))
def GvV (lo : Nat) (w : World) (v : Value) (f : Int → List UInt8 → List UInt8) : Prop :=
  (∃ b s, v = .func (.func 52) #[] #[.pointer (some ⟨b, 0, none⟩)] ∧ lo ≤ b ∧ w.cell? ⟨b, 0, none⟩ = some (.string (bs s)) ∧ ∀ a t, f a t = s) ∨
  (v = .func (.func 34) #[] #[] ∧ f = gv 3) ∨ (v = .func (.func 35) #[] #[] ∧ f = gv 4) ∨ (v = .func (.func 36) #[] #[] ∧ f = gv 5)
/-- What lies in cells stays, whatever is done elsewhere. -/
def Keeps (w w' : World) : Prop := ∀ (p : Addr) (v : Value), w.cell? p = some v → w'.cell? p = some v
theorem keeps_below {w w' : World} (h : Below w.heap.size w w') : Keeps w w' := fun _ _ hp => keep_cell h hp
theorem TkV.keep {lo : Nat} {w w' : World} {v : Value} {s : List UInt8} (h : TkV lo w v s) (k : Keeps w w') : TkV lo w' v s := by
  obtain ⟨b, e, l, c⟩ := h; exact ⟨b, e, l, k _ _ c⟩
theorem GvV.keep {lo : Nat} {w w' : World} {v : Value} {f : Int → List UInt8 → List UInt8} (h : GvV lo w v f) (k : Keeps w w') : GvV lo w' v f := by
  rcases h with ⟨b, s, e, l, c, hf⟩ | h
  · exact Or.inl ⟨b, s, e, l, k _ _ c, hf⟩
  · exact Or.inr h
/-- A variable that has two such functions that tell texts. -/
def Loc (lo : Nat) (w : World) (L t g : Nat) (s r : List UInt8) : Prop :=
  w.cell? ⟨L, 0, none⟩ = some (.func (.func 51) #[] #[.pointer (some ⟨t, 0, none⟩)]) ∧ w.cell? ⟨L, 1, none⟩ = some (.func (.func 52) #[] #[.pointer (some ⟨g, 0, none⟩)]) ∧ w.cell? ⟨t, 0, none⟩ = some (.string (bs s)) ∧ w.cell? ⟨g, 0, none⟩ = some (.string (bs r)) ∧ lo ≤ t ∧ lo ≤ g
theorem Loc.keep {lo : Nat} {w w' : World} {L t g : Nat} {s r : List UInt8} (h : Loc lo w L t g s r) (k : Keeps w w') : Loc lo w' L t g s r := ⟨k _ _ h.1, k _ _ h.2.1, k _ _ h.2.2.1, k _ _ h.2.2.2.1, h.2.2.2.2⟩
theorem Loc.new {lo : Nat} {w : World} {t g : Nat} {s r : List UInt8} (l1 : lo ≤ t) (l2 : lo ≤ g) (h1 : w.cell? ⟨t, 0, none⟩ = some (.string (bs s))) (h2 : w.cell? ⟨g, 0, none⟩ = some (.string (bs r))) :
    Loc lo (w.alloc (.cells #[.func (.func 51) #[] #[.pointer (some ⟨t, 0, none⟩)], .func (.func 52) #[] #[.pointer (some ⟨g, 0, none⟩)]] 53)) w.heap.size t g s r :=
  ⟨by simp, by simp, keep_cell (below_alloc _ _) h1, keep_cell (below_alloc _ _) h2, l1, l2⟩
/-- Elements are read as they are. -/
def rdV (v : Value) : Option (DataW Value × List MemPlace) := some (.held v, [])
/-- The map has its functions at the first m operations. -/
def Fxs (lo : Nat) (w : World) (b m : Nat) : Prop :=
  lo ≤ b ∧ ∃ D n, w.ownsMap Tryd.prog 3 rdV b n D ∧ ∀ j : Nat, j < m → ∃ t g, D.atKey (.int .i64 ((j : Int) + 1)) (.held (.agg #[.nilFunc, .nilFunc])) = .held (.agg #[t, g]) ∧ TkV lo w t (tk ((j : Int) + 1)) ∧ GvV lo w g (gv ((j : Int) + 1))
theorem Fxs.below {lo : Nat} {w w' : World} {b m : Nat} (h : Fxs lo w b m) (k : Below w.heap.size w w') : Fxs lo w' b m := by
  obtain ⟨hlo, D, n, hD, hf⟩ := h
  refine ⟨hlo, D, n, hD.kept (row := none) ⟨k.os, k.tape, k.output, k.size, fun i hi _ => k.block i hi⟩ (by simp), fun j hj => ?_⟩
  obtain ⟨t, g, e, ht, hg⟩ := hf j hj
  exact ⟨t, g, e, ht.keep (keeps_below k), hg.keep (keeps_below k)⟩
theorem key_wf {j : Nat} (h : j < 1000) : (Lit.int .i64 ((j : Int) + 1)).wf = true := WalkArith.wf_i64 (by omega)
theorem keeps_map {w w' : World} {b : Nat} {P : Program} {k : TypeId} {R : Value → Option (DataW Value × List MemPlace)} {n : Nat} {D : DataW Value} (h : w.ownsMap P k R b n D) (g : w.grownBy w' (some b)) : Keeps w w' := by
  intro p v hp
  have hlt := cell_lt hp
  have hne : p.block ≠ b := by
    intro e
    obtain ⟨es, c, hb, _⟩ := h
    unfold World.cell? at hp
    rw [e, hb] at hp
    simp at hp
  rw [World.cell?_of_block (w := w) (g.block p.block hlt (by simpa using hne))]; exact hp
theorem zero53 (w : World) : (zeroValue 53).run Tryd.prog w = .ok (.agg #[.nilFunc, .nilFunc]) w := by kernel_rfl
/-- What is found at an operation, in every world that keeps what lay. -/
theorem Fxs.look {lo : Nat} {w : World} {b m : Nat} (h : Fxs lo w b m) {o : Int} (h1 : 1 ≤ o) (h2 : o ≤ m) (hm : m < 1000) :
    ∃ t g, (∀ W, Below w.heap.size w W → (Instr.lookup 42 (.map (some b)) (.int .i64 o) false).run Tryd.prog W = .ok (.agg #[t, g]) W) ∧ TkV lo w t (tk o) ∧ GvV lo w g (gv o) := by
  obtain ⟨_, D, n, hD, hf⟩ := h
  obtain ⟨j, rfl⟩ : ∃ j : Nat, o = (j : Int) + 1 := ⟨(o - 1).toNat, by omega⟩
  obtain ⟨t, g, e, ht, hg⟩ := hf j (by omega)
  refine ⟨t, g, fun W k => ?_, ht, hg⟩
  have hD2 := hD.kept (row := none) ⟨k.os, k.tape, k.output, k.size, fun i hi _ => k.block i hi⟩ (by simp)
  obtain ⟨v, ps, hrun, hv⟩ := hD2.lookup (t := 42) (e := 53) (int_keyed Tryd.underlying3) Tryd.underlying42 (zero53 W) (zd := .held (.agg #[.nilFunc, .nilFunc])) (zp := []) rfl (key := .int .i64 ((j : Int) + 1)) (keyOf_int_mk Tryd.underlying3 (key_wf (by omega)))
  rw [e] at hv
  unfold rdV at hv
  simp only [Option.some.injEq, Prod.mk.injEq, DataW.held.injEq] at hv
  rw [hv.1] at hrun
  exact hrun
/-- Blocks between two numbers are as they were. -/
def Mid (lo : Nat) (w w' : World) : Prop := w.heap.size ≤ w'.heap.size ∧ ∀ i, lo ≤ i → i < w.heap.size → w'.heap[i]? = w.heap[i]?
theorem Fxs.mid {lo : Nat} {w w' : World} {b m : Nat} (h : Fxs lo w b m) (k : Mid lo w w') : Fxs lo w' b m := by
  obtain ⟨hlo, D, n, hD, hf⟩ := h
  have kc : ∀ (p : Addr) v, lo ≤ p.block → w.cell? p = some v → w'.cell? p = some v := by
    intro p v hp hc
    rw [World.cell?_of_block (w := w) (k.2 p.block hp (cell_lt hc))]; exact hc
  refine ⟨hlo, D, n, ?_, fun j hj => ?_⟩
  · have hlt := hD.lt
    obtain ⟨es, clock, hb, r⟩ := hD
    exact ⟨es, clock, (k.2 b hlo hlt).trans hb, r⟩
  · obtain ⟨t, g, e, ⟨bt, e1, l1, c1⟩, hg⟩ := hf j hj
    refine ⟨t, g, e, ⟨bt, e1, l1, kc ⟨bt, 0, none⟩ _ l1 c1⟩, ?_⟩
    rcases hg with ⟨bg, s, e2, l2, c2, hh⟩ | hg
    · exact Or.inl ⟨bg, s, e2, l2, kc ⟨bg, 0, none⟩ _ l2 c2, hh⟩
    · exact Or.inr hg
end Go.Proofs.YtkkoekfdncoifaaDoor
