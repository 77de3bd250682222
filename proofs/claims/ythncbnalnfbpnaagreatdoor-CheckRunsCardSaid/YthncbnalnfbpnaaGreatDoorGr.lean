/- What is proved here: what the functions of types' effects are, and the contract of types.effects: a map that has, at each operation, a function that tells what it takes, and one that tells what it gives. Conditions: none beyond those each theorem states. what a machine is in memory, and that it stays where nothing of its own is changed. Conditions: those each theorem states. contracts of nest.canBe, nest.closes and nest.bit. Condition: the table of names holds what its initialiser lays ('Nms'). -/
import Derived.Test.YthncbnalnfbpnaaGreatDoorGb
import Derived.Test.YthncbnalnfbpnaaGreatDoorGa
import Derived.Maps.OwnSet
import Derived.Maps.Own
import Derived.Deep.OwnRows
import Derived.Deep.MidRow
section
namespace Go.Proofs.YthncbnalnfbpnaaGreatDoor
open Go.ChangeShapes Go.WideShapes Go.RowKit Go.Maps

theorem taking_any (s : List UInt8) (w : World) : Calls Tryz.prog 119 #[.string (bs s)] w fun e w' => ∃ b, e = .returned (.func (.func 143) #[] #[.pointer (some ⟨b, 0, none⟩)]) ∧ w.heap.size ≤ b ∧ w'.cell? ⟨b, 0, none⟩ = some (.string (bs s)) ∧ Below w.heap.size w w' := by
  go_enter Tryz.func119, Tryz.ntmps119
  go_wp2
  go_ret
  exact ⟨w.heap.size, rfl, Nat.le_refl _, by simp, below_alloc _ _⟩
theorem giving_any (s : List UInt8) (w : World) : Calls Tryz.prog 120 #[.string (bs s)] w fun e w' => ∃ b, e = .returned (.func (.func 144) #[] #[.pointer (some ⟨b, 0, none⟩)]) ∧ w.heap.size ≤ b ∧ w'.cell? ⟨b, 0, none⟩ = some (.string (bs s)) ∧ Below w.heap.size w w' := by
  go_enter Tryz.func120, Tryz.ntmps120
  go_wp2
  go_ret
  exact ⟨w.heap.size, rfl, Nat.le_refl _, by simp, below_alloc _ _⟩
theorem took_any (s : ByteArray) (w : World) (b : Nat) (h : w.cell? ⟨b, 0, none⟩ = some (.string s)) : Calls Tryz.prog 143 #[.pointer (some ⟨b, 0, none⟩)] w fun e w' => e = .returned (.string s) ∧ w = w' := by
  go_enter Tryz.func143, Tryz.ntmps143
  go_wp2
  go_ret
  exact ⟨rfl, rfl⟩
theorem gave_any (s t : ByteArray) (a : Int) (w : World) (b : Nat) (h : w.cell? ⟨b, 0, none⟩ = some (.string s)) : Calls Tryz.prog 144 #[.int .i64 a, .string t, .pointer (some ⟨b, 0, none⟩)] w fun e w' => e = .returned (.string s) ∧ w = w' := by
  go_enter Tryz.func144, Tryz.ntmps144
  go_wp2
  go_ret
  exact ⟨rfl, rfl⟩
theorem run_store_func (P : Program) (w : World) (a : Addr) (m : Mode) (fn : Fn) (first cap : Array Value) : (store a (.func fn first cap) m).run P w = stored P w a (.func fn first cap) m := run_store P w a _ m rfl

/-- A function value that tells a text, and one that tells what comes of a number and a text. -/
def TkV (lo : Nat) (w : World) (v : Value) (s : List UInt8) : Prop := ∃ b, v = .func (.func 143) #[] #[.pointer (some ⟨b, 0, none⟩)] ∧ lo ≤ b ∧ w.cell? ⟨b, 0, none⟩ = some (.string (bs s))
def GvV (lo : Nat) (w : World) (v : Value) (f : Int → List UInt8 → List UInt8) : Prop :=
  (∃ b s, v = .func (.func 144) #[] #[.pointer (some ⟨b, 0, none⟩)] ∧ lo ≤ b ∧ w.cell? ⟨b, 0, none⟩ = some (.string (bs s)) ∧ ∀ a t, f a t = s) ∨
  (v = .func (.func 121) #[] #[] ∧ f = gv 3) ∨ (v = .func (.func 122) #[] #[] ∧ f = gv 4) ∨ (v = .func (.func 123) #[] #[] ∧ f = gv 5)
/-- What lies in cells stays, whatever is done elsewhere. -/
def Keeps (w w' : World) : Prop := ∀ (p : Addr) (v : Value), w.cell? p = some v → w'.cell? p = some v
theorem keeps_below {w w' : World} (h : Below w.heap.size w w') : Keeps w w' := fun _ _ hp => keep_cell h hp
theorem TkV.keep {lo : Nat} {w w' : World} {v : Value} {s : List UInt8} (h : TkV lo w v s) (k : Keeps w w') : TkV lo w' v s := by
  obtain ⟨b, e, l, c⟩ := h; exact ⟨b, e, l, k _ _ c⟩
theorem GvV.keep {lo : Nat} {w w' : World} {v : Value} {f : Int → List UInt8 → List UInt8} (h : GvV lo w v f) (k : Keeps w w') : GvV lo w' v f := by
  rcases h with ⟨b, s, e, l, c, hf⟩ | h
  · exact Or.inl ⟨b, s, e, l, k _ _ c, hf⟩
  · exact Or.inr h
/-- A variable that has two such functions that tell texts. -/
def Loc (lo : Nat) (w : World) (L t g : Nat) (s r : List UInt8) : Prop :=
  w.cell? ⟨L, 0, none⟩ = some (.func (.func 143) #[] #[.pointer (some ⟨t, 0, none⟩)]) ∧ w.cell? ⟨L, 1, none⟩ = some (.func (.func 144) #[] #[.pointer (some ⟨g, 0, none⟩)]) ∧ w.cell? ⟨t, 0, none⟩ = some (.string (bs s)) ∧ w.cell? ⟨g, 0, none⟩ = some (.string (bs r)) ∧ lo ≤ t ∧ lo ≤ g
theorem Loc.keep {lo : Nat} {w w' : World} {L t g : Nat} {s r : List UInt8} (h : Loc lo w L t g s r) (k : Keeps w w') : Loc lo w' L t g s r := ⟨k _ _ h.1, k _ _ h.2.1, k _ _ h.2.2.1, k _ _ h.2.2.2.1, h.2.2.2.2⟩
theorem Loc.new {lo : Nat} {w : World} {t g : Nat} {s r : List UInt8} (l1 : lo ≤ t) (l2 : lo ≤ g) (h1 : w.cell? ⟨t, 0, none⟩ = some (.string (bs s))) (h2 : w.cell? ⟨g, 0, none⟩ = some (.string (bs r))) :
    Loc lo (w.alloc (.cells #[.func (.func 143) #[] #[.pointer (some ⟨t, 0, none⟩)], .func (.func 144) #[] #[.pointer (some ⟨g, 0, none⟩)]] 139)) w.heap.size t g s r :=
  ⟨by simp, by simp, keep_cell (below_alloc _ _) h1, keep_cell (below_alloc _ _) h2, l1, l2⟩
/-- Elements are read as they are. -/
def rdV (v : Value) : Option (DataW Value × List MemPlace) := some (.held v, [])
/-- The map has its functions at the first m operations. -/
def Fxs (lo : Nat) (w : World) (b m : Nat) : Prop :=
  lo ≤ b ∧ ∃ D n, w.ownsMap Tryz.prog 3 rdV b n D ∧ ∀ j : Nat, j < m → ∃ t g, D.atKey (.int .i64 ((j : Int) + 1)) (.held (.agg #[.nilFunc, .nilFunc])) = .held (.agg #[t, g]) ∧ TkV lo w t (tk ((j : Int) + 1)) ∧ GvV lo w g (gv ((j : Int) + 1))
theorem Fxs.below {lo : Nat} {w w' : World} {b m : Nat} (h : Fxs lo w b m) (k : Below w.heap.size w w') : Fxs lo w' b m := by
  obtain ⟨hlo, D, n, hD, hf⟩ := h
  refine ⟨hlo, D, n, hD.kept (row := none) ⟨k.os, k.tape, k.output, k.size, fun i hi _ => k.block i hi⟩ (by simp), fun j hj => ?_⟩
  obtain ⟨t, g, e, ht, hg⟩ := hf j hj
  exact ⟨t, g, e, ht.keep (keeps_below k), hg.keep (keeps_below k)⟩
theorem key_wf {j : Nat} (h : j < 1000) : (Lit.int .i64 ((j : Int) + 1)).wf = true := WalkArith.wf_i64 (by omega)
theorem keeps_map {w w' : World} {b : Nat} {P : Program} {k : TypeId} {R : Value → Option (DataW Value × List MemPlace)} {n : Nat} {D : DataW Value} (h : w.ownsMap P k R b n D) (g : w.grownBy w' (some b)) : Keeps w w' := by
  intro p v hp
  have hlt := cell_lt hp
  have hne : p.block ≠ b := by
    intro e
    obtain ⟨es, c, hb, _⟩ := h
    unfold World.cell? at hp
    rw [e, hb] at hp
    simp at hp
  rw [World.cell?_of_block (w := w) (g.block p.block hlt (by simpa using hne))]; exact hp
theorem zero53 (w : World) : (zeroValue 139).run Tryz.prog w = .ok (.agg #[.nilFunc, .nilFunc]) w := by kernel_rfl
/-- What is found at an operation, in every world that keeps what lay. -/
theorem Fxs.look {lo : Nat} {w : World} {b m : Nat} (h : Fxs lo w b m) {o : Int} (h1 : 1 ≤ o) (h2 : o ≤ m) (hm : m < 1000) :
    ∃ t g, (∀ W, Below w.heap.size w W → (Instr.lookup 128 (.map (some b)) (.int .i64 o) false).run Tryz.prog W = .ok (.agg #[t, g]) W) ∧ TkV lo w t (tk o) ∧ GvV lo w g (gv o) := by
  obtain ⟨_, D, n, hD, hf⟩ := h
  obtain ⟨j, rfl⟩ : ∃ j : Nat, o = (j : Int) + 1 := ⟨(o - 1).toNat, by omega⟩
  obtain ⟨t, g, e, ht, hg⟩ := hf j (by omega)
  refine ⟨t, g, fun W k => ?_, ht, hg⟩
  have hD2 := hD.kept (row := none) ⟨k.os, k.tape, k.output, k.size, fun i hi _ => k.block i hi⟩ (by simp)
  obtain ⟨v, ps, hrun, hv⟩ := hD2.lookup (t := 128) (e := 139) (int_keyed Tryz.underlying3) Tryz.underlying128 (zero53 W) (zd := .held (.agg #[.nilFunc, .nilFunc])) (zp := []) rfl (key := .int .i64 ((j : Int) + 1)) (keyOf_int_mk Tryz.underlying3 (key_wf (by omega)))
  rw [e] at hv
  unfold rdV at hv
  simp only [Option.some.injEq, Prod.mk.injEq, DataW.held.injEq] at hv
  rw [hv.1] at hrun
  exact hrun
/-- Blocks between two numbers are as they were. -/
def Mid (lo : Nat) (w w' : World) : Prop := w.heap.size ≤ w'.heap.size ∧ ∀ i, lo ≤ i → i < w.heap.size → w'.heap[i]? = w.heap[i]?
theorem Fxs.mid {lo : Nat} {w w' : World} {b m : Nat} (h : Fxs lo w b m) (k : Mid lo w w') : Fxs lo w' b m := by
  obtain ⟨hlo, D, n, hD, hf⟩ := h
  have kc : ∀ (p : Addr) v, lo ≤ p.block → w.cell? p = some v → w'.cell? p = some v := by
    intro p v hp hc
    rw [World.cell?_of_block (w := w) (k.2 p.block hp (cell_lt hc))]; exact hc
  refine ⟨hlo, D, n, ?_, fun j hj => ?_⟩
  · have hlt := hD.lt
    obtain ⟨es, clock, hb, r⟩ := hD
    exact ⟨es, clock, (k.2 b hlo hlt).trans hb, r⟩
  · obtain ⟨t, g, e, ⟨bt, e1, l1, c1⟩, hg⟩ := hf j hj
    refine ⟨t, g, e, ⟨bt, e1, l1, kc ⟨bt, 0, none⟩ _ l1 c1⟩, ?_⟩
    rcases hg with ⟨bg, s, e2, l2, c2, hh⟩ | hg
    · exact Or.inl ⟨bg, s, e2, l2, kc ⟨bg, 0, none⟩ _ l2 c2, hh⟩
    · exact Or.inr hg
end Go.Proofs.YthncbnalnfbpnaaGreatDoor
end

section
namespace Go.Proofs.YthncbnalnfbpnaaGreatDoor
open Go.ChangeShapes Go.WideShapes Go.RowKit Go.Maps

/-- The cells of a machine. -/
def mcell (b : Nat) (rv dm st lp : Value) (v : V) (i : Nat) : Value :=
  if i = 0 then .pointer (some ⟨b, 0, none⟩) else if i = 1 then rv else if i = 2 then dm
  else if i < 11 then .int .i64 (v.ret.getD (i - 3) 0)
  else if i = 11 then .bool v.goes else if i = 12 then .int .i64 (v.pl : Int) else if i = 13 then st
  else if i < 22 then .int .i64 (v.loc.getD (i - 14) 0)
  else if i < 38 then .int .i64 (v.inp.getD (i - 22) 0)
  else if i < 70 then (if i % 2 = 0 then .bool (v.outs.getD ((i - 38) / 2) (false, 0)).1 else .int .i64 (v.outs.getD ((i - 38) / 2) (false, 0)).2)
  else if i = 70 then lp else if i = 71 then .int .i64 v.held else if i = 72 then .int .i64 v.flt else .int .i64 v.stp
/-- The cells of open loops. -/
def lpC (l : List (Nat × Int)) : List Value := l.flatMap fun x => [.int .i64 (x.1 : Int), .int .i64 x.2]
theorem lpC_len (l : List (Nat × Int)) : (lpC l).length = l.length * 2 := by
  induction l with
  | nil => rfl
  | cons x l ih => simp only [lpC, List.flatMap_cons, List.length_append, List.length_cons, List.length_nil] at ih ⊢; omega
theorem lpC_snoc (l : List (Nat × Int)) (x : Nat × Int) : lpC (l ++ [x]) = lpC l ++ [.int .i64 (x.1 : Int), .int .i64 x.2] := by simp [lpC]
/-- The map has the machine's deeds. -/
def Dmap (w : World) (bm b m : Nat) : Prop :=
  ∃ D n, w.ownsMap Tryz.prog 3 rdV bm n D ∧ ∀ j : Nat, j < m → D.atKey (.int .i64 ((j : Int) + 1)) (.held .nilFunc) = .held (.func (.func (67 + j)) #[.pointer (some ⟨b, 0, none⟩)] #[])
theorem Dmap.of_block {w w' : World} {bm b m : Nat} (h : Dmap w bm b m) (e : w'.heap[bm]? = w.heap[bm]?) : Dmap w' bm b m := by
  obtain ⟨D, n, hD, hf⟩ := h
  obtain ⟨es, clock, hb, r⟩ := hD
  exact ⟨D, n, ⟨es, clock, e.trans hb, r⟩, hf⟩
theorem Dmap.isMap {w : World} {bm b m : Nat} (h : Dmap w bm b m) : ∃ es c, w.heap[bm]? = some (.map es c) := by
  obtain ⟨D, n, hD, _⟩ := h
  obtain ⟨es, clock, hb, _⟩ := hD
  exact ⟨es, clock, hb⟩
theorem zero89 (w : World) : (zeroValue 104).run Tryz.prog w = .ok .nilFunc w := by kernel_rfl
theorem Dmap.look {w : World} {bm b : Nat} (h : Dmap w bm b 25) {o : Int} (h1 : 1 ≤ o) (h2 : o ≤ 25) :
    (Instr.lookup 94 (.map (some bm)) (.int .i64 o) false).run Tryz.prog w = .ok (.func (.func (66 + o.toNat)) #[.pointer (some ⟨b, 0, none⟩)] #[]) w := by
  obtain ⟨D, n, hD, hf⟩ := h
  obtain ⟨j, rfl⟩ : ∃ j : Nat, o = (j : Int) + 1 := ⟨(o - 1).toNat, by omega⟩
  have e := hf j (by omega)
  obtain ⟨v, ps, hrun, hv⟩ := hD.lookup (t := 94) (e := 104) (int_keyed Tryz.underlying3) Tryz.underlying94 (zero89 w) (zd := .held .nilFunc) (zp := []) rfl (key := .int .i64 ((j : Int) + 1)) (keyOf_int_mk Tryz.underlying3 (key_wf (by omega)))
  rw [e] at hv
  unfold rdV at hv
  simp only [Option.some.injEq, Prod.mk.injEq, DataW.held.injEq] at hv
  rw [hv.1] at hrun
  rw [show 66 + ((j : Int) + 1).toNat = 67 + j by omega]
  exact hrun
theorem own_of_block {w w' : World} {base e size : Nat} {v : Value} {n : Nat} {xs : List Value} (h : w.ownsRow base e size v n xs) (k : ∀ g, v.ownBlock = some g → w'.heap[g]? = w.heap[g]?) : w'.ownsRow base e size v n xs := by
  refine ⟨h.1, ?_⟩
  rcases h.2 with h2 | ⟨g, cap, cur, h1, h2, h3, h4⟩
  · exact Or.inl h2
  · exact Or.inr ⟨g, cap, cur, h1, h2, (k g (by rw [h1]; rfl)).trans h3, h4⟩
theorem own_type {w : World} {base e size : Nat} {v : Value} {n : Nat} {xs : List Value} (h : w.ownsRow base e size v n xs) {g : Nat} (hg : v.ownBlock = some g) : ∃ cur, w.heap[g]? = some (.cells cur e (0, 0)) := by
  rcases h.2 with ⟨h1, _⟩ | ⟨g', cap, cur, h1, _, h3, _⟩
  · subst h1; cases hg
  · subst h1; cases hg; exact ⟨cur, h3⟩

/-- A machine in memory: its blocks are among F. -/
structure MacC (w : World) (F : Nat → Prop) (b : Nat) (rv : Value) (bm : Nat) (st lp : Value) (L : List (Int × Int × Int)) (v : V) : Prop where
  cells : w.rowIs b 102 74 (mcell b rv (.map (some bm)) st lp v)
  row : w.ownsRow 0 70 3 rv L.length (cellsI L)
  map : Dmap w bm b 25
  stk : w.ownsRow 0 3 1 st v.stk.length (v.stk.map (Value.int .i64))
  lps : w.ownsRow 0 166 2 lp v.lps.length (lpC v.lps)
  fb : F b
  fm : F bm
  fr : ∀ k, rv.ownBlock = some k → F k
  fs : ∀ k, st.ownBlock = some k → F k
  fl : ∀ k, lp.ownBlock = some k → F k
  lt : ∀ k, F k → k < w.heap.size
  rl : v.ret.length = 8
  ll : v.loc.length = 8
  il : v.inp.length = 16
  ol : v.outs.length = 16
def Mac (w : World) (F : Nat → Prop) (b : Nat) (L : List (Int × Int × Int)) (v : V) : Prop := ∃ rv bm st lp, MacC w F b rv bm st lp L v
/-- What a call changes: blocks of F, and the block x; the machine's blocks behind it are new, or of F. -/
structure Chg (F F' : Nat → Prop) (x : Nat) (w w' : World) : Prop where
  os : w'.os = w.os
  tape : w'.tape = w.tape
  output : w'.output = w.output
  size : w.heap.size ≤ w'.heap.size
  same : ∀ k, k < w.heap.size → ¬ F k → k ≠ x → w'.heap[k]? = w.heap[k]?
  foot : ∀ k, F' k → F k ∨ w.heap.size ≤ k
theorem Chg.trans {F F' F'' : Nat → Prop} {x : Nat} {w w' w'' : World} (h : Chg F F' x w w') (k : Chg F' F'' x w' w'') : Chg F F'' x w w'' where
  os := k.os.trans h.os
  tape := k.tape.trans h.tape
  output := k.output.trans h.output
  size := Nat.le_trans h.size k.size
  same i hi hf hx := (k.same i (Nat.lt_of_lt_of_le hi h.size) (fun hF => (h.foot i hF).elim hf (by omega)) hx).trans (h.same i hi hf hx)
  foot i hi := (k.foot i hi).elim (h.foot i) (fun h2 => Or.inr (Nat.le_trans h.size h2))
theorem Chg.below {F : Nat → Prop} {x : Nat} {w w' : World} (h : Below w.heap.size w w') : Chg F F x w w' := ⟨h.os, h.tape, h.output, h.size, fun k hk _ _ => h.block k hk, fun _ h => Or.inl h⟩
theorem Chg.refl (F : Nat → Prop) (x : Nat) (w : World) : Chg F F x w w := Chg.below (Below.refl _ _)
theorem Chg.wide {F F' : Nat → Prop} {x y : Nat} {w w' : World} (h : Chg F F' x w w') (hx : F x) : Chg F F' y w w' :=
  ⟨h.os, h.tape, h.output, h.size, fun k hk hf _ => h.same k hk hf (by intro e; subst e; exact hf hx), h.foot⟩
theorem Chg.cell {F F' : Nat → Prop} {x : Nat} {w w' : World} (h : Chg F F' x w w') {p : Addr} {v : Value} (hp : w.cell? p = some v) (hf : ¬ F p.block) (hx : p.block ≠ x) : w'.cell? p = some v := by
  rw [World.cell?_of_block (w := w) (h.same p.block (cell_lt hp) hf hx)]; exact hp
theorem Chg.row {F F' : Nat → Prop} {x : Nat} {w w' : World} (h : Chg F F' x w w') {b t n : Nat} {f : Nat → Value} (hr : w.rowIs b t n f) (hf : ¬ F b) (hx : b ≠ x) : w'.rowIs b t n f := hr.of_block (h.same b hr.lt hf hx)
theorem chg_set {F : Nat → Prop} {b i x : Nat} {w : World} {u : Value} (hb : F b) : Chg F F x w (w.setCell ⟨b, i, none⟩ u) :=
  ⟨rfl, rfl, rfl, by simp [World.setCell], fun k _ hf _ => Go.Deep.blk_setCell_other _ _ _ _ (by intro e; subst e; exact hf hb), fun _ h => Or.inl h⟩
theorem MacC.blocks {w w' : World} {F : Nat → Prop} {b bm : Nat} {rv st lp : Value} {L : List (Int × Int × Int)} {v : V} (h : MacC w F b rv bm st lp L v) (hs : w.heap.size ≤ w'.heap.size) (k : ∀ i, F i → w'.heap[i]? = w.heap[i]?) : MacC w' F b rv bm st lp L v where
  cells := h.cells.of_block (k b h.fb)
  row := own_of_block h.row (fun g hg => k g (h.fr g hg))
  map := h.map.of_block (k bm h.fm)
  stk := own_of_block h.stk (fun g hg => k g (h.fs g hg))
  lps := own_of_block h.lps (fun g hg => k g (h.fl g hg))
  fb := h.fb
  fm := h.fm
  fr := h.fr
  fs := h.fs
  fl := h.fl
  lt i hi := Nat.lt_of_lt_of_le (h.lt i hi) hs
  rl := h.rl
  ll := h.ll
  il := h.il
  ol := h.ol
theorem Mac.blocks {w w' : World} {F : Nat → Prop} {b : Nat} {L : List (Int × Int × Int)} {v : V} (h : Mac w F b L v) (hs : w.heap.size ≤ w'.heap.size) (k : ∀ i, F i → w'.heap[i]? = w.heap[i]?) : Mac w' F b L v := by
  obtain ⟨rv, bm, st, lp, h⟩ := h; exact ⟨rv, bm, st, lp, h.blocks hs k⟩
theorem Mac.lt {w : World} {F : Nat → Prop} {b : Nat} {L : List (Int × Int × Int)} {v : V} (h : Mac w F b L v) : ∀ k, F k → k < w.heap.size := by obtain ⟨rv, bm, st, lp, h⟩ := h; exact h.lt
theorem Mac.fb {w : World} {F : Nat → Prop} {b : Nat} {L : List (Int × Int × Int)} {v : V} (h : Mac w F b L v) : F b := by obtain ⟨rv, bm, st, lp, h⟩ := h; exact h.fb
theorem Mac.below {w w' : World} {F : Nat → Prop} {b : Nat} {L : List (Int × Int × Int)} {v : V} (h : Mac w F b L v) (g : Below w.heap.size w w') : Mac w' F b L v := h.blocks g.size fun i hi => g.block i (h.lt i hi)
theorem Mac.alloc {w : World} {F : Nat → Prop} {b : Nat} {L : List (Int × Int × Int)} {v : V} (h : Mac w F b L v) (o : Obj) : Mac (w.alloc o) F b L v := h.below (below_alloc w o)
theorem Mac.drew {w : World} {F : Nat → Prop} {b : Nat} {L : List (Int × Int × Int)} {v : V} (h : Mac w F b L v) : Mac w.drew F b L v := h.below (Below.refl _ _).drew
/-- Another machine's change. -/
theorem Mac.other {w w' : World} {F G G' : Nat → Prop} {x b : Nat} {L : List (Int × Int × Int)} {v : V} (h : Mac w F b L v) (g : Chg G G' x w w') (hd : ∀ i, F i → ¬ G i) (hx : ¬ F x) : Mac w' F b L v :=
  h.blocks g.size fun i hi => g.same i (h.lt i hi) (hd i hi) (by intro e; subst e; exact hx hi)

section
variable {w : World} {F : Nat → Prop} {b bm : Nat} {rv st lp : Value} {L : List (Int × Int × Int)} {v : V}
theorem MacC.self (h : MacC w F b rv bm st lp L v) : w.cell? ⟨b, 0, none⟩ = some (.pointer (some ⟨b, 0, none⟩)) := h.cells.cell (i := 0) (by omega)
theorem MacC.c1 (h : MacC w F b rv bm st lp L v) : w.cell? ⟨b, 1, none⟩ = some rv := h.cells.cell (i := 1) (by omega)
theorem MacC.c2 (h : MacC w F b rv bm st lp L v) : w.cell? ⟨b, 2, none⟩ = some (.map (some bm)) := h.cells.cell (i := 2) (by omega)
theorem MacC.cR (h : MacC w F b rv bm st lp L v) {a : Nat} (ha : a < 8) : w.cell? ⟨b, 3 + a, none⟩ = some (.int .i64 (v.ret.getD a 0)) := by
  rw [h.cells.cell (i := 3 + a) (by omega)]; unfold mcell; rw [if_neg (by omega), if_neg (by omega), if_neg (by omega), if_pos (by omega), show 3 + a - 3 = a by omega]
theorem MacC.c11 (h : MacC w F b rv bm st lp L v) : w.cell? ⟨b, 11, none⟩ = some (.bool v.goes) := h.cells.cell (i := 11) (by omega)
theorem MacC.c12 (h : MacC w F b rv bm st lp L v) : w.cell? ⟨b, 12, none⟩ = some (.int .i64 (v.pl : Int)) := h.cells.cell (i := 12) (by omega)
theorem MacC.c13 (h : MacC w F b rv bm st lp L v) : w.cell? ⟨b, 13, none⟩ = some st := h.cells.cell (i := 13) (by omega)
theorem MacC.cL (h : MacC w F b rv bm st lp L v) {a : Nat} (ha : a < 8) : w.cell? ⟨b, 14 + a, none⟩ = some (.int .i64 (v.loc.getD a 0)) := by
  rw [h.cells.cell (i := 14 + a) (by omega)]; unfold mcell
  iterate 7 rw [if_neg (by omega)]
  rw [if_pos (by omega), show 14 + a - 14 = a by omega]
theorem MacC.cI (h : MacC w F b rv bm st lp L v) {a : Nat} (ha : a < 16) : w.cell? ⟨b, 22 + a, none⟩ = some (.int .i64 (v.inp.getD a 0)) := by
  rw [h.cells.cell (i := 22 + a) (by omega)]; unfold mcell
  iterate 8 rw [if_neg (by omega)]
  rw [if_pos (by omega), show 22 + a - 22 = a by omega]
theorem MacC.c70 (h : MacC w F b rv bm st lp L v) : w.cell? ⟨b, 70, none⟩ = some lp := h.cells.cell (i := 70) (by omega)
theorem MacC.c71 (h : MacC w F b rv bm st lp L v) : w.cell? ⟨b, 71, none⟩ = some (.int .i64 v.held) := h.cells.cell (i := 71) (by omega)
theorem MacC.c72 (h : MacC w F b rv bm st lp L v) : w.cell? ⟨b, 72, none⟩ = some (.int .i64 v.flt) := h.cells.cell (i := 72) (by omega)
theorem MacC.c73 (h : MacC w F b rv bm st lp L v) : w.cell? ⟨b, 73, none⟩ = some (.int .i64 v.stp) := h.cells.cell (i := 73) (by omega)
theorem MacC.fz (h : MacC w F b rv bm st lp L v) (i : Nat) : w.frozen? ⟨b, i, none⟩ = false := h.cells.frozen i
theorem MacC.hm (h : MacC w F b rv bm st lp L v) : Mac w F b L v := ⟨rv, bm, st, lp, h⟩
/-- The machine's block is none of its rows'. -/
theorem MacC.ne_cells (h : MacC w F b rv bm st lp L v) {g : Nat} {cur : Array Value} {t : TypeId} (hg : w.heap[g]? = some (.cells cur t (0, 0))) (ht : t ≠ 102) : g ≠ b := by
  intro e; subst e
  obtain ⟨c, hb, _⟩ := h.cells
  rw [hg] at hb; simp at hb; exact ht hb.2
theorem MacC.ne_stk (h : MacC w F b rv bm st lp L v) {g : Nat} (hg : st.ownBlock = some g) : g ≠ b := by
  obtain ⟨cur, hc⟩ := own_type h.stk hg; exact h.ne_cells hc (by decide)
theorem MacC.ne_lps (h : MacC w F b rv bm st lp L v) {g : Nat} (hg : lp.ownBlock = some g) : g ≠ b := by
  obtain ⟨cur, hc⟩ := own_type h.lps hg; exact h.ne_cells hc (by decide)
theorem MacC.ne_row (h : MacC w F b rv bm st lp L v) {g : Nat} (hg : rv.ownBlock = some g) : g ≠ b := by
  obtain ⟨cur, hc⟩ := own_type h.row hg; exact h.ne_cells hc (by decide)
theorem MacC.ne_map (h : MacC w F b rv bm st lp L v) : bm ≠ b := by
  intro e
  obtain ⟨es, c, hb⟩ := h.map.isMap
  obtain ⟨cc, hc, _⟩ := h.cells
  rw [e, hc] at hb; cases hb
/-- A cell of the machine is set: all but its rows. -/
theorem MacC.set (h : MacC w F b rv bm st lp L v) {i : Nat} {u : Value} {v' : V} (hv : ∀ j, j < 74 → (if j = i then u else mcell b rv (.map (some bm)) st lp v j) = mcell b rv (.map (some bm)) st lp v' j)
    (h1 : v'.stk = v.stk) (h2 : v'.lps = v.lps) (h3 : v'.ret.length = 8 ∧ v'.loc.length = 8 ∧ v'.inp.length = 16 ∧ v'.outs.length = 16) : MacC (w.setCell ⟨b, i, none⟩ u) F b rv bm st lp L v' where
  cells := (h.cells.set i u).congr hv
  row := own_of_block h.row (fun g hg => Go.Deep.blk_setCell_other _ _ _ _ (h.ne_row hg))
  map := h.map.of_block (Go.Deep.blk_setCell_other _ _ _ _ h.ne_map)
  stk := by rw [h1]; exact own_of_block h.stk (fun g hg => Go.Deep.blk_setCell_other _ _ _ _ (h.ne_stk hg))
  lps := by rw [h2]; exact own_of_block h.lps (fun g hg => Go.Deep.blk_setCell_other _ _ _ _ (h.ne_lps hg))
  fb := h.fb
  fm := h.fm
  fr := h.fr
  fs := h.fs
  fl := h.fl
  lt k hk := by have := h.lt k hk; simpa [World.setCell] using this
  rl := h3.1
  ll := h3.2.1
  il := h3.2.2.1
  ol := h3.2.2.2
end
end Go.Proofs.YthncbnalnfbpnaaGreatDoor
end

section
namespace Go.Proofs.YthncbnalnfbpnaaGreatDoor
open Go.ChangeShapes Go.WideShapes Go.RowKit

theorem at_some {L : List (Int × Int × Int)} {k : Nat} {x : Int × Int × Int} (h : L[k]? = some x) : at_ L k = x := by
  unfold at_; rw [List.getD_eq_getElem?_getD, h]; rfl
theorem can_none {L : List (Int × Int × Int)} (h : ¬ (1 ≤ L.length ∧ L.length ≤ 200)) : can L = false := by
  unfold can; simp only [h, decide_false, Bool.false_and]
theorem can_wrong {L : List (Int × Int × Int)} {k : Nat} (hk : k < L.length) (h : right (at_ L k) = false) : can L = false := by
  cases hc : can L
  · rfl
  · rw [can_right hc hk] at h; cases h

set_option maxHeartbeats 1000000 in
set_option maxRecDepth 100000 in
theorem canBe_any (a : Option Addr) (n c : Nat) (L : List (Int × Int × Int)) (w : World) (hr : RowI w a n L) (hN : Nms w) :
    Calls Tryz.prog 116 #[.slice a n c] w fun e w' => e = .returned (.bool (can L)) ∧ Below w.heap.size w w' := by
  obtain ⟨R, hR⟩ : ∃ R, R = can L := ⟨_, rfl⟩
  rw [← hR]
  have HR := Lib.hid hR
  have HL := Lib.hid hr.1
  have HN := Lib.hid hN
  clear hR hN
  by_cases h0 : n = 0
  · have HQ := Lib.hid (can_none (L := L) (by rw [← HL.out]; omega))
    subst h0
    clear hr
    go_enter Tryz.func116, Tryz.ntmps116
    go_wp2
    go_ret
    exact ⟨by rw [HR.out, HQ.out]; rfl, Below.refl _ _⟩
  by_cases h1 : 200 < n
  · have HQ := Lib.hid (can_none (L := L) (by rw [← HL.out]; omega))
    have e0 : (n == 0) = false := by simpa using h0
    have e1 : ((n : Int) == 0) = false := by rw [beq_eq_false_iff_ne]; omega
    clear hr
    go_enter Tryz.func116, Tryz.ntmps116
    go_wp2
    go_ret
    exact ⟨by rw [HR.out, HQ.out]; rfl, Below.refl _ _⟩
  have e0 : (n == 0) = false := by simpa using h0
  have e1 : ((n : Int) == 0) = false := by rw [beq_eq_false_iff_ne]; omega
  have e2 : decide (200 < (n : Int)) = false := by rw [decide_eq_false_iff_not]; omega
  go_enter Tryz.func116, Tryz.ntmps116
  go_wp2
  go_loopw [15] (fun i wr => ∃ k : Nat, k ≤ n ∧ i = .int .i64 k ∧ Hid (∀ p, p < k → right (at_ L p) = true) ∧ Below w.heap.size w wr) (fun i _ => n - (intOf i).toNat)
  case atStart => exact ⟨0, by omega, rfl, fun p hp => absurd hp (by omega), Below.refl _ _⟩
  case round =>
    obtain ⟨k, hk, rfl, HA, hbl⟩ := hrel
    by_cases hlt : k < n
    · obtain ⟨b1, o1, p1, p2, p3, rfl, hB1, hx, hc1, hc2, hc3⟩ := (hr.below hbl).at_ hlt
      have hbs := hbl.size
      have G1 := hbl.alloc hbs (.cells #[.int .i64 p1, .int .i64 p2, .int .i64 p3] 70)
      have ce := right_any p1 p2 p3 _ (HN.out.below G1)
      have HX := Lib.hid (at_some hx)
      clear hx
      cases hri : right (p1, p2, p3)
      · have HQ : Hid (can L = false) := can_wrong (k := k) (by rw [← HL.out]; exact hlt) (by rw [HX.out]; exact hri)
        rw [hri] at ce
        have CE := Lib.hid ce
        clear ce hri
        go_wp2_with (go_at_call 136; refine CE.out.mono ?_; rintro e w2 ⟨rfl, hb2⟩)
        go_ret
        exact ⟨by rw [HR.out, HQ.out]; rfl, G1.trans (hb2.mono (by simp; omega))⟩
      · have HA2 : Hid (∀ p, p < k + 1 → right (at_ L p) = true) := by
          intro p hp
          by_cases e : p = k
          · rw [e, HX.out]; exact hri
          · exact HA.out p (by omega)
        rw [hri] at ce
        have CE := Lib.hid ce
        clear ce hri
        go_wp2_with (go_at_call 136; refine CE.out.mono ?_; rintro e w2 ⟨rfl, hb2⟩)
        go_roundw
        case rel => exact ⟨k + 1, by omega, by go_num, HA2, G1.trans (hb2.mono (by simp; omega))⟩
        case measure => simp [intOf]; omega
    · have HQ : Hid (can L = true) := can_iff.2 ⟨by rw [← HL.out]; omega, fun p hp => HA.out p (by rw [← HL.out] at hp; omega)⟩
      go_wp2
      go_ret
      exact ⟨by rw [HR.out, HQ.out]; rfl, hbl⟩

/-- Does what closes close it? (The first one closes.) -/
def closes (o x o2 x2 : Int) : Bool := if o = 22 then o2 == 21 else o2 == 23 && x2 == x
theorem closes_clo {i t : Int × Int × Int} (h : cls i = true) : closes i.1 i.2.1 t.1 t.2.1 = clo t i := by
  unfold closes clo
  unfold cls at h
  simp only [Bool.or_eq_true, beq_iff_eq] at h
  rcases h with h | h
  · rw [if_pos h, h]; simp
  · rw [if_neg (by omega), h]; simp
set_option maxHeartbeats 1000000 in
set_option maxRecDepth 100000 in
theorem closes_any (o x y o2 x2 y2 : Int) (w : World) :
    Calls Tryz.prog 117 #[.agg #[.int .i64 o, .int .i64 x, .int .i64 y], .agg #[.int .i64 o2, .int .i64 x2, .int .i64 y2]] w fun e w' => e = .returned (.bool (closes o x o2 x2)) ∧ Below w.heap.size w w' := by
  have G := ((Below.refl w.heap.size w).alloc (Nat.le_refl _) (.cells #[.int .i64 o, .int .i64 x, .int .i64 y] 70)).alloc (by simp) (.cells #[.int .i64 o2, .int .i64 x2, .int .i64 y2] 70)
  by_cases h : o = 22
  · subst h
    have e : closes 22 x o2 x2 = (o2 == 21) := rfl
    rw [e]
    clear e
    go_enter Tryz.func117, Tryz.ntmps117
    go_wp2
    go_ret
    exact ⟨rfl, G⟩
  · have e : closes o x o2 x2 = (o2 == 23 && x2 == x) := by unfold closes; rw [if_neg h]
    have e1 : (o == 22) = false := by simpa using h
    rw [e]
    clear e
    by_cases h2 : o2 = 23
    · subst h2
      go_enter Tryz.func117, Tryz.ntmps117
      go_wp2
      go_ret
      exact ⟨rfl, G⟩
    · have e2 : (o2 == 23) = false := by simpa using h2
      rw [e2]
      go_enter Tryz.func117, Tryz.ntmps117
      go_wp2
      go_ret
      exact ⟨rfl, G⟩
end Go.Proofs.YthncbnalnfbpnaaGreatDoor
end
