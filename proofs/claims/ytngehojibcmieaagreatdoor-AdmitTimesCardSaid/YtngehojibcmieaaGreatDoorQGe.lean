/- What is proved here: what the functions of types' effects are, and the contract of types.effects: a map that has, at each operation, a function that tells what it takes, and one that tells what it gives. Conditions: none beyond those each theorem states. the contract of types.effects: whatever order the parts of its map come in, it has, at each operation, a function that tells what it takes, and one that tells what it gives. Conditions: none. the contract of types.effects: whatever order the parts of its map come in. the contract of types.effects: it makes a map that has, at each operation, a function that tells what it takes, and one that tells what it gives. -/
import Derived.Test.YtngehojibcmieaaGreatDoorQGb
import Derived.Maps.OwnSet
import Derived.Maps.Own
set_option maxRecDepth 100000
set_option maxHeartbeats 8000000
section
section
namespace Go.Proofs.YtngehojibcmieaaGreatDoor
open Go.ChangeShapes Go.WideShapes Go.RowKit Go.Maps
theorem taking_any (s : List UInt8) (w : World) : Calls Tryz.prog 238 #[.string (bs s)] w fun e w' => ∃ b, e = .returned (.func (.func 245) #[] #[.pointer (some ⟨b, 0, none⟩)]) ∧ w.heap.size ≤ b ∧ w'.cell? ⟨b, 0, none⟩ = some (.string (bs s)) ∧ Below w.heap.size w w' := by
 go_enter Tryz.func238, Tryz.ntmps238
 go_wp2
 go_ret
 exact ⟨w.heap.size, rfl, Nat.le_refl _, by simp, below_alloc _ _⟩
theorem giving_any (s : List UInt8) (w : World) : Calls Tryz.prog 239 #[.string (bs s)] w fun e w' => ∃ b, e = .returned (.func (.func 246) #[] #[.pointer (some ⟨b, 0, none⟩)]) ∧ w.heap.size ≤ b ∧ w'.cell? ⟨b, 0, none⟩ = some (.string (bs s)) ∧ Below w.heap.size w w' := by
 go_enter Tryz.func239, Tryz.ntmps239
 go_wp2
 go_ret
 exact ⟨w.heap.size, rfl, Nat.le_refl _, by simp, below_alloc _ _⟩
theorem took_any (s : ByteArray) (w : World) (b : Nat) (h : w.cell? ⟨b, 0, none⟩ = some (.string s)) : Calls Tryz.prog 245 #[.pointer (some ⟨b, 0, none⟩)] w fun e w' => e = .returned (.string s) ∧ w = w' := by
 go_enter Tryz.func245, Tryz.ntmps245
 go_wp2
 go_ret
 exact ⟨rfl, rfl⟩
theorem gave_any (s t : ByteArray) (a : Int) (w : World) (b : Nat) (h : w.cell? ⟨b, 0, none⟩ = some (.string s)) : Calls Tryz.prog 246 #[.int .i64 a, .string t, .pointer (some ⟨b, 0, none⟩)] w fun e w' => e = .returned (.string s) ∧ w = w' := by
 go_enter Tryz.func246, Tryz.ntmps246
 go_wp2
 go_ret
 exact ⟨rfl, rfl⟩
theorem run_store_func (P : Program) (w : World) (a : Addr) (m : Mode) (fn : Fn) (first cap : Array Value) : (store a (.func fn first cap) m).run P w = stored P w a (.func fn first cap) m := run_store P w a _ m rfl
def TkV (lo : Nat) (w : World) (v : Value) (s : List UInt8) : Prop := ∃ b, v = .func (.func 245) #[] #[.pointer (some ⟨b, 0, none⟩)] ∧ lo ≤ b ∧ w.cell? ⟨b, 0, none⟩ = some (.string (bs s))
def GvV (lo : Nat) (w : World) (v : Value) (f : Int → List UInt8 → List UInt8) : Prop :=
 (∃ b s, v = .func (.func 246) #[] #[.pointer (some ⟨b, 0, none⟩)] ∧ lo ≤ b ∧ w.cell? ⟨b, 0, none⟩ = some (.string (bs s)) ∧ ∀ a t, f a t = s) ∨
 (v = .func (.func 240) #[] #[] ∧ f = gv 3) ∨ (v = .func (.func 241) #[] #[] ∧ f = gv 4) ∨ (v = .func (.func 242) #[] #[] ∧ f = gv 5)
def Keeps (w w' : World) : Prop := ∀ (p : Addr) (v : Value), w.cell? p = some v → w'.cell? p = some v
theorem keeps_below {w w' : World} (h : Below w.heap.size w w') : Keeps w w' := fun _ _ hp => keep_cell h hp
theorem TkV.keep {lo : Nat} {w w' : World} {v : Value} {s : List UInt8} (h : TkV lo w v s) (k : Keeps w w') : TkV lo w' v s := by
 obtain ⟨b, e, l, c⟩ := h; exact ⟨b, e, l, k _ _ c⟩
theorem GvV.keep {lo : Nat} {w w' : World} {v : Value} {f : Int → List UInt8 → List UInt8} (h : GvV lo w v f) (k : Keeps w w') : GvV lo w' v f := by
 rcases h with ⟨b, s, e, l, c, hf⟩ | h
 ·exact Or.inl ⟨b, s, e, l, k _ _ c, hf⟩
 ·exact Or.inr h
def Loc (lo : Nat) (w : World) (L t g : Nat) (s r : List UInt8) : Prop :=
 w.cell? ⟨L, 0, none⟩ = some (.func (.func 245) #[] #[.pointer (some ⟨t, 0, none⟩)]) ∧ w.cell? ⟨L, 1, none⟩ = some (.func (.func 246) #[] #[.pointer (some ⟨g, 0, none⟩)]) ∧ w.cell? ⟨t, 0, none⟩ = some (.string (bs s)) ∧ w.cell? ⟨g, 0, none⟩ = some (.string (bs r)) ∧ lo ≤ t ∧ lo ≤ g
theorem Loc.keep {lo : Nat} {w w' : World} {L t g : Nat} {s r : List UInt8} (h : Loc lo w L t g s r) (k : Keeps w w') : Loc lo w' L t g s r := ⟨k _ _ h.1, k _ _ h.2.1, k _ _ h.2.2.1, k _ _ h.2.2.2.1, h.2.2.2.2⟩
theorem Loc.new {lo : Nat} {w : World} {t g : Nat} {s r : List UInt8} (l1 : lo ≤ t) (l2 : lo ≤ g) (h1 : w.cell? ⟨t, 0, none⟩ = some (.string (bs s))) (h2 : w.cell? ⟨g, 0, none⟩ = some (.string (bs r))) :
  Loc lo (w.alloc (.cells #[.func (.func 245) #[] #[.pointer (some ⟨t, 0, none⟩)], .func (.func 246) #[] #[.pointer (some ⟨g, 0, none⟩)]] 257)) w.heap.size t g s r :=
 ⟨by simp, by simp, keep_cell (below_alloc _ _) h1, keep_cell (below_alloc _ _) h2, l1, l2⟩
def rdV (v : Value) : Option (DataW Value × List MemPlace) := some (.held v, [])
def Fxs (lo : Nat) (w : World) (b m : Nat) : Prop :=
 lo ≤ b ∧ ∃ D n, w.ownsMap Tryz.prog 3 rdV b n D ∧ ∀ j : Nat, j < m → ∃ t g, D.atKey (.int .i64 ((j : Int) + 1)) (.held (.agg #[.nilFunc, .nilFunc])) = .held (.agg #[t, g]) ∧ TkV lo w t (tk ((j : Int) + 1)) ∧ GvV lo w g (gv ((j : Int) + 1))
theorem key_wf {j : Nat} (h : j < 1000) : (Lit.int .i64 ((j : Int) + 1)).wf = true := WalkArith.wf_i64 (by omega)
theorem keeps_map {w w' : World} {b : Nat} {P : Program} {k : TypeId} {R : Value → Option (DataW Value × List MemPlace)} {n : Nat} {D : DataW Value} (h : w.ownsMap P k R b n D) (g : w.grownBy w' (some b)) : Keeps w w' := by
 intro p v hp
 have hlt := cell_lt hp
 have hne : p.block ≠ b := by
  intro e
  obtain ⟨es, c, hb, _⟩ := h
  unfold World.cell? at hp
  rw [e, hb] at hp
  simp at hp
 rw [World.cell?_of_block (w := w) (g.block p.block hlt (by simpa using hne))]; exact hp
theorem zero53 (w : World) : (zeroValue 257).run Tryz.prog w = .ok (.agg #[.nilFunc, .nilFunc]) w := by kernel_rfl
theorem Fxs.look {lo : Nat} {w : World} {b m : Nat} (h : Fxs lo w b m) {o : Int} (h1 : 1 ≤ o) (h2 : o ≤ m) (hm : m < 1000) :
  ∃ t g, (∀ W, Below w.heap.size w W → (Instr.lookup 248 (.map (some b)) (.int .i64 o) false).run Tryz.prog W = .ok (.agg #[t, g]) W) ∧ TkV lo w t (tk o) ∧ GvV lo w g (gv o) := by
 obtain ⟨_, D, n, hD, hf⟩ := h
 obtain ⟨j, rfl⟩ : ∃ j : Nat, o = (j : Int) + 1 := ⟨(o - 1).toNat, by omega⟩
 obtain ⟨t, g, e, ht, hg⟩ := hf j (by omega)
 refine ⟨t, g, fun W k => ?_, ht, hg⟩
 have hD2 := hD.kept (row := none) ⟨k.os, k.tape, k.output, k.size, fun i hi _ => k.block i hi⟩ (by simp)
 obtain ⟨v, ps, hrun, hv⟩ := hD2.lookup (t := 248) (e := 257) (int_keyed Tryz.underlying3) Tryz.underlying248 (zero53 W) (zd := .held (.agg #[.nilFunc, .nilFunc])) (zp := []) rfl (key := .int .i64 ((j : Int) + 1)) (keyOf_int_mk Tryz.underlying3 (key_wf (by omega)))
 rw [e] at hv
 unfold rdV at hv
 simp only [Option.some.injEq, Prod.mk.injEq, DataW.held.injEq] at hv
 rw [hv.1] at hrun
 exact hrun
def Mid (lo : Nat) (w w' : World) : Prop := w.heap.size ≤ w'.heap.size ∧ ∀ i, lo ≤ i → i < w.heap.size → w'.heap[i]? = w.heap[i]?
theorem Fxs.mid {lo : Nat} {w w' : World} {b m : Nat} (h : Fxs lo w b m) (k : Mid lo w w') : Fxs lo w' b m := by
 obtain ⟨hlo, D, n, hD, hf⟩ := h
 have kc : ∀ (p : Addr) v, lo ≤ p.block → w.cell? p = some v → w'.cell? p = some v := by
  intro p v hp hc
  rw [World.cell?_of_block (w := w) (k.2 p.block hp (cell_lt hc))]; exact hc
 refine ⟨hlo, D, n, ?_, fun j hj => ?_⟩
 ·have hlt := hD.lt
  obtain ⟨es, clock, hb, r⟩ := hD
  exact ⟨es, clock, (k.2 b hlo hlt).trans hb, r⟩
 ·obtain ⟨t, g, e, ⟨bt, e1, l1, c1⟩, hg⟩ := hf j hj
  refine ⟨t, g, e, ⟨bt, e1, l1, kc ⟨bt, 0, none⟩ _ l1 c1⟩, ?_⟩
  rcases hg with ⟨bg, s, e2, l2, c2, hh⟩ | hg
  ·exact Or.inl ⟨bg, s, e2, l2, kc ⟨bg, 0, none⟩ _ l2 c2, hh⟩
  ·exact Or.inr hg
end Go.Proofs.YtngehojibcmieaaGreatDoor
end
section
namespace Go.Proofs.YtngehojibcmieaaGreatDoor
open Go.ChangeShapes Go.WideShapes Go.RowKit Go.Maps
inductive Sp where
 | mk
 | ld (r d k : Nat)
 | tkc (d k : Nat) (s : List UInt8)
 | gvc (d k : Nat) (s : List UInt8)
 | bd (d x y k ix iy : Nat)
 | bf (d x f k ix : Nat)
 | ins (k d i : Nat)
 | mv
 | asg
 deriving DecidableEq
def Sp.dst : Sp → Option Nat
 | .mk => some 17
 | .ld _ d _ | .tkc d _ _ | .gvc d _ _ | .bd d _ _ _ _ _ | .bf d _ _ _ _ => some d
 | .ins _ _ _ => none
 | .mv => some 56
 | .asg => some 0
def Sp.op : Sp → Op
 | .mk => .makeMap 248 none
 | .ld r _ _ => .load 257 (.tmp r)
 | .tkc _ _ s => .call { callee := .value (.func 238), args := #[.const (.string (bs s))], argTypes := #[9] }
 | .gvc _ _ s => .call { callee := .value (.func 239), args := #[.const (.string (bs s))], argTypes := #[9] }
 | .bd _ x y _ _ _ => .build 257 #[(0, .tmp x), (1, .tmp y)]
 | .bf _ x f _ _ => .build 257 #[(0, .tmp x), (1, .func f)]
 | .ins k d _ => .insert 248 (.tmp 17) (.const (.int .i64 k)) (.tmp d)
 | .mv => .move (.tmp 17)
 | .asg => .assign (.tmp 56)
def Sp.deps : Sp → List Nat
 | .bd _ _ _ _ ix iy => [ix, iy]
 | .bf _ _ _ _ ix => [ix]
 | .ins _ _ i => [0, i]
 | .mv => [0]
 | .asg => [64]
 | _ => []
def spec : List Sp := [.mk, .ld 1 18 1, .ins 1 18 1, .tkc 19 2 [32], .gvc 20 2 [], .bd 21 19 20 2 3 4, .ins 2 21 5, .tkc 22 3 [32], .bf 23 22 240 3 7, .ins 3 23 8, .tkc 24 4 [32, 32], .bf 25 24 241 4 10, .ins 4 25 11, .tkc 26 5 [105, 105], .bf 27 26 242 5 13, .ins 5 27 14, .tkc 28 6 [105], .gvc 29 6 [105], .bd 30 28 29 6 16 17, .ins 6 30 18, .tkc 31 7 [98], .gvc 32 7 [98], .bd 33 31 32 7 20 21, .ins 7 33 22, .ld 3 34 8, .ins 8 34 24, .ld 3 35 9, .ins 9 35 26, .tkc 36 10 [98], .gvc 37 10 [105], .bd 38 36 37 10 28 29, .ins 10 38 30, .ld 1 39 11, .ins 11 39 32, .ld 2 40 12, .ins 12 40 34, .ld 1 41 13, .ins 13 41 36, .ld 2 42 14, .ins 14 42 38, .ld 1 43 15, .ins 15 43 40, .ld 2 44 16, .ins 16 44 42, .ld 1 45 17, .ins 17 45 44, .ld 2 46 18, .ins 18 46 46, .ld 4 47 19, .ins 19 47 48, .tkc 48 20 [98], .gvc 49 20 [], .bd 50 48 49 20 50 51, .ins 20 50 52, .ld 4 51 21, .ins 21 51 54, .ld 4 52 22, .ins 22 52 56, .ld 4 53 23, .ins 23 53 58, .ld 4 54 24, .ins 24 54 60, .ld 4 55 25, .ins 25 55 62, .mv, .asg]
def lt_ : Nat → List UInt8 × List UInt8
 | 1 => ([], [105])
 | 2 => ([105], [])
 | 3 => ([98, 98], [98])
 | _ => ([], [])
def pairAt (s : Option Sp) (d k : Nat) : Bool := match s with
 | some (.ld _ d' k') => d' == d && k' == k
 | some (.bd d' _ _ k' _ _) => d' == d && k' == k
 | some (.bf d' _ _ k' _) => d' == d && k' == k
 | _ => false
def sok (s : Sp) : Bool := match s with
 | .ld r _ k => decide (1 ≤ r) && decide (r ≤ 4) && decide (tk (k : Int) = (lt_ r).1) && decide (gv (k : Int) 0 [] = (lt_ r).2) && !(k == 3 || k == 4 || k == 5)
 | .tkc _ k s => decide (tk (k : Int) = s)
 | .gvc _ k s => decide (gv (k : Int) 0 [] = s) && !(k == 3 || k == 4 || k == 5)
 | .bd _ x y k ix iy => decide (spec[ix]? = some (.tkc x k (tk (k : Int)))) && decide (spec[iy]? = some (.gvc y k (gv (k : Int) 0 [])))
 | .bf _ x f k ix => decide (spec[ix]? = some (.tkc x k (tk (k : Int)))) && ((f == 240 && k == 3) || (f == 241 && k == 4) || (f == 242 && k == 5))
 | .ins k d i => decide (1 ≤ k) && decide (k ≤ 25) && pairAt spec[i]? d k
 | _ => true
theorem spec_ok : spec.all sok = true := by decide +kernel
theorem spec_len : spec.length = 66 := rfl
theorem spec_dst : (spec.filterMap Sp.dst).Nodup := by decide +kernel
theorem spec_low : spec.all (fun s => match s.dst with | none => true | some d => (d == 0 || decide (17 ≤ d)) && decide (d < 57)) = true := by decide +kernel
theorem spec_ins : (List.range 25).all (fun k => (List.range 66).any fun i => match spec[i]? with | some (.ins k' _ _) => k' == k + 1 | _ => false) = true := by decide +kernel
theorem spec_mv : spec[64]? = some .mv := rfl
theorem spec_asg : spec[65]? = some .asg := rfl
theorem spec_mk : spec[0]? = some .mk := rfl
theorem nodup_idx {l : List Sp} (h : (l.filterMap Sp.dst).Nodup) : ∀ {i j : Nat} {s t : Sp} {d : Nat}, l[i]? = some s → l[j]? = some t → s.dst = some d → t.dst = some d → i = j := by
 induction l with
 | nil => intro i j s t d hi; simp at hi
 | cons x l ih =>
  have mem : ∀ {j : Nat} {t : Sp} {d : Nat}, l[j]? = some t → t.dst = some d → d ∈ l.filterMap Sp.dst := fun h1 h2 => List.mem_filterMap.2 ⟨_, List.mem_of_getElem? h1, h2⟩
  have ht : (l.filterMap Sp.dst).Nodup := by
   rw [List.filterMap_cons] at h
   split at h
   ·exact h
   ·exact (List.nodup_cons.1 h).2
  have hx : ∀ d, x.dst = some d → d ∉ l.filterMap Sp.dst := by
   intro d hd
   rw [List.filterMap_cons, hd] at h
   exact (List.nodup_cons.1 h).1
  intro i j s t d hi hj hs hd
  cases i with
  | zero =>
   cases j with
   | zero => rfl
   | succ j =>
    simp only [List.getElem?_cons_zero, Option.some.injEq, List.getElem?_cons_succ] at hi hj
    subst hi
    exact absurd (mem hj hd) (hx d hs)
  | succ i =>
   cases j with
   | zero =>
    simp only [List.getElem?_cons_zero, Option.some.injEq, List.getElem?_cons_succ] at hi hj
    subst hj
    exact absurd (mem hi hs) (hx d hd)
   | succ j =>
    simp only [List.getElem?_cons_succ] at hi hj
    rw [ih ht hi hj hs hd]
theorem dst_ne {i j : Nat} {s t : Sp} {d e : Nat} (hi : spec[i]? = some s) (hj : spec[j]? = some t) (hs : s.dst = some d) (ht : t.dst = some e) (h : i ≠ j) : d ≠ e := by
 intro e2; subst e2; exact h (nodup_idx spec_dst hi hj hs ht)
theorem sok_of {i : Nat} {s : Sp} (h : spec[i]? = some s) : sok s = true := List.all_eq_true.1 spec_ok s (List.mem_of_getElem? h)
theorem low_of {i d : Nat} {s : Sp} (h : spec[i]? = some s) (hd : s.dst = some d) : (d = 0 ∨ 17 ≤ d) ∧ d < 57 := by
 have := List.all_eq_true.1 spec_low s (List.mem_of_getElem? h)
 rw [hd] at this
 simpa using this
theorem gv_same {k : Int} (h : k ≠ 3 ∧ k ≠ 4 ∧ k ≠ 5) (a : Int) (t : List UInt8) : gv k a t = gv k 0 [] := by
 unfold gv; rw [if_neg h.1, if_neg h.2.1, if_neg h.2.2, if_neg h.1, if_neg h.2.1, if_neg h.2.2]
def Pair (lo : Nat) (w : World) (v : Value) (k : Int) : Prop := ∃ t g, v = .agg #[t, g] ∧ TkV lo w t (tk k) ∧ GvV lo w g (gv k)
theorem Pair.keep {lo : Nat} {w w' : World} {v : Value} {k : Int} (h : Pair lo w v k) (K : Keeps w w') : Pair lo w' v k := by
 obtain ⟨t, g, e, h1, h2⟩ := h; exact ⟨t, g, e, h1.keep K, h2.keep K⟩
def Ok (lo : Nat) (s : Sp) (a : Act) (w : World) : Prop := match s with
 | .ld _ d k | .bd d _ _ k _ _ | .bf d _ _ k _ => Pair lo w (a.eval (.tmp d)) k
 | .tkc d k _ => TkV lo w (a.eval (.tmp d)) (tk (k : Int))
 | .gvc d k _ => GvV lo w (a.eval (.tmp d)) (gv (k : Int))
 | .mv => a.eval (.tmp 56) = a.eval (.tmp 17)
 | .asg => a.eval (.tmp 0) = a.eval (.tmp 17)
 | _ => True
theorem Ok.keep {lo : Nat} {s : Sp} {a : Act} {w w' : World} (h : Ok lo s a w) (K : Keeps w w') : Ok lo s a w' := by
 cases s <;> first | exact Pair.keep h K | exact TkV.keep h K | exact GvV.keep h K | exact h
def MapOk (w0 : World) (listed : Array Bool) (a : Act) (w : World) : Prop :=
 ∃ b D n, a.eval (.tmp 17) = .map (some b) ∧ w0.heap.size ≤ b ∧ w.ownsMap Tryz.prog 3 rdV b n D ∧ n + unlB listed ≤ 66 ∧
  ∀ (i k d j : Nat), spec[i]? = some (.ins k d j) → listed.getD i true = true → ∃ v, D.atKey (.int .i64 (k : Int)) (.held (.agg #[.nilFunc, .nilFunc])) = .held v ∧ Pair w0.heap.size w v k
structure Inv (w0 : World) (L : Nat → Nat) (listed : Array Bool) (a : Act) (w : World) : Prop where
 size : a.tmps.size = 57
 defs : a.defers = []
 lsz : listed.size = 66
 bl : Below w0.heap.size w0 w
 vars : ∀ r : Nat, 1 ≤ r → r ≤ 4 → a.eval (.tmp r) = .pointer (some ⟨L r, 0, none⟩) ∧ ∃ t g, Loc w0.heap.size w (L r) t g (lt_ r).1 (lt_ r).2
 oks : ∀ (i : Nat) s, spec[i]? = some s → listed.getD i true = true → Ok w0.heap.size s a w
 map : listed.getD 0 true = true → MapOk w0 listed a w
theorem eval_same {a : Act} {d : Nat} (v : Value) (h : d < a.tmps.size) : (a.put (some d) v).eval (.tmp d) = v := by
 unfold Act.put Act.eval; simp [h]
theorem eval_other {a : Act} {d e : Nat} (v : Value) (h : d ≠ e) : (a.put (some d) v).eval (.tmp e) = a.eval (.tmp e) := by
 unfold Act.put Act.eval; simp [Array.getElem?_setIfInBounds_ne h]
theorem size_put (a : Act) (d : Option Nat) (v : Value) : (a.put d v).tmps.size = a.tmps.size := by
 unfold Act.put; cases d <;> simp
theorem defs_put (a : Act) (d : Option Nat) (v : Value) : (a.put d v).defers = a.defers := by
 unfold Act.put; cases d <;> rfl
theorem Ok.put {lo i j d : Nat} {s t : Sp} {a : Act} {w : World} (h : Ok lo s a w) (hi : spec[i]? = some s) (hj : spec[j]? = some t) (ht : t.dst = some d) (hij : i ≠ j) (h17 : d ≠ 17 ∨ (s ≠ .mv ∧ s ≠ .asg)) (v : Value) : Ok lo s (a.put (some d) v) w := by
 have ne : ∀ e, s.dst = some e → d ≠ e := fun e he => dst_ne hj hi ht he (Ne.symm hij)
 cases s with
 | mk => trivial
 | ins k d i => trivial
 | mv =>
  have h2 : d ≠ 17 := h17.resolve_right (by simp)
  show _ = _
  rw [eval_other v (ne 56 rfl), eval_other v h2]; exact h
 | asg =>
  have h2 : d ≠ 17 := h17.resolve_right (by simp)
  show _ = _
  rw [eval_other v (ne 0 rfl), eval_other v h2]; exact h
 | ld r e k => show Pair _ _ _ _; rw [eval_other v (ne e rfl)]; exact h
 | bd e x y k ix iy => show Pair _ _ _ _; rw [eval_other v (ne e rfl)]; exact h
 | bf e x f k ix => show Pair _ _ _ _; rw [eval_other v (ne e rfl)]; exact h
 | tkc e k s => show TkV _ _ _ _; rw [eval_other v (ne e rfl)]; exact h
 | gvc e k s => show GvV _ _ _ _; rw [eval_other v (ne e rfl)]; exact h
theorem listed_of {listed : Array Bool} {i j : Nat} (h : (listed.setIfInBounds i true).getD j true = true) (hij : j ≠ i) : listed.getD j true = true := by
 rw [getD_set_ne true (Ne.symm hij)] at h; exact h
theorem listed_true {listed : Array Bool} {i : Nat} (h : listed.getD i false = true) : listed.getD i true = true := by
 rcases Nat.lt_or_ge i listed.size with h' | h'
 ·simpa [h'] using h
 ·simp [Array.getElem?_eq_none h']
theorem Inv.step {w0 : World} {L : Nat → Nat} {listed : Array Bool} {a : Act} {w w' : World} {i d : Nat} {s : Sp} {v : Value} (h : Inv w0 L listed a w) (hi : spec[i]? = some s) (hl : listed.getD i true = false) (hd : s.dst = some d) (h17 : d ≠ 17)
  (hb : Below w.heap.size w w') (hk : Ok w0.heap.size s (a.put (some d) v) w') : Inv w0 L (listed.setIfInBounds i true) (a.put (some d) v) w' := by
 have K := keeps_below hb
 obtain ⟨hlow, hd57⟩ := low_of hi hd
 refine ⟨by rw [size_put]; exact h.size, by rw [defs_put]; exact h.defs, by simpa using h.lsz, keep_below h.bl hb, ?_, ?_, ?_⟩
 ·intro (r : Nat) h1 h2
  obtain ⟨e, t, g, hloc⟩ := h.vars r h1 h2
  exact ⟨by rw [eval_other v (show d ≠ r by omega)]; exact e, t, g, hloc.keep K⟩
 ·intro j t hj hjl
  by_cases e : j = i
  ·subst e; rw [hi] at hj; cases hj; exact hk
  ·exact ((h.oks j t hj (listed_of hjl e)).keep K).put hj hi hd e (Or.inl h17) v
 ·intro h0
  have hi0 : 0 ≠ i := by
   intro e; subst e; rw [spec_mk] at hi; cases hi; cases hd; exact h17 rfl
  obtain ⟨b, D, n, e1, e2, e3, e4, e5⟩ := h.map (listed_of h0 hi0)
  have hu := unlB_set hl
  refine ⟨b, D, n, by rw [eval_other v h17]; exact e1, e2, e3.kept (row := none) ⟨hb.os, hb.tape, hb.output, hb.size, fun i hi _ => hb.block i hi⟩ (by simp), by omega, ?_⟩
  intro m k d' j hm hml
  by_cases e : m = i
  ·subst e; rw [hi] at hm; cases hm; cases hd
  ·obtain ⟨v2, g1, g2⟩ := e5 m k d' j hm (listed_of hml e)
   exact ⟨v2, g1, g2.keep K⟩
theorem Inv.made {w0 : World} {L : Nat → Nat} {listed : Array Bool} {a : Act} {w : World} (h : Inv w0 L listed a w) (hno : ∀ (i k d j : Nat), spec[i]? = some (.ins k d j) → listed.getD i true = false)
  (hno2 : ∀ i : Nat, spec[i]? = some .mv ∨ spec[i]? = some .asg → listed.getD i true = false) :
  Inv w0 L (listed.setIfInBounds 0 true) (a.put (some 17) (.map (some w.heap.size))) (w.alloc (.map #[] 0)) := by
 have hb := below_alloc w (.map #[] 0)
 have K := keeps_below hb
 refine ⟨by rw [size_put]; exact h.size, by rw [defs_put]; exact h.defs, by simpa using h.lsz, keep_below h.bl hb, ?_, ?_, ?_⟩
 ·intro (r : Nat) h1 h2
  obtain ⟨e, t, g, hloc⟩ := h.vars r h1 h2
  exact ⟨by rw [eval_other _ (show 17 ≠ r by omega)]; exact e, t, g, hloc.keep K⟩
 ·intro j t hj hjl
  by_cases e : j = 0
  ·subst e; rw [spec_mk] at hj; cases hj; trivial
  ·have hj2 := listed_of hjl e
   refine ((h.oks j t hj hj2).keep K).put hj spec_mk rfl e (Or.inr ⟨?_, ?_⟩) _
   ·intro e2; subst e2; rw [hno2 j (Or.inl hj)] at hj2; cases hj2
   ·intro e2; subst e2; rw [hno2 j (Or.inr hj)] at hj2; cases hj2
 ·intro _
  have hu : unlB (listed.setIfInBounds 0 true) ≤ 66 := by
   unfold unlB
   have := List.countP_le_length (p := fun x => !x) (l := (listed.setIfInBounds 0 true).toList)
   simp [h.lsz] at this ⊢
   omega
  refine ⟨w.heap.size, .map [], 0, eval_same _ (by rw [h.size]; decide), h.bl.size, World.ownsMap_made w Tryz.prog 3 rdV, by omega, ?_⟩
  intro m k d' j hm hml
  have hm0 : m ≠ 0 := by intro e; subst e; rw [spec_mk] at hm; cases hm
  have hml2 := listed_of hml hm0
  rw [hno m k d' j hm] at hml2; cases hml2
theorem Inv.insert {w0 : World} {L : Nat → Nat} {listed : Array Bool} {a : Act} {w : World} {i k d j : Nat} (h : Inv w0 L listed a w) (hi : spec[i]? = some (.ins k d j)) (hl : listed.getD i true = false) (h0 : listed.getD 0 true = true) (hk : 1 ≤ k ∧ k ≤ 25)
  {t g : Value} (hp : Pair w0.heap.size w (.agg #[t, g]) k) :
  ∃ b w', a.eval (.tmp 17) = .map (some b) ∧ (Instr.mapUpdate 248 (.map (some b)) (.int .i64 (k : Int)) (.agg #[t, g])).run Tryz.prog w = .ok () w' ∧ Inv w0 L (listed.setIfInBounds i true) a w' := by
 obtain ⟨b, D, n, e1, e2, e3, e4, e5⟩ := h.map h0
 have hu := unlB_set hl
 have hi0 : 0 ≠ i := by intro e; subst e; rw [hl] at h0; cases h0
 obtain ⟨w', hrun, hD', hgr⟩ := e3.update (t := 248) (e := 257) (int_keyed Tryz.underlying3) Tryz.underlying248 (by unfold maxLen; omega) (key := .int .i64 (k : Int)) (val := .agg #[t, g]) (keyOf_int_mk Tryz.underlying3 (WalkArith.wf_i64 (by omega))) (d := .held (.agg #[t, g])) (ps := []) rfl
 have K := keeps_map e3 hgr
 refine ⟨b, w', e1, hrun, h.size, h.defs, by simpa using h.lsz, h.bl.grown hgr h.bl.size (fun m hm => by cases hm; exact e2), ?_, ?_, ?_⟩
 ·intro (r : Nat) h1 h2
  obtain ⟨e, t, g, hloc⟩ := h.vars r h1 h2
  exact ⟨e, t, g, hloc.keep K⟩
 ·intro m s hm hml
  by_cases e : m = i
  ·subst e; rw [hi] at hm; cases hm; trivial
  ·exact (h.oks m s hm (listed_of hml e)).keep K
 ·intro _
  refine ⟨b, _, n + 1, e1, e2, hD', by omega, ?_⟩
  intro m k' d' j' hm hml
  by_cases ek : k' = k
  ·subst ek
   exact ⟨_, atKey_put_same e3.isMap (by unfold WideAt.IsKeyLit; trivial) _ _, hp.keep K⟩
  ·have hmi : m ≠ i := by intro e; subst e; rw [hi] at hm; cases hm; exact ek rfl
   obtain ⟨v, g1, g2⟩ := e5 m k' d' j' hm (listed_of hml hmi)
   refine ⟨v, ?_, g2.keep K⟩
   rw [atKey_put_other (by intro e2; simp only [Lit.int.injEq, true_and] at e2; omega)]; exact g1
end Go.Proofs.YtngehojibcmieaaGreatDoor
end
section
namespace Go.Proofs.YtngehojibcmieaaGreatDoor
open Go.ChangeShapes Go.WideShapes Go.RowKit Go.Maps
theorem run_load53 (w : World) (p : Nat) (c d : Array Value) (h0 : w.cell? ⟨p, 0, none⟩ = some (.func (.func 245) #[] c)) (h1 : w.cell? ⟨p, 1, none⟩ = some (.func (.func 246) #[] d)) :
  (Instr.loadAt 257 (.pointer (some ⟨p, 0, none⟩))).run Tryz.prog w = .ok (.agg #[.func (.func 245) #[] c, .func (.func 246) #[] d]) w := by
 go_simp
theorem run_build53 (w : World) (f : Fn) (c d : Array Value) (g : Fn) :
  (Instr.build 257 #[(0, .func f #[] c), (1, .func g #[] d)]).run Tryz.prog w = .ok (.agg #[.func f #[] c, .func g #[] d]) w := by
 go_simp
theorem wp_call32 {o : Oper} {a : Act} {w : World} {K : Act → World → Prop} {Q : Exit → Act → World → Prop} (s : List UInt8) (hop : o.op = .call { callee := .value (.func 238), args := #[.const (.string (bs s))], argTypes := #[9] })
  (h : ∀ b w', w.heap.size ≤ b → w'.cell? ⟨b, 0, none⟩ = some (.string (bs s)) → Below w.heap.size w w' → K (a.put o.dst (.func (.func 245) #[] #[.pointer (some ⟨b, 0, none⟩)])) w') : o.wp Tryz.prog a w K Q := by
 unfold Oper.wp
 have : (execOp a.eval o).run Tryz.prog w = .ok (.enter 238 #[.string (bs s)]) w := by
  simp only [execOp, hop]
  go_simp
 rw [this]
 refine (taking_any s w).mono ?_
 rintro e w' ⟨b, rfl, h0, h1, h2⟩
 exact h b w' h0 h1 h2
theorem wp_call33 {o : Oper} {a : Act} {w : World} {K : Act → World → Prop} {Q : Exit → Act → World → Prop} (s : List UInt8) (hop : o.op = .call { callee := .value (.func 239), args := #[.const (.string (bs s))], argTypes := #[9] })
  (h : ∀ b w', w.heap.size ≤ b → w'.cell? ⟨b, 0, none⟩ = some (.string (bs s)) → Below w.heap.size w w' → K (a.put o.dst (.func (.func 246) #[] #[.pointer (some ⟨b, 0, none⟩)])) w') : o.wp Tryz.prog a w K Q := by
 unfold Oper.wp
 have : (execOp a.eval o).run Tryz.prog w = .ok (.enter 239 #[.string (bs s)]) w := by
  simp only [execOp, hop]
  go_simp
 rw [this]
 refine (giving_any s w).mono ?_
 rintro e w' ⟨b, rfl, h0, h1, h2⟩
 exact h b w' h0 h1 h2
def Dep (listed : Array Bool) : Prop := ∀ (i : Nat) s, spec[i]? = some s → listed.getD i true = true → ∀ x ∈ s.deps, listed.getD x true = true
theorem Dep.set {listed : Array Bool} {i : Nat} {s : Sp} (h : Dep listed) (hi : spec[i]? = some s) (hd : ∀ x ∈ s.deps, listed.getD x true = true) : Dep (listed.setIfInBounds i true) := by
 have up : ∀ x, listed.getD x true = true → (listed.setIfInBounds i true).getD x true = true := by
  intro x hx
  by_cases e : i = x
  ·subst e
   rcases Nat.lt_or_ge i listed.size with h' | h'
   ·simp [h']
   ·simp
  ·rw [getD_set_ne true e]; exact hx
 intro j t hj hl x hx
 by_cases e : j = i
 ·subst e; rw [hi] at hj; cases hj; exact up x (hd x hx)
 ·exact up x (h j t hj (listed_of hl e) x hx)
theorem eff_region {id : Nat} {ops : Array Oper} {Q : Exit → Act → World → Prop} {a : Act} {w : World}
  (hs : ops.toList.map (fun o => (o.dst, o.op, o.guard)) = spec.map (fun s => (s.dst, s.op, none)))
  (hd : ((ops.toList.zip spec).all fun x => x.2.deps.all fun d => x.1.after.any fun e => e.on == d && Region.binds .any e) = true)
  (ht : ((List.range 66).all fun i => match ops[i]? with | some o => o.after.all fun e => decide (e.on < i) | none => true) = true)
  (hm : Tryz.prog.follows .mixedOrders = true)
  (w0 : World) (L : Nat → Nat) (hI : Inv w0 L (Array.replicate 66 false) a w.drew)
  (hQ : ∀ a w b, a.eval (.tmp 0) = .map (some b) → a.defers = [] → Fxs w0.heap.size w b 25 → Below w0.heap.size w0 w → Q .normal a w) : (Code.region id ops true).wp Tryz.prog Q a w := by
 have hlen : ops.size = 66 := by
  have := congrArg List.length hs
  simpa [spec_len] using this
 have hsp : ∀ (i : Nat) o, ops[i]? = some o → ∃ s, spec[i]? = some s ∧ o.dst = s.dst ∧ o.op = s.op ∧ o.guard = none ∧ ∀ d ∈ s.deps, ∃ e ∈ o.after, e.on = d ∧ Region.binds .any e = true := by
  intro i o ho
  have ho2 : ops.toList[i]? = some o := by simpa using ho
  have h1 : (ops.toList.map (fun o => (o.dst, o.op, o.guard)))[i]? = some (o.dst, o.op, o.guard) := by rw [List.getElem?_map, ho2]; rfl
  rw [hs, List.getElem?_map] at h1
  cases h2 : spec[i]? with
  | none => rw [h2] at h1; simp at h1
  | some s =>
   rw [h2] at h1
   simp only [Option.map_some, Option.some.injEq, Prod.mk.injEq] at h1
   refine ⟨s, rfl, h1.1.symm, h1.2.1.symm, h1.2.2.symm, fun d hdd => ?_⟩
   have h3 := List.all_eq_true.1 hd (o, s) (List.mem_of_getElem? (by rw [List.getElem?_zip_eq_some]; exact ⟨ho2, h2⟩))
   have h4 := List.all_eq_true.1 h3 d hdd
   obtain ⟨e, he, h5⟩ := Array.any_eq_true'.1 h4
   simp only [Bool.and_eq_true, beq_iff_eq] at h5
   exact ⟨e, he, h5.1, h5.2⟩
 refine wp_region_any hm (wpAny_inv (I := fun listed a w => Inv w0 L listed a w ∧ Dep listed) ?_ ?_ ?_ ops.size _ a _ (by simp) ?_ ⟨by rw [hlen]; exact hI, ?_⟩)
 ·intro i o ho e he
  have hi : i < 66 := by rw [← hlen]; exact (Array.getElem?_eq_some_iff.1 ho).1
  have := List.all_eq_true.1 ht i (by simpa using hi)
  rw [ho] at this
  simpa using Array.all_eq_true'.1 this e he
 ·rintro listed a w hall ⟨h, _⟩
  obtain ⟨b, D, n, e1, e2, e3, e4, e5⟩ := h.map (hall 0)
  have h0 : Ok w0.heap.size .asg a w := h.oks _ _ spec_asg (hall _)
  refine hQ a w b ?_ h.defs ?_ h.bl
  ·have : a.eval (.tmp 0) = a.eval (.tmp 17) := h0
   rw [this]; exact e1
  ·refine ⟨e2, D, n, e3, fun j hj => ?_⟩
   have h1 := List.all_eq_true.1 spec_ins j (by simpa using hj)
   rw [List.any_eq_true] at h1
   obtain ⟨i, _, h2⟩ := h1
   cases h3 : spec[i]? with
   | none => rw [h3] at h2; simp at h2
   | some s =>
    rw [h3] at h2
    cases s <;> simp at h2
    rename_i k d x
    obtain ⟨v, g1, t, g, rfl, g2, g3⟩ := e5 i k d x h3 (hall i)
    subst h2
    exact ⟨t, g, by simpa using g1, by simpa using g2, by simpa using g3⟩
 ·rintro listed a w i o ho hl hdeps ⟨h, hD⟩
  obtain ⟨s, hs1, hdst, hop, hgd, hdd⟩ := hsp i o ho
  have hdl : ∀ x ∈ s.deps, listed.getD x true = true := by
   intro x hx
   obtain ⟨e, he, h1, h2⟩ := hdd x hx
   rw [← h1]; exact listed_true (hdeps e he h2)
  have hD' := hD.set hs1 hdl
  refine ⟨hgd, ?_⟩
  have hok := sok_of hs1
  cases s with
  | mk =>
   have hi0 : i = 0 := nodup_idx spec_dst hs1 spec_mk rfl rfl
   subst hi0
   unfold Oper.wp
   simp only [execOp, hop, Sp.op, Option.map_none]
   have hr : ((Instr.makeMap 248 none).run Tryz.prog w) = _ := run_makeMap 42 w
   simp [hr, Result.andThen, Oper.upon, hdst, Sp.dst]
   have no0 : ∀ (i : Nat) s, spec[i]? = some s → 0 ∈ s.deps → listed.getD i true = false := by
    intro i s hi h0
    cases hq : listed.getD i true
    ·rfl
    ·have := hD i s hi hq 0 h0
     rw [hl] at this; cases this
   refine ⟨h.made (fun i k d j hi => no0 i _ hi (by simp [Sp.deps])) ?_, hD'⟩
   rintro i (hi | hi)
   ·exact no0 i _ hi (by simp [Sp.deps])
   ·cases hq : listed.getD i true
    ·rfl
    ·have h1 := hD i _ hi hq 64 (by simp [Sp.deps])
     rw [no0 64 _ spec_mv (by simp [Sp.deps])] at h1; cases h1
  | ld r d k =>
   simp only [sok, Bool.and_eq_true, decide_eq_true_eq, Bool.not_eq_true', Bool.or_eq_false_iff, beq_eq_false_iff_ne] at hok
   obtain ⟨⟨⟨⟨h1, h2⟩, h3⟩, h4⟩, h5⟩ := hok
   obtain ⟨e, t, g, hloc⟩ := h.vars r h1 h2
   have hr := run_load53 w (L r) _ _ hloc.1 hloc.2.1
   unfold Oper.wp
   simp only [execOp, hop, Sp.op, e]
   simp [hr, Result.andThen, Oper.upon, hdst, Sp.dst]
   refine ⟨h.step hs1 hl rfl ?_ (Below.refl _ _) ?_, hD'⟩
   ·intro e17; subst e17; exact absurd (nodup_idx spec_dst hs1 spec_mk rfl rfl) (by intro e0; subst e0; rw [spec_mk] at hs1; cases hs1)
   ·show Pair _ _ _ _
    rw [eval_same _ (by rw [h.size]; exact (low_of hs1 rfl).2)]
    refine ⟨_, _, rfl, ⟨t, rfl, hloc.2.2.2.2.1, by rw [h3]; exact hloc.2.2.1⟩, Or.inl ⟨g, _, rfl, hloc.2.2.2.2.2, hloc.2.2.2.1, fun a t => ?_⟩⟩
    rw [gv_same (by omega), h4]
  | tkc d k s =>
   simp only [sok, decide_eq_true_eq] at hok
   refine wp_call32 s hop fun b w' h0 h1 h2 => ?_
   rw [hdst]
   refine ⟨h.step hs1 hl rfl ?_ h2 ?_, hD'⟩
   ·intro e17; subst e17; exact absurd (nodup_idx spec_dst hs1 spec_mk rfl rfl) (by intro e0; subst e0; rw [spec_mk] at hs1; cases hs1)
   ·show TkV _ _ _ _
    rw [eval_same _ (by rw [h.size]; exact (low_of hs1 rfl).2), hok]
    exact ⟨b, rfl, Nat.le_trans h.bl.size h0, h1⟩
  | gvc d k s =>
   simp only [sok, Bool.and_eq_true, decide_eq_true_eq, Bool.not_eq_true', Bool.or_eq_false_iff, beq_eq_false_iff_ne] at hok
   refine wp_call33 s hop fun b w' h0 h1 h2 => ?_
   rw [hdst]
   refine ⟨h.step hs1 hl rfl ?_ h2 ?_, hD'⟩
   ·intro e17; subst e17; exact absurd (nodup_idx spec_dst hs1 spec_mk rfl rfl) (by intro e0; subst e0; rw [spec_mk] at hs1; cases hs1)
   ·show GvV _ _ _ _
    rw [eval_same _ (by rw [h.size]; exact (low_of hs1 rfl).2)]
    refine Or.inl ⟨b, s, rfl, Nat.le_trans h.bl.size h0, h1, fun a t => ?_⟩
    rw [gv_same (by omega), hok.1]
  | bd d x y k ix iy =>
   simp only [sok, Bool.and_eq_true, decide_eq_true_eq] at hok
   have k1 : TkV w0.heap.size w (a.eval (.tmp x)) (tk (k : Int)) := h.oks _ _ hok.1 (hdl ix (by simp [Sp.deps]))
   have k2 : GvV w0.heap.size w (a.eval (.tmp y)) (gv (k : Int)) := h.oks _ _ hok.2 (hdl iy (by simp [Sp.deps]))
   have k3 : ∃ f c, a.eval (.tmp y) = .func f #[] c := by
    rcases k2 with ⟨b, s, e, _⟩ | ⟨e, _⟩ | ⟨e, _⟩ | ⟨e, _⟩ <;> exact ⟨_, _, e⟩
   obtain ⟨f, c, e2⟩ := k3
   have k1' := k1
   obtain ⟨b, e1, _⟩ := k1'
   rw [e1] at k1
   rw [e2] at k2
   have hr := run_build53 w (.func 245) #[.pointer (some ⟨b, 0, none⟩)] c f
   unfold Oper.wp
   simp only [execOp, hop, Sp.op, List.map_toArray, List.map_cons, List.map_nil, e1, e2]
   simp [hr, Result.andThen, Oper.upon, hdst, Sp.dst]
   refine ⟨h.step hs1 hl rfl ?_ (Below.refl _ _) ?_, hD'⟩
   ·intro e17; subst e17; exact absurd (nodup_idx spec_dst hs1 spec_mk rfl rfl) (by intro e0; subst e0; rw [spec_mk] at hs1; cases hs1)
   ·show Pair _ _ _ _
    rw [eval_same _ (by rw [h.size]; exact (low_of hs1 rfl).2)]
    exact ⟨_, _, rfl, k1, k2⟩
  | bf d x f k ix =>
   simp only [sok, Bool.and_eq_true, decide_eq_true_eq, Bool.or_eq_true, beq_iff_eq] at hok
   have k1 : TkV w0.heap.size w (a.eval (.tmp x)) (tk (k : Int)) := h.oks _ _ hok.1 (hdl ix (by simp [Sp.deps]))
   have k2 : GvV w0.heap.size w (.func (.func f) #[] #[]) (gv (k : Int)) := by
    rcases hok.2 with (⟨rfl, rfl⟩ | ⟨rfl, rfl⟩) | ⟨rfl, rfl⟩
    ·exact Or.inr (Or.inl ⟨rfl, rfl⟩)
    ·exact Or.inr (Or.inr (Or.inl ⟨rfl, rfl⟩))
    ·exact Or.inr (Or.inr (Or.inr ⟨rfl, rfl⟩))
   have k1' := k1
   obtain ⟨b, e1, _⟩ := k1'
   rw [e1] at k1
   have e2 : a.eval (.func f) = .func (.func f) #[] #[] := rfl
   have hr := run_build53 w (.func 245) #[.pointer (some ⟨b, 0, none⟩)] #[] (.func f)
   unfold Oper.wp
   simp only [execOp, hop, Sp.op, List.map_toArray, List.map_cons, List.map_nil, e1, e2]
   simp [hr, Result.andThen, Oper.upon, hdst, Sp.dst]
   refine ⟨h.step hs1 hl rfl ?_ (Below.refl _ _) ?_, hD'⟩
   ·intro e17; subst e17; exact absurd (nodup_idx spec_dst hs1 spec_mk rfl rfl) (by intro e0; subst e0; rw [spec_mk] at hs1; cases hs1)
   ·show Pair _ _ _ _
    rw [eval_same _ (by rw [h.size]; exact (low_of hs1 rfl).2)]
    exact ⟨_, _, rfl, k1, k2⟩
  | ins k d j =>
   simp only [sok, Bool.and_eq_true, decide_eq_true_eq] at hok
   have hj := hdl j (by simp [Sp.deps])
   have hp : Pair w0.heap.size w (a.eval (.tmp d)) k := by
    have h2 := hok.2
    cases h3 : spec[j]? with
    | none => rw [h3] at h2; cases h2
    | some t =>
     have h4 := h.oks _ _ h3 hj
     rw [h3] at h2
     cases t <;> simp [pairAt] at h2
     all_goals
      obtain ⟨rfl, rfl⟩ := h2
      exact h4
   have hp' := hp
   obtain ⟨t, g, e1, _⟩ := hp'
   rw [e1] at hp
   obtain ⟨b, w', e2, hr, hI'⟩ := h.insert hs1 hl (hdl 0 (by simp [Sp.deps])) hok.1 hp
   have e3 : a.eval (.const (.int .i64 (k : Int))) = .int .i64 (k : Int) := rfl
   unfold Oper.wp
   simp only [execOp, hop, Sp.op, e1, e2, e3]
   simp [hr, Result.andThen, Oper.upon, hdst, Sp.dst]
   exact ⟨hI', hD'⟩
  | mv =>
   unfold Oper.wp
   simp only [execOp, hop, Sp.op]
   simp [Oper.upon, hdst, Sp.dst]
   refine ⟨h.step hs1 hl rfl (by decide) (Below.refl _ _) ?_, hD'⟩
   show _ = _
   rw [eval_same _ (by rw [h.size]; decide), eval_other _ (by decide)]
  | asg =>
   unfold Oper.wp
   simp only [execOp, hop, Sp.op]
   simp [Oper.upon, hdst, Sp.dst]
   refine ⟨h.step hs1 hl rfl (by decide) (Below.refl _ _) ?_, hD'⟩
   show _ = _
   rw [eval_same _ (by rw [h.size]; decide), eval_other _ (by decide)]
   exact h.oks _ _ spec_mv (hdl 64 (by simp [Sp.deps]))
 ·rw [hlen]; decide
 ·intro i s hi hl
  rw [hlen] at hl
  have : i < 66 := by
   rw [← spec_len]; exact (List.getElem?_eq_some_iff.1 hi).1
  simp [this] at hl
end Go.Proofs.YtngehojibcmieaaGreatDoor
end
section
namespace Go.Proofs.YtngehojibcmieaaGreatDoor
open Go.ChangeShapes Go.WideShapes Go.RowKit Go.Maps
def four (x1 x2 x3 x4 : Nat) : Nat → Nat
 | 1 => x1
 | 2 => x2
 | 3 => x3
 | _ => x4
theorem effects_any (w : World) : Calls Tryz.prog 222 #[] w fun e w' => ∃ b, e = .returned (.map (some b)) ∧ Fxs w.heap.size w' b 25 ∧ Below w.heap.size w w' := by
 have hsf := @run_store_func Tryz.prog
 go_enter Tryz.func222, Tryz.ntmps222
 go_wp2_with fail
 refine (taking_any [] _).mono ?_
 rintro e U1 ⟨t1, rfl, lt1, kt1, BU1⟩
 have D1 := BU1
 go_wp2_with fail
 refine (giving_any [105] _).mono ?_
 rintro e V1 ⟨g1, rfl, lg1, kg1, BV1⟩
 have F1 := keep_below D1 BV1
 have q1 := Loc.new (lo := w.heap.size) (Nat.le_trans (Nat.le_refl _) lt1) (Nat.le_trans D1.size lg1) (keep_cell BV1 kt1) kg1
 have E1 := keep_below F1 (below_alloc V1 (.cells #[.func (.func 245) #[] #[.pointer (some ⟨t1, 0, none⟩)], .func (.func 246) #[] #[.pointer (some ⟨g1, 0, none⟩)]] 257))
 clear D1 F1 BU1 BV1 kt1 kg1
 go_wp2_with fail
 refine (taking_any [105] _).mono ?_
 rintro e U2 ⟨t2, rfl, lt2, kt2, BU2⟩
 have D2 := keep_below E1 BU2
 replace q1 := q1.keep (keeps_below BU2)
 go_wp2_with fail
 refine (giving_any [] _).mono ?_
 rintro e V2 ⟨g2, rfl, lg2, kg2, BV2⟩
 have F2 := keep_below D2 BV2
 replace q1 := q1.keep (keeps_below BV2)
 have q2 := Loc.new (lo := w.heap.size) (Nat.le_trans E1.size lt2) (Nat.le_trans D2.size lg2) (keep_cell BV2 kt2) kg2
 have E2 := keep_below F2 (below_alloc V2 (.cells #[.func (.func 245) #[] #[.pointer (some ⟨t2, 0, none⟩)], .func (.func 246) #[] #[.pointer (some ⟨g2, 0, none⟩)]] 257))
 replace q1 := q1.keep (keeps_below (below_alloc V2 (.cells #[.func (.func 245) #[] #[.pointer (some ⟨t2, 0, none⟩)], .func (.func 246) #[] #[.pointer (some ⟨g2, 0, none⟩)]] 257)))
 clear D2 F2 BU2 BV2 kt2 kg2 E1
 go_wp2_with fail
 refine (taking_any [98, 98] _).mono ?_
 rintro e U3 ⟨t3, rfl, lt3, kt3, BU3⟩
 have D3 := keep_below E2 BU3
 replace q1 := q1.keep (keeps_below BU3)
 replace q2 := q2.keep (keeps_below BU3)
 go_wp2_with fail
 refine (giving_any [98] _).mono ?_
 rintro e V3 ⟨g3, rfl, lg3, kg3, BV3⟩
 have F3 := keep_below D3 BV3
 replace q1 := q1.keep (keeps_below BV3)
 replace q2 := q2.keep (keeps_below BV3)
 have q3 := Loc.new (lo := w.heap.size) (Nat.le_trans E2.size lt3) (Nat.le_trans D3.size lg3) (keep_cell BV3 kt3) kg3
 have E3 := keep_below F3 (below_alloc V3 (.cells #[.func (.func 245) #[] #[.pointer (some ⟨t3, 0, none⟩)], .func (.func 246) #[] #[.pointer (some ⟨g3, 0, none⟩)]] 257))
 replace q1 := q1.keep (keeps_below (below_alloc V3 (.cells #[.func (.func 245) #[] #[.pointer (some ⟨t3, 0, none⟩)], .func (.func 246) #[] #[.pointer (some ⟨g3, 0, none⟩)]] 257)))
 replace q2 := q2.keep (keeps_below (below_alloc V3 (.cells #[.func (.func 245) #[] #[.pointer (some ⟨t3, 0, none⟩)], .func (.func 246) #[] #[.pointer (some ⟨g3, 0, none⟩)]] 257)))
 clear D3 F3 BU3 BV3 kt3 kg3 E2
 go_wp2_with fail
 refine (taking_any [] _).mono ?_
 rintro e U4 ⟨t4, rfl, lt4, kt4, BU4⟩
 have D4 := keep_below E3 BU4
 replace q1 := q1.keep (keeps_below BU4)
 replace q2 := q2.keep (keeps_below BU4)
 replace q3 := q3.keep (keeps_below BU4)
 go_wp2_with fail
 refine (giving_any [] _).mono ?_
 rintro e V4 ⟨g4, rfl, lg4, kg4, BV4⟩
 have F4 := keep_below D4 BV4
 replace q1 := q1.keep (keeps_below BV4)
 replace q2 := q2.keep (keeps_below BV4)
 replace q3 := q3.keep (keeps_below BV4)
 have q4 := Loc.new (lo := w.heap.size) (Nat.le_trans E3.size lt4) (Nat.le_trans D4.size lg4) (keep_cell BV4 kt4) kg4
 have E4 := keep_below F4 (below_alloc V4 (.cells #[.func (.func 245) #[] #[.pointer (some ⟨t4, 0, none⟩)], .func (.func 246) #[] #[.pointer (some ⟨g4, 0, none⟩)]] 257))
 replace q1 := q1.keep (keeps_below (below_alloc V4 (.cells #[.func (.func 245) #[] #[.pointer (some ⟨t4, 0, none⟩)], .func (.func 246) #[] #[.pointer (some ⟨g4, 0, none⟩)]] 257)))
 replace q2 := q2.keep (keeps_below (below_alloc V4 (.cells #[.func (.func 245) #[] #[.pointer (some ⟨t4, 0, none⟩)], .func (.func 246) #[] #[.pointer (some ⟨g4, 0, none⟩)]] 257)))
 replace q3 := q3.keep (keeps_below (below_alloc V4 (.cells #[.func (.func 245) #[] #[.pointer (some ⟨t4, 0, none⟩)], .func (.func 246) #[] #[.pointer (some ⟨g4, 0, none⟩)]] 257)))
 clear D4 F4 BU4 BV4 kt4 kg4 E3
 go_wp2_with fail
 refine eff_region (by kernel_rfl) (by kernel_rfl) (by kernel_rfl) (by kernel_rfl) w (four V1.heap.size V2.heap.size V3.heap.size V4.heap.size) ⟨rfl, rfl, rfl, E4.drew, ?_, ?_, ?_⟩ ?_
 ·intro r h1 h2
  rcases (show r = 1 ∨ r = 2 ∨ r = 3 ∨ r = 4 by omega) with rfl | rfl | rfl | rfl
  ·exact ⟨rfl, _, _, q1⟩
  ·exact ⟨rfl, _, _, q2⟩
  ·exact ⟨rfl, _, _, q3⟩
  ·exact ⟨rfl, _, _, q4⟩
 ·intro i s hi hl
  have : i < 66 := by
   rw [← spec_len]; exact (List.getElem?_eq_some_iff.1 hi).1
  simp [this] at hl
 ·intro hl; simp at hl
 ·intro a W b h0 hd hF hB
  rename_i K _ hK
  refine hK a W (wp_ret ?_)
  exact ⟨hd, _, results_tmp rfl _ _ _, b, by rw [← h0]; rfl, hF, hB⟩
end Go.Proofs.YtngehojibcmieaaGreatDoor
end
end
