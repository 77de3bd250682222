/- What is proved here: the contract of types.effects: whatever order the parts of its map come in, it has, at each operation, a function that tells what it takes, and one that tells what it gives. Conditions: none. -/
import Derived.Test.YtkkoekfdncoifaaDoorFx
namespace Go.Proofs.YtkkoekfdncoifaaDoor
open Go.ChangeShapes Go.WideShapes Go.RowKit Go.Maps

/-- The kinds of operations that make the map. -/
inductive Sp where
  | mk
  | ld (r d k : Nat)
  | tkc (d k : Nat) (s : List UInt8)
  | gvc (d k : Nat) (s : List UInt8)
  | bd (d x y k ix iy : Nat)
  | bf (d x f k ix : Nat)
  | ins (k d i : Nat)
  | mv
  | asg
  deriving DecidableEq
def Sp.dst : Sp → Option Nat
  | .mk => some 17
  | .ld _ d _ | .tkc d _ _ | .gvc d _ _ | .bd d _ _ _ _ _ | .bf d _ _ _ _ => some d
  | .ins _ _ _ => none
  | .mv => some 56
  | .asg => some 0
def Sp.op : Sp → Op
  | .mk => .makeMap 42 none
  | .ld r _ _ => .load 53 (.tmp r)
  | .tkc _ _ s => .call { callee := .value (.func 32), args := #[.const (.string (bs s))], argTypes := #[9] }
  | .gvc _ _ s => .call { callee := .value (.func 33), args := #[.const (.string (bs s))], argTypes := #[9] }
  | .bd _ x y _ _ _ => .build 53 #[(0, .tmp x), (1, .tmp y)]
  | .bf _ x f _ _ => .build 53 #[(0, .tmp x), (1, .func f)]
  | .ins k d _ => .insert 42 (.tmp 17) (.const (.int .i64 k)) (.tmp d)
  | .mv => .move (.tmp 17)
  | .asg => .assign (.tmp 56)
/-- The operations ahead that it must have. -/
def Sp.deps : Sp → List Nat
  | .bd _ _ _ _ ix iy => [ix, iy]
  | .bf _ _ _ _ ix => [ix]
  | .ins _ _ i => [0, i]
  | .mv => [0]
  | .asg => [64]
  | _ => []
def spec : List Sp := [.mk, .ld 1 18 1, .ins 1 18 1, .tkc 19 2 [32], .gvc 20 2 [], .bd 21 19 20 2 3 4, .ins 2 21 5, .tkc 22 3 [32], .bf 23 22 34 3 7, .ins 3 23 8, .tkc 24 4 [32, 32], .bf 25 24 35 4 10, .ins 4 25 11, .tkc 26 5 [105, 105], .bf 27 26 36 5 13, .ins 5 27 14, .tkc 28 6 [105], .gvc 29 6 [105], .bd 30 28 29 6 16 17, .ins 6 30 18, .tkc 31 7 [98], .gvc 32 7 [98], .bd 33 31 32 7 20 21, .ins 7 33 22, .ld 3 34 8, .ins 8 34 24, .ld 3 35 9, .ins 9 35 26, .tkc 36 10 [98], .gvc 37 10 [105], .bd 38 36 37 10 28 29, .ins 10 38 30, .ld 1 39 11, .ins 11 39 32, .ld 2 40 12, .ins 12 40 34, .ld 1 41 13, .ins 13 41 36, .ld 2 42 14, .ins 14 42 38, .ld 1 43 15, .ins 15 43 40, .ld 2 44 16, .ins 16 44 42, .ld 1 45 17, .ins 17 45 44, .ld 2 46 18, .ins 18 46 46, .ld 4 47 19, .ins 19 47 48, .tkc 48 20 [98], .gvc 49 20 [], .bd 50 48 49 20 50 51, .ins 20 50 52, .ld 4 51 21, .ins 21 51 54, .ld 4 52 22, .ins 22 52 56, .ld 4 53 23, .ins 23 53 58, .ld 4 54 24, .ins 24 54 60, .ld 4 55 25, .ins 25 55 62, .mv, .asg]
/-- Two texts of each variable. -/
def lt_ : Nat → List UInt8 × List UInt8
  | 1 => ([], [105])
  | 2 => ([105], [])
  | 3 => ([98, 98], [98])
  | _ => ([], [])
/-- Does a place make the pair of functions of an operation? -/
def pairAt (s : Option Sp) (d k : Nat) : Bool := match s with
  | some (.ld _ d' k') => d' == d && k' == k
  | some (.bd d' _ _ k' _ _) => d' == d && k' == k
  | some (.bf d' _ _ k' _) => d' == d && k' == k
  | _ => false
def sok (s : Sp) : Bool := match s with
  | .ld r _ k => decide (1 ≤ r) && decide (r ≤ 4) && decide (tk (k : Int) = (lt_ r).1) && decide (gv (k : Int) 0 [] = (lt_ r).2) && !(k == 3 || k == 4 || k == 5)
  | .tkc _ k s => decide (tk (k : Int) = s)
  | .gvc _ k s => decide (gv (k : Int) 0 [] = s) && !(k == 3 || k == 4 || k == 5)
  | .bd _ x y k ix iy => decide (spec[ix]? = some (.tkc x k (tk (k : Int)))) && decide (spec[iy]? = some (.gvc y k (gv (k : Int) 0 [])))
  | .bf _ x f k ix => decide (spec[ix]? = some (.tkc x k (tk (k : Int)))) && ((f == 34 && k == 3) || (f == 35 && k == 4) || (f == 36 && k == 5))
  | .ins k d i => decide (1 ≤ k) && decide (k ≤ 25) && pairAt spec[i]? d k
  | _ => true
theorem spec_ok : spec.all sok = true := by decide +kernel
theorem spec_len : spec.length = 66 := rfl
theorem spec_dst : (spec.filterMap Sp.dst).Nodup := by decide +kernel
theorem spec_low : spec.all (fun s => match s.dst with | none => true | some d => (d == 0 || decide (17 ≤ d)) && decide (d < 57)) = true := by decide +kernel
theorem spec_ins : (List.range 25).all (fun k => (List.range 66).any fun i => match spec[i]? with | some (.ins k' _ _) => k' == k + 1 | _ => false) = true := by decide +kernel
theorem spec_mv : spec[64]? = some .mv := rfl
theorem spec_asg : spec[65]? = some .asg := rfl
theorem spec_mk : spec[0]? = some .mk := rfl
theorem nodup_idx {l : List Sp} (h : (l.filterMap Sp.dst).Nodup) : ∀ {i j : Nat} {s t : Sp} {d : Nat}, l[i]? = some s → l[j]? = some t → s.dst = some d → t.dst = some d → i = j := by
  induction l with
  | nil => intro i j s t d hi; simp at hi
  | cons x l ih =>
    have mem : ∀ {j : Nat} {t : Sp} {d : Nat}, l[j]? = some t → t.dst = some d → d ∈ l.filterMap Sp.dst := fun h1 h2 => List.mem_filterMap.2 ⟨_, List.mem_of_getElem? h1, h2⟩
    have ht : (l.filterMap Sp.dst).Nodup := by
      rw [List.filterMap_cons] at h
      split at h
      · exact h
      · exact (List.nodup_cons.1 h).2
    have hx : ∀ d, x.dst = some d → d ∉ l.filterMap Sp.dst := by
      intro d hd
      rw [List.filterMap_cons, hd] at h
      exact (List.nodup_cons.1 h).1
    intro i j s t d hi hj hs hd
    cases i with
    | zero =>
      cases j with
      | zero => rfl
      | succ j =>
        simp only [List.getElem?_cons_zero, Option.some.injEq, List.getElem?_cons_succ] at hi hj
        subst hi
        exact absurd (mem hj hd) (hx d hs)
    | succ i =>
      cases j with
      | zero =>
        simp only [List.getElem?_cons_zero, Option.some.injEq, List.getElem?_cons_succ] at hi hj
        subst hj
        exact absurd (mem hi hs) (hx d hd)
      | succ j =>
        simp only [List.getElem?_cons_succ] at hi hj
        rw [ih ht hi hj hs hd]
theorem dst_ne {i j : Nat} {s t : Sp} {d e : Nat} (hi : spec[i]? = some s) (hj : spec[j]? = some t) (hs : s.dst = some d) (ht : t.dst = some e) (h : i ≠ j) : d ≠ e := by
  intro e2; subst e2; exact h (nodup_idx spec_dst hi hj hs ht)
theorem sok_of {i : Nat} {s : Sp} (h : spec[i]? = some s) : sok s = true := List.all_eq_true.1 spec_ok s (List.mem_of_getElem? h)
theorem low_of {i d : Nat} {s : Sp} (h : spec[i]? = some s) (hd : s.dst = some d) : (d = 0 ∨ 17 ≤ d) ∧ d < 57 := by
  have := List.all_eq_true.1 spec_low s (List.mem_of_getElem? h)
  rw [hd] at this
  simpa using this
theorem gv_same {k : Int} (h : k ≠ 3 ∧ k ≠ 4 ∧ k ≠ 5) (a : Int) (t : List UInt8) : gv k a t = gv k 0 [] := by
  unfold gv; rw [if_neg h.1, if_neg h.2.1, if_neg h.2.2, if_neg h.1, if_neg h.2.1, if_neg h.2.2]

/-- A pair of functions of an operation. -/
def Pair (lo : Nat) (w : World) (v : Value) (k : Int) : Prop := ∃ t g, v = .agg #[t, g] ∧ TkV lo w t (tk k) ∧ GvV lo w g (gv k)
theorem Pair.keep {lo : Nat} {w w' : World} {v : Value} {k : Int} (h : Pair lo w v k) (K : Keeps w w') : Pair lo w' v k := by
  obtain ⟨t, g, e, h1, h2⟩ := h; exact ⟨t, g, e, h1.keep K, h2.keep K⟩
/-- What is known behind an operation that has come. -/
def Ok (lo : Nat) (s : Sp) (a : Act) (w : World) : Prop := match s with
  | .ld _ d k | .bd d _ _ k _ _ | .bf d _ _ k _ => Pair lo w (a.eval (.tmp d)) k
  | .tkc d k _ => TkV lo w (a.eval (.tmp d)) (tk (k : Int))
  | .gvc d k _ => GvV lo w (a.eval (.tmp d)) (gv (k : Int))
  | .mv => a.eval (.tmp 56) = a.eval (.tmp 17)
  | .asg => a.eval (.tmp 0) = a.eval (.tmp 17)
  | _ => True
theorem Ok.keep {lo : Nat} {s : Sp} {a : Act} {w w' : World} (h : Ok lo s a w) (K : Keeps w w') : Ok lo s a w' := by
  cases s <;> first | exact Pair.keep h K | exact TkV.keep h K | exact GvV.keep h K | exact h
/-- The map, as far as it is made. -/
def MapOk (w0 : World) (listed : Array Bool) (a : Act) (w : World) : Prop :=
  ∃ b D n, a.eval (.tmp 17) = .map (some b) ∧ w0.heap.size ≤ b ∧ w.ownsMap Tryd.prog 3 rdV b n D ∧ n + unlB listed ≤ 66 ∧
    ∀ (i k d j : Nat), spec[i]? = some (.ins k d j) → listed.getD i true = true → ∃ v, D.atKey (.int .i64 (k : Int)) (.held (.agg #[.nilFunc, .nilFunc])) = .held v ∧ Pair w0.heap.size w v k
/-- What holds whatever has come. -/
structure Inv (w0 : World) (L : Nat → Nat) (listed : Array Bool) (a : Act) (w : World) : Prop where
  size : a.tmps.size = 57
  defs : a.defers = []
  lsz : listed.size = 66
  bl : Below w0.heap.size w0 w
  vars : ∀ r : Nat, 1 ≤ r → r ≤ 4 → a.eval (.tmp r) = .pointer (some ⟨L r, 0, none⟩) ∧ ∃ t g, Loc w0.heap.size w (L r) t g (lt_ r).1 (lt_ r).2
  oks : ∀ (i : Nat) s, spec[i]? = some s → listed.getD i true = true → Ok w0.heap.size s a w
  map : listed.getD 0 true = true → MapOk w0 listed a w
theorem eval_same {a : Act} {d : Nat} (v : Value) (h : d < a.tmps.size) : (a.put (some d) v).eval (.tmp d) = v := by
  unfold Act.put Act.eval; simp [h]
theorem eval_other {a : Act} {d e : Nat} (v : Value) (h : d ≠ e) : (a.put (some d) v).eval (.tmp e) = a.eval (.tmp e) := by
  unfold Act.put Act.eval; simp [Array.getElem?_setIfInBounds_ne h]
theorem size_put (a : Act) (d : Option Nat) (v : Value) : (a.put d v).tmps.size = a.tmps.size := by
  unfold Act.put; cases d <;> simp
theorem defs_put (a : Act) (d : Option Nat) (v : Value) : (a.put d v).defers = a.defers := by
  unfold Act.put; cases d <;> rfl
/-- What an operation that has come leaves of the others. -/
theorem Ok.put {lo i j d : Nat} {s t : Sp} {a : Act} {w : World} (h : Ok lo s a w) (hi : spec[i]? = some s) (hj : spec[j]? = some t) (ht : t.dst = some d) (hij : i ≠ j) (h17 : d ≠ 17 ∨ (s ≠ .mv ∧ s ≠ .asg)) (v : Value) : Ok lo s (a.put (some d) v) w := by
  have ne : ∀ e, s.dst = some e → d ≠ e := fun e he => dst_ne hj hi ht he (Ne.symm hij)
  cases s with
  | mk => trivial
  | ins k d i => trivial
  | mv =>
    have h2 : d ≠ 17 := h17.resolve_right (by simp)
    show _ = _
    rw [eval_other v (ne 56 rfl), eval_other v h2]; exact h
  | asg =>
    have h2 : d ≠ 17 := h17.resolve_right (by simp)
    show _ = _
    rw [eval_other v (ne 0 rfl), eval_other v h2]; exact h
  | ld r e k => show Pair _ _ _ _; rw [eval_other v (ne e rfl)]; exact h
  | bd e x y k ix iy => show Pair _ _ _ _; rw [eval_other v (ne e rfl)]; exact h
  | bf e x f k ix => show Pair _ _ _ _; rw [eval_other v (ne e rfl)]; exact h
  | tkc e k s => show TkV _ _ _ _; rw [eval_other v (ne e rfl)]; exact h
  | gvc e k s => show GvV _ _ _ _; rw [eval_other v (ne e rfl)]; exact h
theorem listed_of {listed : Array Bool} {i j : Nat} (h : (listed.setIfInBounds i true).getD j true = true) (hij : j ≠ i) : listed.getD j true = true := by
  rw [getD_set_ne true (Ne.symm hij)] at h; exact h
theorem listed_true {listed : Array Bool} {i : Nat} (h : listed.getD i false = true) : listed.getD i true = true := by
  rcases Nat.lt_or_ge i listed.size with h' | h'
  · simpa [h'] using h
  · simp [Array.getElem?_eq_none h']
/-- A value is put into a slot of its own; the world goes on. -/
theorem Inv.step {w0 : World} {L : Nat → Nat} {listed : Array Bool} {a : Act} {w w' : World} {i d : Nat} {s : Sp} {v : Value} (h : Inv w0 L listed a w) (hi : spec[i]? = some s) (hl : listed.getD i true = false) (hd : s.dst = some d) (h17 : d ≠ 17)
    (hb : Below w.heap.size w w') (hk : Ok w0.heap.size s (a.put (some d) v) w') : Inv w0 L (listed.setIfInBounds i true) (a.put (some d) v) w' := by
  have K := keeps_below hb
  obtain ⟨hlow, hd57⟩ := low_of hi hd
  refine ⟨by rw [size_put]; exact h.size, by rw [defs_put]; exact h.defs, by simpa using h.lsz, keep_below h.bl hb, ?_, ?_, ?_⟩
  · intro (r : Nat) h1 h2
    obtain ⟨e, t, g, hloc⟩ := h.vars r h1 h2
    exact ⟨by rw [eval_other v (show d ≠ r by omega)]; exact e, t, g, hloc.keep K⟩
  · intro j t hj hjl
    by_cases e : j = i
    · subst e; rw [hi] at hj; cases hj; exact hk
    · exact ((h.oks j t hj (listed_of hjl e)).keep K).put hj hi hd e (Or.inl h17) v
  · intro h0
    have hi0 : 0 ≠ i := by
      intro e; subst e; rw [spec_mk] at hi; cases hi; cases hd; exact h17 rfl
    obtain ⟨b, D, n, e1, e2, e3, e4, e5⟩ := h.map (listed_of h0 hi0)
    have hu := unlB_set hl
    refine ⟨b, D, n, by rw [eval_other v h17]; exact e1, e2, e3.kept (row := none) ⟨hb.os, hb.tape, hb.output, hb.size, fun i hi _ => hb.block i hi⟩ (by simp), by omega, ?_⟩
    intro m k d' j hm hml
    by_cases e : m = i
    · subst e; rw [hi] at hm; cases hm; cases hd
    · obtain ⟨v2, g1, g2⟩ := e5 m k d' j hm (listed_of hml e)
      exact ⟨v2, g1, g2.keep K⟩
/-- The map is made. -/
theorem Inv.made {w0 : World} {L : Nat → Nat} {listed : Array Bool} {a : Act} {w : World} (h : Inv w0 L listed a w) (hno : ∀ (i k d j : Nat), spec[i]? = some (.ins k d j) → listed.getD i true = false)
    (hno2 : ∀ i : Nat, spec[i]? = some .mv ∨ spec[i]? = some .asg → listed.getD i true = false) :
    Inv w0 L (listed.setIfInBounds 0 true) (a.put (some 17) (.map (some w.heap.size))) (w.alloc (.map #[] 0)) := by
  have hb := below_alloc w (.map #[] 0)
  have K := keeps_below hb
  refine ⟨by rw [size_put]; exact h.size, by rw [defs_put]; exact h.defs, by simpa using h.lsz, keep_below h.bl hb, ?_, ?_, ?_⟩
  · intro (r : Nat) h1 h2
    obtain ⟨e, t, g, hloc⟩ := h.vars r h1 h2
    exact ⟨by rw [eval_other _ (show 17 ≠ r by omega)]; exact e, t, g, hloc.keep K⟩
  · intro j t hj hjl
    by_cases e : j = 0
    · subst e; rw [spec_mk] at hj; cases hj; trivial
    · have hj2 := listed_of hjl e
      refine ((h.oks j t hj hj2).keep K).put hj spec_mk rfl e (Or.inr ⟨?_, ?_⟩) _
      · intro e2; subst e2; rw [hno2 j (Or.inl hj)] at hj2; cases hj2
      · intro e2; subst e2; rw [hno2 j (Or.inr hj)] at hj2; cases hj2
  · intro _
    have hu : unlB (listed.setIfInBounds 0 true) ≤ 66 := by
      unfold unlB
      have := List.countP_le_length (p := fun x => !x) (l := (listed.setIfInBounds 0 true).toList)
      simp [h.lsz] at this ⊢
      omega
    refine ⟨w.heap.size, .map [], 0, eval_same _ (by rw [h.size]; decide), h.bl.size, World.ownsMap_made w Tryd.prog 3 rdV, by omega, ?_⟩
    intro m k d' j hm hml
    have hm0 : m ≠ 0 := by intro e; subst e; rw [spec_mk] at hm; cases hm
    have hml2 := listed_of hml hm0
    rw [hno m k d' j hm] at hml2; cases hml2
/-- A pair is put into the map. -/
theorem Inv.insert {w0 : World} {L : Nat → Nat} {listed : Array Bool} {a : Act} {w : World} {i k d j : Nat} (h : Inv w0 L listed a w) (hi : spec[i]? = some (.ins k d j)) (hl : listed.getD i true = false) (h0 : listed.getD 0 true = true) (hk : 1 ≤ k ∧ k ≤ 25)
    {t g : Value} (hp : Pair w0.heap.size w (.agg #[t, g]) k) :
    ∃ b w', a.eval (.tmp 17) = .map (some b) ∧ (Instr.mapUpdate 42 (.map (some b)) (.int .i64 (k : Int)) (.agg #[t, g])).run Tryd.prog w = .ok () w' ∧ Inv w0 L (listed.setIfInBounds i true) a w' := by
  obtain ⟨b, D, n, e1, e2, e3, e4, e5⟩ := h.map h0
  have hu := unlB_set hl
  have hi0 : 0 ≠ i := by intro e; subst e; rw [hl] at h0; cases h0
  obtain ⟨w', hrun, hD', hgr⟩ := e3.update (t := 42) (e := 53) (int_keyed Tryd.underlying3) Tryd.underlying42 (by unfold maxLen; omega) (key := .int .i64 (k : Int)) (val := .agg #[t, g]) (keyOf_int_mk Tryd.underlying3 (WalkArith.wf_i64 (by omega))) (d := .held (.agg #[t, g])) (ps := []) rfl
  have K := keeps_map e3 hgr
  refine ⟨b, w', e1, hrun, h.size, h.defs, by simpa using h.lsz, h.bl.grown hgr h.bl.size (fun m hm => by cases hm; exact e2), ?_, ?_, ?_⟩
  · intro (r : Nat) h1 h2
    obtain ⟨e, t, g, hloc⟩ := h.vars r h1 h2
    exact ⟨e, t, g, hloc.keep K⟩
  · intro m s hm hml
    by_cases e : m = i
    · subst e; rw [hi] at hm; cases hm; trivial
    · exact (h.oks m s hm (listed_of hml e)).keep K
  · intro _
    refine ⟨b, _, n + 1, e1, e2, hD', by omega, ?_⟩
    intro m k' d' j' hm hml
    by_cases ek : k' = k
    · subst ek
      exact ⟨_, atKey_put_same e3.isMap (by unfold WideAt.IsKeyLit; trivial) _ _, hp.keep K⟩
    · have hmi : m ≠ i := by intro e; subst e; rw [hi] at hm; cases hm; exact ek rfl
      obtain ⟨v, g1, g2⟩ := e5 m k' d' j' hm (listed_of hml hmi)
      refine ⟨v, ?_, g2.keep K⟩
      rw [atKey_put_other (by intro e2; simp only [Lit.int.injEq, true_and] at e2; omega)]; exact g1
end Go.Proofs.YtkkoekfdncoifaaDoor
