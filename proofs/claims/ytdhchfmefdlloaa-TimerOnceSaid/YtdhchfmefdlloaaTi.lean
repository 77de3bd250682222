/- What is proved here: how a timer lies in memory, and what keeps it. Conditions: none beyond those each theorem states. -/
import Derived.Test.YtdhchfmefdlloaaProg
import Derived.Test.YtdhchfmefdlloaaMp
import Derived.Test.YtdhchfmefdlloaaSo
import Derived.Maps.AppendAt
namespace Go.Proofs.Ytdhchfmefdlloaa
open Go.RowKit Go.Maps

/-- w' is w, but for blocks of F, and new ones. -/
structure Trn (F : Nat → Prop) (w w' : World) : Prop where
  os : w'.os = w.os
  tape : w'.tape = w.tape
  output : w'.output = w.output
  size : w.heap.size ≤ w'.heap.size
  block : ∀ i, i < w.heap.size → ¬ F i → w'.heap[i]? = w.heap[i]?
theorem Trn.refl (F : Nat → Prop) (w : World) : Trn F w w := ⟨rfl, rfl, rfl, Nat.le_refl _, fun _ _ _ => rfl⟩
theorem Trn.trans {F F' : Nat → Prop} {w w1 w2 : World} (h : Trn F w w1) (h2 : Trn F' w1 w2) (hF : ∀ i, F' i → F i ∨ w.heap.size ≤ i) : Trn F w w2 :=
  ⟨h2.os.trans h.os, h2.tape.trans h.tape, h2.output.trans h.output, Nat.le_trans h.size h2.size, fun i hi hn =>
    (h2.block i (Nat.lt_of_lt_of_le hi h.size) (fun hc => by rcases hF i hc with h1 | h1; exact hn h1; omega)).trans (h.block i hi hn)⟩
theorem Trn.of_below {w w' : World} (h : Below w.heap.size w w') (F : Nat → Prop) : Trn F w w' := ⟨h.os, h.tape, h.output, h.size, fun i hi _ => h.block i hi⟩
theorem Trn.of_grown {w w' : World} {row : Option Nat} (h : w.grownBy w' row) {F : Nat → Prop} (hF : ∀ j, row = some j → F j) : Trn F w w' :=
  ⟨h.os, h.tape, h.output, h.size, fun i hi hn => h.block i hi (fun e => hn (hF i e.symm))⟩
theorem Trn.below {F : Nat → Prop} {w w' : World} (h : Trn F w w') {B : Nat} (hB : B ≤ w.heap.size) (hF : ∀ i, F i → B ≤ i) : Below B w w' :=
  ⟨h.os, h.tape, h.output, h.size, fun i hi => h.block i (Nat.lt_of_lt_of_le hi hB) (fun hc => by have := hF i hc; omega)⟩
theorem Trn.mono {F F' : Nat → Prop} {w w' : World} (h : Trn F w w') (hF : ∀ i, F i → F' i) : Trn F' w w' := ⟨h.os, h.tape, h.output, h.size, fun i hi hn => h.block i hi (fun hc => hn (hF i hc))⟩
theorem Trn.new {w w' : World} (h : Trn (fun _ => False) w w') : Below w.heap.size w w' := ⟨h.os, h.tape, h.output, h.size, fun i hi => h.block i hi (fun hc => hc)⟩
theorem own_at_block {w w' : World} {base e size : Nat} {v : Value} {m : Nat} {xs : List Value} (h : w.ownsRow base e size v m xs) (hb : ∀ g, v.ownBlock = some g → w'.heap[g]? = w.heap[g]?) : w'.ownsRow base e size v m xs := by
  refine ⟨h.1, ?_⟩
  rcases h.2 with h2 | ⟨g, cap, cur, rfl, h3, h4, h5⟩
  · exact Or.inl h2
  · exact Or.inr ⟨g, cap, cur, rfl, h3, (hb g rfl).trans h4, h5⟩
theorem own_blk {w : World} {base e size : Nat} {v : Value} {m : Nat} {xs : List Value} (h : w.ownsRow base e size v m xs) {g : Nat} (hg : v.ownBlock = some g) : ∃ cur, w.heap[g]? = some (.cells cur e (0, 0)) := by
  rcases h.2 with ⟨rfl, _⟩ | ⟨g', cap, cur, rfl, h3, h4, _⟩
  · cases hg
  · cases hg; exact ⟨cur, h4⟩
theorem heap_set_same {w : World} {b j : Nat} {cs : Array Value} {e : TypeId} {fr : Nat × Nat} (h : w.heap[b]? = some (.cells cs e fr)) (v : Value) : (w.setCell ⟨b, j, none⟩ v).heap[b]? = some (.cells (cs.setIfInBounds j v) e fr) := by
  simp [World.setCell, Array.getElem?_modify, h]
theorem heap_set_other (w : World) {b j g : Nat} (v : Value) (h : g ≠ b) : (w.setCell ⟨b, j, none⟩ v).heap[g]? = w.heap[g]? := by
  have : b ≠ g := fun e => h e.symm
  simp [World.setCell, Array.getElem?_modify, this]

structure TimI (F : Nat → Prop) (w : World) (b mb : Nat) (pv : Value) (M : Int → Option Value) (pz : List Int) (now : Int) (L : List Wt) (n : Nat) : Prop where
  blk : w.heap[b]? = some (.cells #[.pointer (some ⟨b, 0, none⟩), pv, .int .i64 now, .map (some mb)] 53 (0, 0))
  per : w.ownsRow 0 3 1 pv pz.length (pz.map (.int .i64))
  mpg : MpG Try.prog 3 w mb n M
  nothing : ∀ s, M s = none → dueL s L = []
  row : ∀ s v, M s = some v → w.ownsRow 0 48 2 v (dueL s L).length (duC (dueL s L))
  inb : F b
  inm : F mb
  inp : ∀ g, pv.ownBlock = some g → F g
  inr : ∀ s v g, M s = some v → v.ownBlock = some g → F g
  apart : ∀ s s' v v' g, M s = some v → M s' = some v' → v.ownBlock = some g → v'.ownBlock = some g → s = s'
  pos : ∀ s v, M s = some v → v ≠ .slice none 0 0
  lt : ∀ g, F g → g < w.heap.size
  now0 : 0 ≤ now
  len : L.length ≤ n
  pzs : (1 ≤ pz.length ∧ pz.length ≤ 8) ∧ ∀ p ∈ pz, 1 ≤ p ∧ p ≤ 1048576
/-- A timer at block b, its blocks those of F: its periods, its slot, what waits; n bounds how many. -/
def Tim (F : Nat → Prop) (w : World) (b : Nat) (pz : List Int) (now : Int) (L : List Wt) (n : Nat) : Prop := ∃ mb pv M, TimI F w b mb pv M pz now L n

section
variable {F : Nat → Prop} {w w' : World} {b mb : Nat} {pv : Value} {M : Int → Option Value} {pz : List Int} {now : Int} {L : List Wt} {n : Nat}
theorem TimI.kept (h : TimI F w b mb pv M pz now L n) (hs : w.heap.size ≤ w'.heap.size) (hb : ∀ g, F g → w'.heap[g]? = w.heap[g]?) : TimI F w' b mb pv M pz now L n where
  blk := (hb b h.inb).trans h.blk
  per := own_at_block h.per fun g hg => hb g (h.inp g hg)
  mpg := h.mpg.at_block (hb mb h.inm)
  nothing := h.nothing
  row := fun s v hv => own_at_block (h.row s v hv) fun g hg => hb g (h.inr s v g hv hg)
  inb := h.inb
  inm := h.inm
  inp := h.inp
  inr := h.inr
  apart := h.apart
  pos := h.pos
  lt := fun g hg => Nat.lt_of_lt_of_le (h.lt g hg) hs
  now0 := h.now0
  len := h.len
  pzs := h.pzs
theorem Tim.kept (h : Tim F w b pz now L n) (hs : w.heap.size ≤ w'.heap.size) (hb : ∀ g, F g → w'.heap[g]? = w.heap[g]?) : Tim F w' b pz now L n := by
  obtain ⟨mb, pv, M, h⟩ := h; exact ⟨mb, pv, M, h.kept hs hb⟩
theorem Tim.lt (h : Tim F w b pz now L n) : ∀ g, F g → g < w.heap.size := by obtain ⟨mb, pv, M, h⟩ := h; exact h.lt
theorem Tim.trn (h : Tim F w b pz now L n) {F' : Nat → Prop} (t : Trn F' w w') (hd : ∀ g, F g → ¬ F' g) : Tim F w' b pz now L n := h.kept t.size fun g hg => t.block g (h.lt g hg) (hd g hg)
theorem Tim.below (h : Tim F w b pz now L n) (t : Below w.heap.size w w') : Tim F w' b pz now L n := h.kept t.size fun g hg => t.block g (h.lt g hg)
theorem TimI.ne (h : TimI F w b mb pv M pz now L n) : b ≠ mb := by
  intro e
  obtain ⟨D, ⟨es, clock, h1, _⟩, _⟩ := h.mpg
  rw [← e, h.blk] at h1
  cases h1
theorem TimI.row_ne (h : TimI F w b mb pv M pz now L n) {s : Int} {v : Value} {g : Nat} (hv : M s = some v) (hg : v.ownBlock = some g) : g ≠ b ∧ g ≠ mb ∧ pv.ownBlock ≠ some g := by
  obtain ⟨cur, hc⟩ := own_blk (h.row s v hv) hg
  refine ⟨fun e => ?_, fun e => ?_, fun e => ?_⟩
  · rw [e, h.blk] at hc
    have := Option.some.inj hc
    simp at this
  · obtain ⟨D, ⟨es, clock, h1, _⟩, _⟩ := h.mpg
    rw [e, h1] at hc
    cases hc
  · obtain ⟨cur', hc'⟩ := own_blk h.per e
    rw [hc] at hc'
    have := Option.some.inj hc'
    simp at this
theorem TimI.per_ne (h : TimI F w b mb pv M pz now L n) {g : Nat} (hg : pv.ownBlock = some g) : g ≠ b ∧ g ≠ mb := by
  obtain ⟨cur, hc⟩ := own_blk h.per hg
  refine ⟨fun e => ?_, fun e => ?_⟩
  · rw [e, h.blk] at hc
    have := Option.some.inj hc
    simp at this
  · obtain ⟨D, ⟨es, clock, h1, _⟩, _⟩ := h.mpg
    rw [e, h1] at hc
    cases hc
/-- What stands at a slot: a slice, or none. -/
def atM (M : Int → Option Value) (s : Int) : Value := (M s).getD (.slice none 0 0)
theorem TimI.atS (h : TimI F w b mb pv M pz now L n) (s : Int) : w.ownsRow 0 48 2 (atM M s) (dueL s L).length (duC (dueL s L)) := by
  unfold atM
  cases hM : M s with
  | none => rw [h.nothing s hM]; exact World.ownsRow_nil _ _ _ _
  | some v => exact h.row s v hM
theorem TimI.at_in (h : TimI F w b mb pv M pz now L n) {s : Int} {g : Nat} (hg : (atM M s).ownBlock = some g) : F g ∧ g ≠ b ∧ g ≠ mb ∧ pv.ownBlock ≠ some g := by
  unfold atM at hg
  cases hM : M s with
  | none => rw [hM] at hg; cases hg
  | some v =>
    rw [hM] at hg
    exact ⟨h.inr s v g hM hg, h.row_ne hM hg⟩
/-- One release more waits. -/
theorem TimI.put (h : TimI F w b mb pv M pz now L n) {s : Int} {x : Int × Int} {w1 w2 : World} {v : Value} (hg : w.grownBy w1 (atM M s).ownBlock) (hown : w1.ownsRow 0 48 2 v ((dueL s L).length + 1) (duC (dueL s L) ++ encP x))
    (hloc : v.ownBlock = (atM M s).ownBlock ∨ ∃ g, v.ownBlock = some g ∧ w.heap.size ≤ g) (hm : MpG Try.prog 3 w2 mb (n + 1) (updM M s (some v))) (hg2 : w1.grownBy w2 (some mb)) :
    TimI (fun g => (F g ∨ w.heap.size ≤ g) ∧ g < w2.heap.size) w2 b mb pv (updM M s (some v)) pz now (L ++ [(x, s)]) (n + 1) := by
  have hsz : w.heap.size ≤ w2.heap.size := Nat.le_trans hg.size hg2.size
  -- a block of the timer's that is neither the map nor the row at s
  have keep : ∀ g, F g → g ≠ mb → (atM M s).ownBlock ≠ some g → w2.heap[g]? = w.heap[g]? := fun g hF h1 h2 =>
    (hg2.block g (Nat.lt_of_lt_of_le (h.lt g hF) hg.size) (fun e => h1 (Option.some.inj e))).trans (hg.block g (h.lt g hF) (fun e => h2 e.symm))
  have old : ∀ g, F g → (F g ∨ w.heap.size ≤ g) ∧ g < w2.heap.size := fun g hF => ⟨Or.inl hF, Nat.lt_of_lt_of_le (h.lt g hF) hsz⟩
  -- where the new slice lies
  have hv : ∀ g, v.ownBlock = some g → ((F g ∧ (atM M s).ownBlock = some g) ∨ w.heap.size ≤ g) ∧ g ≠ mb ∧ g < w2.heap.size := fun g hvg => by
    have hl1 := (hown.lt g hvg).2
    have hl2 := hg2.size
    rcases hloc with e | ⟨g', e, hl⟩
    · rw [hvg] at e
      have := h.at_in e.symm
      exact ⟨Or.inl ⟨this.1, e.symm⟩, this.2.2.1, by omega⟩
    · rw [hvg] at e
      cases e
      exact ⟨Or.inr hl, fun e => by have := h.lt mb h.inm; omega, by omega⟩
  refine ⟨(keep b h.inb h.ne (fun e => (h.at_in e).2.1 rfl)).trans h.blk, own_at_block h.per fun g hg' => keep g (h.inp g hg') (h.per_ne hg').2 (fun e => (h.at_in e).2.2.2 hg'), hm, fun t ht => ?_, fun t u hu => ?_, old b h.inb, old mb h.inm, fun g hg' => old g (h.inp g hg'), fun t u g hu hg' => ?_, fun t t' u u' g hu hu' hg1 hg1' => ?_, fun t u hu hc => ?_, fun g hg' => hg'.2, h.now0, by rw [List.length_append]; have := h.len; simp; omega, h.pzs⟩
  · have hne : t ≠ s := fun e => by subst e; simp [updM] at ht
    have hM : M t = none := by simpa [updM, hne] using ht
    rw [due_snoc, if_neg (fun e => hne e.symm)]
    exact h.nothing t hM
  · by_cases e : t = s
    · subst e
      have : u = v := by simpa [updM] using hu.symm
      subst this
      rw [due_snoc, if_pos rfl, duC_append, duC_one, List.length_append]
      exact own_at_block hown fun g hg' => hg2.block g (hown.lt g hg').2 (fun e => (hv g hg').2.1 (Option.some.inj e))
    · have hM : M t = some u := by simpa [updM, e] using hu
      rw [due_snoc, if_neg (fun e' => e e'.symm)]
      refine own_at_block (h.row t u hM) fun g hg' => keep g (h.inr t u g hM hg') (h.row_ne hM hg').2.1 (fun e' => ?_)
      unfold atM at e'
      cases hMs : M s with
      | none => rw [hMs] at e'; cases e'
      | some u0 => rw [hMs] at e'; exact e (h.apart t s u u0 g hM hMs hg' e')
  · by_cases e : t = s
    · subst e
      have : u = v := by simpa [updM] using hu.symm
      subst this
      exact ⟨(hv g hg').1.imp (fun h => h.1) id, (hv g hg').2.2⟩
    · have hM : M t = some u := by simpa [updM, e] using hu
      exact old g (h.inr t u g hM hg')
  · have cross : ∀ {t : Int} {u : Value}, t ≠ s → M t = some u → u.ownBlock = some g → v.ownBlock = some g → False := fun {t u} e hM hgu hgv => by
      rcases (hv g hgv).1 with ⟨_, e'⟩ | hl
      · unfold atM at e'
        cases hMs : M s with
        | none => rw [hMs] at e'; cases e'
        | some u0 => rw [hMs] at e'; exact e (h.apart t s u u0 g hM hMs hgu e')
      · have := h.lt g (h.inr t u g hM hgu)
        omega
    by_cases e : t = s <;> by_cases e' : t' = s
    · rw [e, e']
    · subst e
      have : u = v := by simpa [updM] using hu.symm
      subst this
      exact (cross e' (by simpa [updM, e'] using hu') hg1' hg1).elim
    · subst e'
      have : u' = v := by simpa [updM] using hu'.symm
      subst this
      exact (cross e (by simpa [updM, e] using hu) hg1 hg1').elim
    · exact h.apart t t' u u' g (by simpa [updM, e] using hu) (by simpa [updM, e'] using hu') hg1 hg1'
  · by_cases e : t = s
    · subst e
      have : u = v := by simpa [updM] using hu.symm
      subst this
      rcases hown.2 with ⟨_, h0⟩ | ⟨g, cap, cur, e2, _⟩
      · omega
      · rw [hc] at e2; cases e2
    · exact h.pos t u (by simpa [updM, e] using hu) hc
/-- The slot is over: what was due waits no more. -/
theorem TimI.over (h : TimI F w b mb pv M pz now L n) {w1 : World} (hm : MpG Try.prog 3 w1 mb n (updM M now none)) (hg : w.grownBy w1 (some mb)) :
    TimI (fun g => F g ∧ (atM M now).ownBlock ≠ some g) (w1.setCell ⟨b, 2, none⟩ (.int .i64 (now + 1))) b mb pv (updM M now none) pz (now + 1) (lateL now L) n ∧
      (w1.setCell ⟨b, 2, none⟩ (.int .i64 (now + 1))).ownsRow 0 48 2 (atM M now) (dueL now L).length (duC (dueL now L)) ∧ Trn F w (w1.setCell ⟨b, 2, none⟩ (.int .i64 (now + 1))) := by
  have keep : ∀ g, F g → g ≠ mb → g ≠ b → (w1.setCell ⟨b, 2, none⟩ (.int .i64 (now + 1))).heap[g]? = w.heap[g]? := fun g hF h1 h2 =>
    (heap_set_other w1 _ h2).trans (hg.block g (h.lt g hF) (fun e => h1 (Option.some.inj e)))
  have hb1 : w1.heap[b]? = w.heap[b]? := hg.block b (h.lt b h.inb) (fun e => h.ne (Option.some.inj e))
  have hsz : (w1.setCell ⟨b, 2, none⟩ (.int .i64 (now + 1))).heap.size = w1.heap.size := by simp [World.setCell]
  refine ⟨⟨heap_set_same (hb1.trans h.blk) _, own_at_block h.per fun g hg' => keep g (h.inp g hg') (h.per_ne hg').2 (h.per_ne hg').1, hm.at_block (heap_set_other w1 _ (fun e => h.ne e.symm)), fun t ht => ?_, fun t u hu => ?_, ⟨h.inb, fun e => (h.at_in e).2.1 rfl⟩, ⟨h.inm, fun e => (h.at_in e).2.2.1 rfl⟩,
    fun g hg' => ⟨h.inp g hg', fun e => (h.at_in e).2.2.2 hg'⟩, fun t u g hu hg' => ?_, fun t t' u u' g hu hu' h1 h2 => ?_, fun t u hu => ?_, fun g hg' => by rw [hsz]; exact Nat.lt_of_lt_of_le (h.lt g hg'.1) hg.size, by have := h.now0; omega, Nat.le_trans (List.length_filter_le _ _) h.len, h.pzs⟩, ?_, ?_⟩
  · by_cases e : t = now
    · rw [e]; exact due_late_same now L
    · rw [due_late L e]
      exact h.nothing t (by simpa [updM, e] using ht)
  · by_cases e : t = now
    · subst e; simp [updM] at hu
    · have hM : M t = some u := by simpa [updM, e] using hu
      rw [due_late L e]
      exact own_at_block (h.row t u hM) fun g hg' => keep g (h.inr t u g hM hg') (h.row_ne hM hg').2.1 (h.row_ne hM hg').1
  · by_cases e : t = now
    · subst e; simp [updM] at hu
    · have hM : M t = some u := by simpa [updM, e] using hu
      refine ⟨h.inr t u g hM hg', fun e' => ?_⟩
      unfold atM at e'
      cases hMs : M now with
      | none => rw [hMs] at e'; cases e'
      | some u0 => rw [hMs] at e'; exact e (h.apart t now u u0 g hM hMs hg' e')
  · by_cases e : t = now
    · subst e; simp [updM] at hu
    · by_cases e' : t' = now
      · subst e'; simp [updM] at hu'
      · exact h.apart t t' u u' g (by simpa [updM, e] using hu) (by simpa [updM, e'] using hu') h1 h2
  · by_cases e : t = now
    · subst e; simp [updM] at hu
    · exact h.pos t u (by simpa [updM, e] using hu)
  · exact own_at_block (h.atS now) fun g hg' => keep g (h.at_in hg').1 (h.at_in hg').2.2.1 (h.at_in hg').2.1
  · refine ⟨by simp [World.setCell, hg.os], by simp [World.setCell, hg.tape], by simp [World.setCell, hg.output], by rw [hsz]; exact hg.size, fun i hi hn => ?_⟩
    exact (heap_set_other w1 _ (fun e : i = b => hn (by rw [e]; exact h.inb))).trans (hg.block i hi (fun e => hn (by cases e; exact h.inm)))
end
end Go.Proofs.Ytdhchfmefdlloaa
