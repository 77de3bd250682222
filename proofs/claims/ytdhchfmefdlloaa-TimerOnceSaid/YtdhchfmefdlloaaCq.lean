/- What is proved here: how a copy's rows are laid, one by one. Conditions: those each theorem states. -/
import Derived.Test.YtdhchfmefdlloaaNw
import Derived.Test.YtdhchfmefdlloaaRe
import Derived.Test.YtdhchfmefdlloaaWg
namespace Go.Proofs.Ytdhchfmefdlloaa
open Go.ChangeShapes Go.WideShapes Go.RowKit Go.Maps

theorem wp_enter {P : Program} {o : Oper} {a : Act} {w : World} {K : Act → World → Prop} {Q : Exit → Act → World → Prop} {f : FuncId} {args : Array Value} (h : (execOp a.eval o).run P w = .ok (.enter f args) w) (c : Calls P f args w fun e w' => ∃ v, e = .returned v ∧ K (a.put o.dst v) w') : o.wp P a w K Q := by
  unfold Oper.wp
  rw [h, Oper.upon_enter]
  refine c.mono fun e w' he => ?_
  obtain ⟨v, rfl, hr⟩ := he
  exact hr
theorem due_filter (p : Int → Bool) (t : Int) (L : List Wt) : dueL t (L.filter (fun x => p x.2)) = if p t = true then dueL t L else [] := by
  unfold dueL
  rw [List.filter_filter]
  by_cases h : p t = true
  · rw [if_pos h]
    congr 1
    apply List.filter_congr
    intro x _
    by_cases hx : x.2 = t
    · simp [hx, h]
    · simp [hx]
  · rw [if_neg h]
    rw [List.filter_eq_nil_iff.2, List.map_nil]
    intro x _ hx
    simp at hx
    exact h (by rw [← hx.1]; exact hx.2)
theorem due_step (left : Int → Bool) {s : Int} (hs : left s = true) (t : Int) (L : List Wt) :
    dueL t (L.filter (fun x => !(left x.2 && x.2 != s))) = if t = s then dueL s L else dueL t (L.filter (fun x => !left x.2)) := by
  rw [due_filter (fun z => !(left z && z != s)) t L, due_filter (fun z => !left z) t L]
  by_cases e : t = s
  · subst e; simp
  · simp [e]
theorem TimI.lay {F : Nat → Prop} {w : World} {b mb : Nat} {pv : Value} {M : Int → Option Value} {pz : List Int} {now : Int} {L' : List Wt} {N : Nat} (h : TimI F w b mb pv M pz now L' N) {s : Int} {l : List (Int × Int)} {w1 w2 : World} {v : Value} (hMs : M s = none)
    (hb : Below w.heap.size w w1) (hown : w1.ownsRow w.heap.size 48 2 v l.length (duC l)) (hv : v ≠ .slice none 0 0) (hm : MpG Try.prog 3 w2 mb N (updM M s (some v))) (hg2 : w1.grownBy w2 (some mb)) {L2 : List Wt} (hL2 : ∀ t, dueL t L2 = if t = s then l else dueL t L') (hlen : L2.length ≤ N) :
    TimI (fun g => (F g ∨ w.heap.size ≤ g) ∧ g < w2.heap.size) w2 b mb pv (updM M s (some v)) pz now L2 N := by
  have hsz : w.heap.size ≤ w2.heap.size := Nat.le_trans hb.size hg2.size
  have keep : ∀ g, F g → g ≠ mb → w2.heap[g]? = w.heap[g]? := fun g hF h1 =>
    (hg2.block g (Nat.lt_of_lt_of_le (h.lt g hF) hb.size) (fun e => h1 (Option.some.inj e))).trans (hb.block g (h.lt g hF))
  have old : ∀ g, F g → (F g ∨ w.heap.size ≤ g) ∧ g < w2.heap.size := fun g hF => ⟨Or.inl hF, Nat.lt_of_lt_of_le (h.lt g hF) hsz⟩
  have hvb : ∀ g, v.ownBlock = some g → w.heap.size ≤ g ∧ g < w1.heap.size ∧ g ≠ mb := fun g hg => ⟨(hown.lt g hg).1, (hown.lt g hg).2, fun e => by have := (hown.lt g hg).1; have := h.lt mb h.inm; omega⟩
  have cross : ∀ {t : Int} {u : Value} {g : Nat}, M t = some u → u.ownBlock = some g → v.ownBlock = some g → False := fun {t u g} hM hgu hgv => by
    have := h.lt g (h.inr t u g hM hgu)
    have := (hvb g hgv).1
    omega
  exact {
    blk := (keep b h.inb h.ne).trans h.blk
    per := own_at_block h.per fun g hg => keep g (h.inp g hg) (h.per_ne hg).2
    mpg := hm
    nothing := fun t ht => by
      have hne : t ≠ s := fun e => by subst e; simp [updM] at ht
      rw [hL2, if_neg hne]
      exact h.nothing t (by simpa [updM, hne] using ht)
    row := fun t u hu => by
      by_cases e : t = s
      · subst e
        have : u = v := by simpa [updM] using hu.symm
        subst this
        rw [hL2, if_pos rfl]
        have h2 := own_at_block hown fun g hg => hg2.block g (hvb g hg).2.1 (fun e => (hvb g hg).2.2 (Option.some.inj e))
        refine ⟨h2.1, ?_⟩
        rcases h2.2 with h3 | ⟨g, cap, cur, h3, _, h5⟩
        · exact Or.inl h3
        · exact Or.inr ⟨g, cap, cur, h3, Nat.zero_le _, h5⟩
      · have hM : M t = some u := by simpa [updM, e] using hu
        rw [hL2, if_neg e]
        exact own_at_block (h.row t u hM) fun g hg => keep g (h.inr t u g hM hg) (h.row_ne hM hg).2.1
    inb := old b h.inb
    inm := old mb h.inm
    inp := fun g hg => old g (h.inp g hg)
    inr := fun t u g hu hg => by
      by_cases e : t = s
      · subst e
        have : u = v := by simpa [updM] using hu.symm
        subst this
        exact ⟨Or.inr (hvb g hg).1, Nat.lt_of_lt_of_le (hvb g hg).2.1 hg2.size⟩
      · exact old g (h.inr t u g (by simpa [updM, e] using hu) hg)
    apart := fun t t' u u' g hu hu' h1 h2 => by
      by_cases e : t = s <;> by_cases e' : t' = s
      · rw [e, e']
      · have : u = v := by subst e; simpa [updM] using hu.symm
        subst this
        exact (cross (t := t') (by simpa [updM, e'] using hu') h2 h1).elim
      · have : u' = v := by subst e'; simpa [updM] using hu'.symm
        subst this
        exact (cross (t := t) (by simpa [updM, e] using hu) h1 h2).elim
      · exact h.apart t t' u u' g (by simpa [updM, e] using hu) (by simpa [updM, e'] using hu') h1 h2
    pos := fun t u hu => by
      by_cases e : t = s
      · have : u = v := by subst e; simpa [updM] using hu.symm
        rw [this]; exact hv
      · exact h.pos t u (by simpa [updM, e] using hu)
    lt := fun g hg => hg.2
    now0 := h.now0
    len := hlen
    pzs := h.pzs }
end Go.Proofs.Ytdhchfmefdlloaa
