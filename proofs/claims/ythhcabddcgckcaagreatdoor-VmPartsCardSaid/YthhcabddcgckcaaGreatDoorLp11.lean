/- What is proved here: three machines side by side, each step with blocks of its own that are 0. Conditions: those each theorem states. -/
import Derived.Test.YthhcabddcgckcaaGreatDoorLp8
import Derived.Test.YthhcabddcgckcaaGreatDoorPl12
namespace Go.Proofs.YthhcabddcgckcaaGreatDoor
open Go.ChangeShapes Go.WideShapes Go.RowKit Go.Maps

theorem GotM.any {L : List (Int × Int × Int)} {w : World} {e : Ending} {w' : World} (h : GotM L w e w') :
    ∃ (p : Option Addr) (x : Int), e = .returned (.tuple #[.pointer p, .int .i64 x]) ∧ Below w.heap.size w w' := by
  obtain ⟨hb, h⟩ := h
  rcases h with h | h | h
  · exact ⟨none, _, h.2, hb⟩
  · exact ⟨none, _, h.2.2, hb⟩
  · obtain ⟨_, _, b, F, e1, _⟩ := h; exact ⟨_, 0, e1, hb⟩
/-- Three machines. -/
structure Trio (w wr : World) (F G H : Nat → Prop) (b b' b'' : Nat) (A B O : List (Int × Int × Int)) (x y z : V) : Prop where
  a : Mac wr F b A x
  b : Mac wr G b' B y
  c : Mac wr H b'' O z
  d1 : ∀ k, F k → ¬ G k
  d2 : ∀ k, G k → ¬ H k
  d3 : ∀ k, H k → ¬ F k
  l1 : ∀ k, F k → w.heap.size ≤ k
  l2 : ∀ k, G k → w.heap.size ≤ k
  l3 : ∀ k, H k → w.heap.size ≤ k
  bel : Below w.heap.size w wr
section
variable {w wr w' : World} {F F' G H : Nat → Prop} {b b' b'' mb : Nat} {A B O : List (Int × Int × Int)} {x x' y z : V}
theorem Trio.rot (h : Trio w wr F G H b b' b'' A B O x y z) : Trio w wr G H F b' b'' b B O A y z x := ⟨h.b, h.c, h.a, h.d2, h.d3, h.d1, h.l2, h.l3, h.l1, h.bel⟩
theorem Trio.below (h : Trio w wr F G H b b' b'' A B O x y z) (g : Below wr.heap.size wr w') : Trio w w' F G H b b' b'' A B O x y z := ⟨h.a.below g, h.b.below g, h.c.below g, h.d1, h.d2, h.d3, h.l1, h.l2, h.l3, keep_below h.bel g⟩
theorem Trio.chg (h : Trio w wr F G H b b' b'' A B O x y z) (g : Chg F F' mb wr w') (hm : Mac w' F' b A x') (h1 : ¬ G mb) (h2 : ¬ H mb) (h3 : w.heap.size ≤ mb) : Trio w w' F' G H b b' b'' A B O x' y z where
  a := hm
  b := h.b.other g (fun i hi e => h.d1 i e hi) h1
  c := h.c.other g (fun i hi e => h.d3 i hi e) h2
  d1 := fun k hk e => (g.foot k hk).elim (fun hf => h.d1 k hf e) (fun hs => by have := h.b.lt k e; omega)
  d2 := h.d2
  d3 := fun k hk e => (g.foot k e).elim (fun hf => h.d3 k hk hf) (fun hs => by have := h.c.lt k hk; omega)
  l1 := g.loF h.l1 h.bel.size
  l2 := h.l2
  l3 := h.l3
  bel := h.bel.trans (g.lowB h.l1 h3 h.bel.size)
theorem Trio.start (h : Trio w wr F G H b b' b'' A B O x y z) (g : Chg F F b wr w') (hm : Mac w' F b A x') : Trio w w' F G H b b' b'' A B O x' y z :=
  h.chg g hm (h.d1 b h.a.fb) (fun e => h.d3 b e h.a.fb) (h.l1 b h.a.fb)
/-- A step of the first one. -/
theorem Trio.go (h : Trio w wr F G H b b' b'' A B O x y z) (hok : Fine A x) (t : Takes A) (cs : Array Value) (hcs : cs = (blank.map (Value.int .i64)).toArray) :
    Calls Tryz.prog 18 #[.pointer (some ⟨b, 0, none⟩), .pointer (some ⟨wr.heap.size, 0, none⟩)] (wr.alloc (.cells cs 27)) fun e w' => e = .returned (toldV (told A x)) ∧ ∃ F', Trio w w' F' G H b b' b'' A B O (nz A x) y z := by
  have hn : ∀ (I : Nat → Prop), (∀ k, I k → k < wr.heap.size) → ¬ I wr.heap.size := fun I hI e => by have := hI _ e; omega
  have h1 := h.below (below_alloc wr (.cells cs 27))
  refine (stepn_any _ F b wr.heap.size A (x, blank) h1.a (mem_lit wr cs blank hcs rfl) (hn F h.a.lt) hok t).mono ?_
  rintro e w' ⟨rfl, F', m1, _, _, g⟩
  exact ⟨rfl, F', h1.chg g m1 (hn G h.b.lt) (hn H h.c.lt) h.bel.size⟩
end
end Go.Proofs.YthhcabddcgckcaaGreatDoor
