/- What is proved here: a timer that runs on beside another one, while what it tells is collected. Conditions: those each theorem states. -/
import Derived.Test.YtdhchfmefdlloaaKn
import Derived.Test.YtdhchfmefdlloaaAp
import Derived.Test.YtdhchfmefdlloaaOi
namespace Go.Proofs.Ytdhchfmefdlloaa
open Go.ChangeShapes Go.WideShapes Go.RowKit Go.Maps

theorem Tim.mono' {F : Nat → Prop} {w : World} {b : Nat} {pz : List Int} {now : Int} {L : List Wt} {n n' : Nat} (h : Tim F w b pz now L n) (hn : n ≤ n') : Tim F w b pz now L n' := by
  obtain ⟨mb, pv, M, h⟩ := h; exact ⟨mb, pv, M, h.mono hn⟩
theorem Tim.len {F : Nat → Prop} {w : World} {b : Nat} {pz : List Int} {now : Int} {L : List Wt} {n : Nat} (h : Tim F w b pz now L n) : L.length ≤ n ∧ pz.length ≤ 8 := by
  obtain ⟨mb, pv, M, h⟩ := h; exact ⟨h.len, h.pzs.1.2⟩
theorem waiting_w {F : Nat → Prop} {w : World} {b : Nat} {pz : List Int} {now : Int} {L : List Wt} {n : Nat} (h : Tim F w b pz now L n) (hn : n ≤ 1000000000) {D : List (Int × Int)} {k : Nat} (hD : waitL L = D) (hk : D.length = k) :
    Calls Try.prog 18 #[.pointer (some ⟨b, 0, none⟩)] w
      fun e w' => ∃ (a' : Option Addr) (c' : Nat), e = .returned (.slice a' k c') ∧ RowP w' a' k D ∧ (∀ g off, a' = some ⟨g, off, none⟩ → w.heap.size ≤ g) ∧ Below w.heap.size w w' := by
  subst hD; subst hk
  exact waiting_any h hn
/-- What is told from a slot on. -/
def runT (pz : List Int) : List (List Int) → Int → List Wt → List (Int × Int)
  | [], _, _ => []
  | z :: r, s, L => toldL pz s L z ++ runT pz r (s + 1) (tickL pz s L z)
theorem runT_step {pz : List Int} {LL : List (List Int)} {k : Nat} {z : List Int} (h : LL[k]? = some z) (s : Int) (L : List Wt) : runT pz (LL.drop k) s L = toldL pz s L z ++ runT pz (LL.drop (k + 1)) (s + 1) (tickL pz s L z) := by
  rw [take_cons_drop h]; rfl
structure Cp (w wr : World) (Bs : Nat) (l : List Int) (bx : Nat) (k : Int) (Lx : List Wt) (nx : Nat) (Fx : Nat → Prop) (bY : Nat) (ky : Int) (LY : List Wt) (nY : Nat) (FY : Nat → Prop) (ar : Option Addr) (nr : Nat) (Dr : List (Int × Int)) (v : Value) (T : List (Int × Int)) : Prop where
  x : Tim Fx wr bx l k Lx nx
  y : Tim FY wr bY l ky LY nY
  r : RowP wr ar nr Dr
  own : wr.ownsRow Bs 48 2 v T.length (duC T)
  vx : ∀ g, v.ownBlock = some g → ¬ Fx g
  fx : ∀ g, Fx g → w.heap.size ≤ g
  off : ∀ g, Fx g → ¬ FY g
  ylow : ∀ g, FY g → g < Bs
  rlow : 0 < nr → ∀ b off, ar = some ⟨b, off, none⟩ → b < Bs ∧ ¬ Fx b
  bs : w.heap.size ≤ Bs ∧ Bs ≤ wr.heap.size
  bel : Below w.heap.size w wr
section
variable {w wr w1 w2 : World} {Bs : Nat} {l : List Int} {bx : Nat} {k k' : Int} {Lx Lx' : List Wt} {nx nx' : Nat} {Fx Fx' : Nat → Prop} {bY : Nat} {ky : Int} {LY : List Wt} {nY : Nat} {FY : Nat → Prop} {ar : Option Addr} {nr : Nat} {Dr : List (Int × Int)} {v v' : Value} {T D : List (Int × Int)}
theorem Cp.own1 (h : Cp w wr Bs l bx k Lx nx Fx bY ky LY nY FY ar nr Dr v T) (x1 : Trn Fx wr w1) : w1.ownsRow Bs 48 2 v T.length (duC T) :=
  own_at_block h.own fun g hg => x1.block g (h.own.lt g hg).2 (h.vx g hg)
theorem Cp.step (h : Cp w wr Bs l bx k Lx nx Fx bY ky LY nY FY ar nr Dr v T) (x1 : Trn Fx wr w1) (t1 : Tim Fx' w1 bx l k' Lx' nx') (f1 : ∀ g, Fx' g → Fx g ∨ wr.heap.size ≤ g)
    {m : Nat} (ho : w2.ownsRow Bs 48 2 v' (T.length + m) (duC T ++ duC D)) (hm : m = D.length) (hg : w1.grownBy w2 v.ownBlock) (hl : v'.ownBlock = v.ownBlock ∨ v'.ownBlock = some w1.heap.size) :
    Cp w w2 Bs l bx k' Lx' nx' Fx' bY ky LY nY FY ar nr Dr v' (T ++ D) := by
  have vlow : ∀ g, v.ownBlock = some g → Bs ≤ g ∧ g < wr.heap.size := fun g hgv => h.own.lt g hgv
  have ylt := h.y.lt
  have s1 := x1.size
  have s2 := hg.size
  refine ⟨?_, ?_, ?_, by rw [List.length_append, duC_append, ← hm]; exact ho, fun g e hc => ?_, fun g hc => ?_, fun g hc hy => ?_, h.ylow, fun h0 b off e => ⟨(h.rlow h0 b off e).1, fun hc => ?_⟩, ⟨h.bs.1, by have := h.bs.2; omega⟩, ?_⟩
  · exact t1.kept hg.size fun g hc => hg.block g (t1.lt g hc) (fun e => by
      rcases f1 g hc with h1 | h1
      · exact h.vx g e.symm h1
      · have := (vlow g e.symm).2; omega)
  · exact (h.y.trn x1 fun g h1 h2 => h.off g h2 h1).kept hg.size fun g hc => hg.block g (by have := ylt g hc; omega) (fun e => by have := (vlow g e.symm).1; have := h.ylow g hc; omega)
  · exact (h.r.trn x1 fun h0 b off e => (h.rlow h0 b off e).2).trn (Trn.of_grown hg (F := fun g => v.ownBlock = some g) (fun j e => e)) fun h0 b off e hc => by
      have := (vlow b hc).1; have := (h.rlow h0 b off e).1; omega
  · rcases hl with h1 | h1
    · rw [h1] at e
      rcases f1 g hc with h2 | h2
      · exact h.vx g e h2
      · have := (vlow g e).2; omega
    · rw [h1] at e
      cases e
      exact Nat.lt_irrefl _ (t1.lt _ hc)
  · rcases f1 g hc with h1 | h1
    · exact h.fx g h1
    · have := h.bel.size; omega
  · rcases f1 g hc with h1 | h1
    · exact h.off g h1 hy
    · have := ylt g hy; omega
  · rcases f1 b hc with h1 | h1
    · exact (h.rlow h0 b off e).2 h1
    · have := (h.rlow h0 b off e).1; have := h.bs.2; omega
  · exact (h.bel.trans (x1.below h.bel.size h.fx)).grown hg (Nat.le_trans h.bel.size s1) (fun j e => Nat.le_trans h.bs.1 (vlow j e).1)
end
end Go.Proofs.Ytdhchfmefdlloaa
