/- What is proved here: the timer's Tick, with where what it tells lies; own rows of ints. Conditions: those each theorem states. -/
import Derived.Test.YtdhchfmefdlloaaCw
namespace Go.Proofs.Ytdhchfmefdlloaa
open Go.ChangeShapes Go.WideShapes Go.RowKit Go.Maps

theorem tick_w {F : Nat → Prop} {w : World} {b : Nat} {pz : List Int} {now : Int} {L : List Wt} {n : Nat} (h : Tim F w b pz now L n) (hn : n ≤ 1000000000) (hnow : now ≤ 1000000000000)
    {a : Option Addr} {m c : Nat} {zs : List Int} (hr : Row w a m zs) (hmc : m ≤ c) (hc : c ≤ 9223372036854775807) (hna : 0 < m → ∀ bb off, a = some ⟨bb, off, none⟩ → ¬ F bb)
    {D : List (Int × Int)} {k : Nat} (hD : toldL pz now L zs = D) (hk : D.length = k) {L2 : List Wt} (hL2 : tickL pz now L zs = L2) {now2 : Int} (hn2 : now + 1 = now2) {n2 : Nat} (hnn : n + pz.length = n2) :
    Calls Try.prog 14 #[.pointer (some ⟨b, 0, none⟩), .slice a m c] w
      fun e w' => ∃ (F' : Nat → Prop) (a' : Option Addr) (c' : Nat), e = .returned (.slice a' k c') ∧ RowO F' w' a' k D ∧ (∀ g off, a' = some ⟨g, off, none⟩ → F g ∨ w.heap.size ≤ g) ∧ Tim F' w' b pz now2 L2 n2 ∧ (∀ g, F' g → F g ∨ w.heap.size ≤ g) ∧ Trn F w w' := by
  subst hD; subst hk; subst hL2; subst hn2; subst hnn
  refine (tick_any h hn hnow a m c zs hr hmc hc hna).mono fun e w' h => ?_
  obtain ⟨F', a', c', rfl, h1, h2, h3, h4, h5⟩ := h
  exact ⟨F', a', c', rfl, ⟨h1, fun _ b off e => (h4 b off e).1⟩, fun g off e => (h4 g off e).2, h2, h3, h5⟩
theorem own_caps {w : World} {base : Nat} {v : Value} {m : Nat} {l : List Int} (h : w.ownsRow base 3 1 v m (l.map (Value.int .i64))) : ∃ a c, v = .slice a m c ∧ Row w a m l ∧ m ≤ c ∧ c ≤ 9223372036854775807 ∧ ∀ g off, a = some ⟨g, off, none⟩ → base ≤ g := by
  obtain ⟨a, n, c, hv, hr⟩ := Row.own h
  have hml : m = l.length := by have := h.1; simp at this; omega
  obtain rfl : n = m := hr.1.trans hml.symm
  rcases h.2 with ⟨e, h0⟩ | ⟨g, cap, cur, e, h3, _, h5, h6, _⟩
  · rw [hv] at e
    cases e
    exact ⟨none, 0, hv, hr, Nat.le_refl _, Nat.zero_le _, fun g off e => by cases e⟩
  · rw [hv] at e
    cases e
    exact ⟨_, _, hv, hr, h5, by simpa [maxLen] using h6, fun g' off e => by cases e; exact h3⟩
theorem keep_own {w w' : World} {base e size : Nat} {v : Value} {m : Nat} {xs : List Value} (h : w.ownsRow base e size v m xs) (o : Obj) (hw : w' = w.alloc o) : w'.ownsRow base e size v m xs := by rw [hw]; exact own_keep h (below_alloc w o)
end Go.Proofs.Ytdhchfmefdlloaa
