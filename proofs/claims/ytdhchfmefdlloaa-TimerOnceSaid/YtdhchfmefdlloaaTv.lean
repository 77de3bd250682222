/- What is proved here: the timer's contracts in the forms that the laws' walks use. Conditions: those each theorem states. -/
import Derived.Test.YtdhchfmefdlloaaTk
import Derived.Test.YtdhchfmefdlloaaWg
import Derived.Test.YtdhchfmefdlloaaNw
import Derived.Test.YtdhchfmefdlloaaCp
import Derived.Test.YtdhchfmefdlloaaPn
import Derived.Test.YtdhchfmefdlloaaSa
import Derived.Test.YtdhchfmefdlloaaPt
namespace Go.Proofs.Ytdhchfmefdlloaa
open Go.ChangeShapes Go.WideShapes Go.RowKit Go.Maps

/-- Releases that are none of a timer's blocks. -/
def RowO (F : Nat → Prop) (w : World) (a : Option Addr) (n : Nat) (l : List (Int × Int)) : Prop := RowP w a n l ∧ (0 < n → ∀ b off, a = some ⟨b, off, none⟩ → ¬ F b)
theorem RowO.below {F : Nat → Prop} {w w' : World} {a : Option Addr} {n : Nat} {l : List (Int × Int)} (h : RowO F w a n l) (hb : Below w.heap.size w w') : RowO F w' a n l := ⟨h.1.below hb, h.2⟩
theorem RowO.trn {F F' : Nat → Prop} {w w' : World} {a : Option Addr} {n : Nat} {l : List (Int × Int)} (h : RowO F w a n l) (ht : Trn F w w') (hF : ∀ g, F' g → F g ∨ w.heap.size ≤ g) : RowO F' w' a n l := by
  refine ⟨h.1.trn ht h.2, fun h0 b off e hc => ?_⟩
  obtain ⟨b1, o1, e1, hlt, _⟩ := h.1.2 h0
  rw [e] at e1
  cases e1
  rcases hF b hc with h1 | h1
  · exact h.2 h0 b off e h1
  · omega
theorem tick_v {F : Nat → Prop} {w : World} {b : Nat} {pz : List Int} {now : Int} {L : List Wt} {n : Nat} (h : Tim F w b pz now L n) (hn : n ≤ 1000000000) (hnow : now ≤ 1000000000000)
    {a : Option Addr} {m c : Nat} {zs : List Int} (hr : Row w a m zs) (hmc : m ≤ c) (hc : c ≤ 9223372036854775807) (hna : 0 < m → ∀ bb off, a = some ⟨bb, off, none⟩ → ¬ F bb)
    {D : List (Int × Int)} {k : Nat} (hD : toldL pz now L zs = D) (hk : D.length = k) {L2 : List Wt} (hL2 : tickL pz now L zs = L2) {now2 : Int} (hn2 : now + 1 = now2) {n2 : Nat} (hnn : n + pz.length = n2) :
    Calls Try.prog 14 #[.pointer (some ⟨b, 0, none⟩), .slice a m c] w
      fun e w' => ∃ (F' : Nat → Prop) (a' : Option Addr) (c' : Nat), e = .returned (.slice a' k c') ∧ RowO F' w' a' k D ∧ Tim F' w' b pz now2 L2 n2 ∧ (∀ g, F' g → F g ∨ w.heap.size ≤ g) ∧ Trn F w w' := by
  subst hD; subst hk; subst hL2; subst hn2; subst hnn
  refine (tick_any h hn hnow a m c zs hr hmc hc hna).mono fun e w' h => ?_
  obtain ⟨F', a', c', rfl, h1, h2, h3, h4, h5⟩ := h
  exact ⟨F', a', c', rfl, ⟨h1, fun _ b off e => (h4 b off e).1⟩, h2, h3, h5⟩
theorem waiting_v {F : Nat → Prop} {w : World} {b : Nat} {pz : List Int} {now : Int} {L : List Wt} {n : Nat} (h : Tim F w b pz now L n) (hn : n ≤ 1000000000) {D : List (Int × Int)} {k : Nat} (hD : waitL L = D) (hk : D.length = k) :
    Calls Try.prog 18 #[.pointer (some ⟨b, 0, none⟩)] w
      fun e w' => ∃ (a' : Option Addr) (c' : Nat), e = .returned (.slice a' k c') ∧ RowO F w' a' k D ∧ Below w.heap.size w w' := by
  subst hD; subst hk
  refine (waiting_any h hn).mono fun e w' h9 => ?_
  obtain ⟨a', c', rfl, h1, h2, h3⟩ := h9
  exact ⟨a', c', rfl, ⟨h1, fun _ b off e hc => by have := h2 b off e; have := h.lt b hc; omega⟩, h3⟩
theorem eqp_nil (w : World) (b : Nat) : (binOp .eql 25 (.pointer (some ⟨b, 0, none⟩)) (.pointer none)).run Try.prog w = .ok (.bool false) w := by
  have h : ∀ d : Nat, (Op.equalIn (d + 1) 25 (.pointer (some ⟨b, 0, none⟩)) (.pointer none)).run Try.prog w = .ok false w := fun d => by
    simp [Op.equalIn, run_underlying Try.underlying25]
  simp only [binOp]
  simp [Op.equal, Op.maxDepth, h 9999]
theorem neqp_nil (w : World) (b : Nat) : (binOp .neq 25 (.pointer (some ⟨b, 0, none⟩)) (.pointer none)).run Try.prog w = .ok (.bool true) w := by
  have h : ∀ d : Nat, (Op.equalIn (d + 1) 25 (.pointer (some ⟨b, 0, none⟩)) (.pointer none)).run Try.prog w = .ok false w := fun d => by
    simp [Op.equalIn, run_underlying Try.underlying25]
  simp only [binOp]
  simp [Op.equal, Op.maxDepth, h 9999]
end Go.Proofs.Ytdhchfmefdlloaa
