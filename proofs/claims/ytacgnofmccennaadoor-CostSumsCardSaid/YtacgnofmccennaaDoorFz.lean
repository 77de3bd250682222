/- What is proved here: a slice of instructions that came in has no more bytes than one may reach. Conditions: those each theorem states. -/
import Derived.Test.YtacgnofmccennaaDoorGl
import Derived.SizedLaws
namespace Go.Proofs.YtacgnofmccennaaDoor
open Go.ChangeShapes Go.WideShapes Go.RowKit Go.Deep

section
variable {H : Type} {enc : TypeId × Value → H} {W : World} {base : Nat} {sp : Nat → Bool} {held : Bool}
/-- A slice of instructions that came in has no more bytes than one may reach. -/
theorem row_small {a : Option Addr} {len cap : Nat} {d : DataW H} {p : List MemPlace} (h : DataW.Trod enc Tryd.prog W base sp held 22 (.slice a len cap) d p)
    (hs : ∀ elems spare, d = .slice elems spare → (elems.length + spare.length) * 24 ≤ reachBytes) : len ≤ 6000000000000 := by
  obtain ⟨fuel, hf⟩ := h
  rcases open_slice Tryd.underlying22 hf with ⟨hcs, _⟩ | ⟨ad, l, c, m, n, D, Pl, hcs, _, _, _, _, hx, _⟩
  · simp [Value.cells] at hcs
    omega
  · simp [Value.cells] at hcs
    obtain ⟨_, rfl, _⟩ := hcs
    simp only [Prod.mk.injEq] at hx
    have := hs _ _ hx.1
    rw [List.length_map, List.length_range] at this
    unfold reachBytes at this
    omega
theorem bytes37 : Tryd.prog.bytesOf 37 = 24 := by kernel_rfl
end
end Go.Proofs.YtacgnofmccennaaDoor
