/- What is proved here: how a row of matches reads, place by place. Conditions: those each theorem states. -/
import Derived.Test.YtncnofcgpiaadaaDoorKnown
import Derived.Test.YtncnofcgpiaadaaDoorNest3
namespace Go.Proofs.YtncnofcgpiaadaaDoor
open Go.ChangeShapes Go.WideShapes Go.RowKit

theorem mrow_at {w : World} {a : Option Addr} {n : Nat} {L : List (Int × Int × Int)} (h : Row w a n (mL L)) (hn : n = L.length) {k : Nat} (hk : k < n) : ∃ b o, a = some ⟨b, o, none⟩ ∧ ∀ j, j < n → w.cell? ⟨b, o + j, none⟩ = some (.int .i64 (mt L L.length j)) := by
  obtain ⟨b, o, e, _, hcs⟩ := h.2 (by omega)
  refine ⟨b, o, e, fun j hj => ?_⟩
  rw [hcs j hj, mL_at (by omega)]
end Go.Proofs.YtncnofcgpiaadaaDoor
