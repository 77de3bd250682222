/- What is proved here: what must come of fixed calls (known). Condition: the table of names holds what its initialiser lays ('Nms'). -/
import Derived.Test.YtkkoekfdncoifaaDoorHld
namespace Go.Proofs.YtkkoekfdncoifaaDoor
open Go.ChangeShapes Go.WideShapes Go.RowKit

/-- The rows of the fixed calls. -/
def k1 : List (Int × Int × Int) := [(23, 1, 0), (21, 3, 0), (22, 0, 0), (24, 1, 0), (25, 0, 0)]
def k2 : List (Int × Int × Int) := [(17, 0, 0), (25, 0, 0)]
def k3 : List (Int × Int × Int) := [(19, 1, 0), (21, 1, 0), (22, 0, 0), (25, 0, 0)]
def k4 : List (Int × Int × Int) := [(25, 0, 0), (25, 0, 0)]
theorem k1m : mA k1 = [3, 2, 1, 0, -1] := by decide +kernel
theorem k1e : mE k1 = 0 := by decide +kernel
theorem k1h : hA k1 = [-1, 0, 1, 0, -1] := by decide +kernel
theorem k1le : lE k1 = 0 := by decide +kernel
theorem k1w : wE k1 = 0 := by decide +kernel
theorem k1p : mE (k1.take 2) = 7 := by decide +kernel
theorem k0e : mE [] = 1 := by decide +kernel
theorem k2e : lE k2 = 11 := by decide +kernel
theorem k3e : wE k3 = 8 := by decide +kernel
theorem k4e : wE k4 = 7 := by decide +kernel
theorem lit_row (W : World) (cs : Array Value) (L : List (Int × Int × Int)) (n : Nat) (hn : n = L.length) (h : cs.toList = cellsI L) (hl : L.length ≤ 1000) : RowI (W.alloc (.cells cs 37)) (some ⟨W.heap.size, 0, none⟩) n L := by
  subst hn
  have hs : cs.size = L.length * 3 := by have := congrArg List.length h; rw [cellsI_length] at this; simpa using this
  have := World.ownsRow_lit (base := 0) (e := 37) (size := 3) W cs L.length (by omega) (by unfold maxLen; omega) hs
  rw [h] at this
  obtain ⟨a, c, hv, hr⟩ := RowI.own this
  cases hv
  exact hr
theorem lit_ints (W : World) (cs : Array Value) (l : List Int) (n : Nat) (hn : n = l.length) (h : cs.toList = l.map (Value.int .i64)) (hl : l.length ≤ 1000) : Row (W.alloc (.cells cs 3)) (some ⟨W.heap.size, 0, none⟩) n l := by
  subst hn
  have hs : cs.size = l.length * 1 := by have := congrArg List.length h; simpa using this
  have := World.ownsRow_lit (base := 0) (e := 3) (size := 1) W cs l.length (by omega) (by unfold maxLen; omega) hs
  rw [h] at this
  obtain ⟨a, n, c, hv, hr⟩ := Row.own this
  cases hv
  exact hr
theorem RowI.take {w : World} {a : Option Addr} {n : Nat} {L : List (Int × Int × Int)} (h : RowI w a n L) {m : Nat} (hm : m ≤ n) : RowI w a m (L.take m) := by
  have hl := h.1
  refine ⟨by rw [List.length_take]; omega, fun h0 => ?_⟩
  obtain ⟨b, off, rfl, hlt, hc⟩ := h.2 (by omega)
  refine ⟨b, off, rfl, hlt, fun i hi => ?_⟩
  have e : (L.take m).getD i (0, 0, 0) = L.getD i (0, 0, 0) := by
    rw [List.getD_eq_getElem?_getD, List.getD_eq_getElem?_getD, List.getElem?_take_of_lt hi]
  rw [e]; exact hc i (by omega)
theorem match_at {a : Option Addr} {n c : Nat} {L : List (Int × Int × Int)} {l : List Int} {x : Int} (h1 : mA L = l) (h2 : mE L = x) (w : World) (hr : RowI w a n L) (hN : Nms w) : Calls Tryd.prog 14 #[.slice a n c] w (GotL l x w) := by
  rw [← h1, ← h2]; exact match_any a n c L w hr hN
theorem whole_at {a : Option Addr} {n c : Nat} {L : List (Int × Int × Int)} {x : Int} (h2 : wE L = x) (w : World) (hr : RowI w a n L) (hN : Nms w) : Calls Tryd.prog 31 #[.slice a n c] w fun e w' => e = .returned (.int .i64 x) ∧ Below w.heap.size w w' := by
  rw [← h2]; exact whole_any a n c L w hr hN
end Go.Proofs.YtkkoekfdncoifaaDoor
