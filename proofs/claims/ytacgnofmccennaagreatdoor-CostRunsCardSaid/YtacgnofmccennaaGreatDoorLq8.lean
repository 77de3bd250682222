/- What is proved here: blocks that are laid by a literal, and what lies below a change. -/
import Derived.Test.YtacgnofmccennaaGreatDoorGn
import Derived.Test.YtacgnofmccennaaGreatDoorGh
namespace Go.Proofs.YtacgnofmccennaaGreatDoor
open Go.ChangeShapes Go.WideShapes Go.RowKit Go.Maps
theorem mem_lit (w : World) (cs : Array Value) (M : List Int) (h : cs = (M.map (Value.int .i64)).toArray) (hl : M.length = 64) : MemAt (w.alloc (.cells cs 27)) w.heap.size M := by
  refine ⟨hl, ?_⟩
  subst h
  have h := World.rowIs_alloc w (M.map (Value.int .i64)).toArray 27 (fun i => .int .i64 (M.getD i 0)) (fun i hi => by
    simp only [List.size_toArray, List.length_map] at hi
    rw [List.getElem?_toArray, List.getElem?_map, List.getD_eq_getElem?_getD, List.getElem?_eq_getElem hi]; rfl)
  have e : (M.map (Value.int .i64)).toArray.size = 64 := by simpa using hl
  rw [e] at h
  exact h
theorem Chg.loF {F F' : Nat → Prop} {x lo : Nat} {w w' : World} (g : Chg F F' x w w') (hF : ∀ k, F k → lo ≤ k) (hl : lo ≤ w.heap.size) : ∀ k, F' k → lo ≤ k := fun k hk => (g.foot k hk).elim (hF k) (fun h => by omega)
theorem Chg.lowB {F F' : Nat → Prop} {x lo : Nat} {w w' : World} (g : Chg F F' x w w') (hF : ∀ k, F k → lo ≤ k) (hx : lo ≤ x) (hl : lo ≤ w.heap.size) : Below lo w w' :=
  ⟨g.os, g.tape, g.output, g.size, fun k hk => g.same k (by omega) (fun h => by have := hF k h; omega) (by omega)⟩
end Go.Proofs.YtacgnofmccennaaGreatDoor
