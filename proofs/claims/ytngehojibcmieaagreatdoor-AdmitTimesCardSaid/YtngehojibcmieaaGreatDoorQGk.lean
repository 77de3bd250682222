/- What is proved here: what must come of fixed calls (known). Condition: the table of names holds what its initialiser lays ('Nms'). how a row of matches reads, place by place. Conditions: those each theorem states. appends of rows that came in, of instructions and of numbers (none, too), behind a guard or not. -/
import Derived.Test.YtngehojibcmieaaGreatDoorQGc
import Derived.Lib.SlFresh
section
section
namespace Go.Proofs.YtngehojibcmieaaGreatDoor
open Go.ChangeShapes Go.WideShapes Go.RowKit
def k1 : List (Int × Int × Int) := [(23, 1, 0), (21, 3, 0), (22, 0, 0), (24, 1, 0), (25, 0, 0)]
def k2 : List (Int × Int × Int) := [(17, 0, 0), (25, 0, 0)]
def k3 : List (Int × Int × Int) := [(19, 1, 0), (21, 1, 0), (22, 0, 0), (25, 0, 0)]
def k4 : List (Int × Int × Int) := [(25, 0, 0), (25, 0, 0)]
theorem lit_ints (W : World) (cs : Array Value) (l : List Int) (n : Nat) (hn : n = l.length) (h : cs.toList = l.map (Value.int .i64)) (hl : l.length ≤ 1000) : Row (W.alloc (.cells cs 3)) (some ⟨W.heap.size, 0, none⟩) n l := by
 subst hn
 have hs : cs.size = l.length * 1 := by have := congrArg List.length h; simpa using this
 have := World.ownsRow_lit (base := 0) (e := 3) (size := 1) W cs l.length (by omega) (by unfold maxLen; omega) hs
 rw [h] at this
 obtain ⟨a, n, c, hv, hr⟩ := Row.own this
 cases hv
 exact hr
theorem match_at {a : Option Addr} {n c : Nat} {L : List (Int × Int × Int)} {l : List Int} {x : Int} (h1 : mA L = l) (h2 : mE L = x) (w : World) (hr : RowI w a n L) (hN : Nms w) : Calls Tryz.prog 186 #[.slice a n c] w (GotL l x w) := by
 rw [← h1, ← h2]; exact match_any a n c L w hr hN
theorem add_plain' (b off j : Nat) : (⟨b, off, none⟩ : Addr).add j = ⟨b, off + j, none⟩ := by
 unfold Addr.add
 split
 ·simp
 ·rfl
theorem run_append_none {P : Program} (w : World) (t ty e : TypeId) (i : TypeInfo) (ht : P.underlying t = some (.slice e)) (hi : P.info? e = some i) (g n cap c : Nat) (hnc : n ≤ cap) :
  (Builtin.append_ #[t, t] ty #[.slice (some ⟨g, 0, none⟩) n cap, .slice none 0 c]).run P w = .ok (.slice (some ⟨g, 0, none⟩) n cap) w := by
 simp [Builtin.append_, run_underlying ht, sizeOf, typeInfo, hi, Builtin.lenOf, hnc, run_firstCells_none, storeCells]
end Go.Proofs.YtngehojibcmieaaGreatDoor
end
end
