/- What is proved here: two machines side by side; runs that end the same. Conditions: those each theorem states. -/
import Derived.Test.YthhcabddcgckcaaGreatDoorLp9
import Derived.Test.YthhcabddcgckcaaGreatDoorEq27
namespace Go.Proofs.YthhcabddcgckcaaGreatDoor
open Go.ChangeShapes Go.WideShapes Go.RowKit Go.Maps

/-- Without a StoreR what is retained stays. -/
theorem it_ret {L : List (Int × Int × Int)} {x : V × List Int} (h : Fine L x.1) (w : Takes L) (hn : ∀ j, j < L.length → (at_ L j).1 ≠ 14) : ∀ k, (it L k x).1.ret = x.1.ret
  | 0 => rfl
  | k + 1 => by
    have ih := it_ret h w hn k
    show (nxt L (it L k x)).1.ret = _
    unfold nxt
    split
    · rename_i hg
      rcases h.it w k with hA | hA
      · rw [stp_ret _ _ _ (hn _ hA.pl)]; exact ih
      · rw [hA.1] at hg; cases hg
    · exact ih
theorem it_end {L : List (Int × Int × Int)} {x : V × List Int} {j k : Nat} (h1 : (it L j x).1.goes = false) (h2 : (it L k x).1.goes = false) : it L j x = it L k x := by
  rcases Nat.le_total j k with h | h
  · obtain ⟨d, rfl⟩ : ∃ d, k = d + j := ⟨k - j, by omega⟩
    rw [it_add, it_idle h1]
  · obtain ⟨d, rfl⟩ : ∃ d, j = d + k := ⟨j - k, by omega⟩
    rw [it_add, it_idle h2]
theorem it_late {L : List (Int × Int × Int)} {x : V × List Int} {j k : Nat} (h : j ≤ k) (h1 : (it L j x).1.goes = false) : (it L k x).1.goes = false := by
  obtain ⟨d, rfl⟩ : ∃ d, k = d + j := ⟨k - j, by omega⟩
  rw [it_add, it_idle h1]; exact h1
/-- Two machines, each with its own blocks. -/
structure Duo (w wr : World) (F G : Nat → Prop) (b b' mx mz : Nat) (L L' : List (Int × Int × Int)) (x y : V × List Int) : Prop where
  p : Run w wr F b mx L x
  q : Run w wr G b' mz L' y
  d : ∀ k, F k → ¬ G k
  n1 : ¬ G mx
  n2 : ¬ F mz
  ne : mx ≠ mz
section
variable {w wr w' : World} {F F' G G' : Nat → Prop} {b b' mx mz : Nat} {L L' : List (Int × Int × Int)} {x x' y y' : V × List Int}
theorem Duo.symm (h : Duo w wr F G b b' mx mz L L' x y) : Duo w wr G F b' b mz mx L' L y x := ⟨h.q, h.p, fun k hk e => h.d k e hk, h.n2, h.n1, fun e => h.ne e.symm⟩
theorem Duo.below (h : Duo w wr F G b b' mx mz L L' x y) (g : Below wr.heap.size wr w') : Duo w w' F G b b' mx mz L L' x y := ⟨h.p.below g, h.q.below g, h.d, h.n1, h.n2, h.ne⟩
theorem Duo.step1 (h : Duo w wr F G b b' mx mz L L' x y) (g : Chg F F' mx wr w') (h' : Run w w' F' b mx L x') : Duo w w' F' G b b' mx mz L L' x' y where
  p := h'
  q := ⟨h.q.m.other g (fun i hi e => h.d i e hi) h.n1, h.q.mem.chg g h.n2 (fun e => h.ne e.symm), h.q.nf, h.q.low, h.q.hmb, h'.bel⟩
  d := fun k hk e => (g.foot k hk).elim (fun hf => h.d k hf e) (fun hs => by have := h.q.m.lt k e; omega)
  n1 := h.n1
  n2 := g.out h.q.mem.lt h.n2
  ne := h.ne
theorem Duo.step2 (h : Duo w wr F G b b' mx mz L L' x y) (g : Chg G G' mz wr w') (h' : Run w w' G' b' mz L' y') : Duo w w' F G' b b' mx mz L L' x y' := (h.symm.step1 g h').symm
/-- A start: what changes is the machine's own. -/
theorem Duo.start1 (h : Duo w wr F G b b' mx mz L L' x y) {v : V} (hm : Mac w' F b L v) (g : Chg F F b wr w') : Duo w w' F G b b' mx mz L L' (v, x.2) y where
  p := ⟨hm, h.p.mem.chg g h.p.nf (fun e => h.p.nf (e ▸ h.p.m.fb)), h.p.nf, h.p.low, h.p.hmb, h.p.bel.trans (g.lowB h.p.low (h.p.low b h.p.m.fb) h.p.bel.size)⟩
  q := ⟨h.q.m.other g (fun i hi e => h.d i e hi) (h.d b h.p.m.fb), h.q.mem.chg g h.n2 (fun e => h.n2 (e ▸ h.p.m.fb)), h.q.nf, h.q.low, h.q.hmb, h.p.bel.trans (g.lowB h.p.low (h.p.low b h.p.m.fb) h.p.bel.size)⟩
  d := h.d
  n1 := h.n1
  n2 := h.n2
  ne := h.ne
/-- A block beside two machines and their memories. -/
structure Aside (F G : Nat → Prop) (mx mz : Nat) (wr : World) (i : Nat) : Prop where
  lt : i < wr.heap.size
  nf : ¬ F i
  ng : ¬ G i
  ox : i ≠ mx
  oz : i ≠ mz
theorem Aside.symm {g : Nat} (h : Aside F G mx mz wr g) : Aside G F mz mx wr g := ⟨h.lt, h.ng, h.nf, h.oz, h.ox⟩
theorem Aside.below {g : Nat} (h : Aside F G mx mz wr g) (c : Below wr.heap.size wr w') : Aside F G mx mz w' g := ⟨Nat.lt_of_lt_of_le h.lt c.size, h.nf, h.ng, h.ox, h.oz⟩
theorem Aside.step1 {g : Nat} (h : Aside F G mx mz wr g) (c : Chg F F' mx wr w') : Aside F' G mx mz w' g := ⟨Nat.lt_of_lt_of_le h.lt c.size, c.out h.lt h.nf, h.ng, h.ox, h.oz⟩
theorem Aside.step2 {g : Nat} (h : Aside F G mx mz wr g) (c : Chg G G' mz wr w') : Aside F G' mx mz w' g := (h.symm.step1 c).symm
theorem Aside.heap1 {g : Nat} (h : Aside F G mx mz wr g) (c : Chg F F' mx wr w') : w'.heap[g]? = wr.heap[g]? := c.same g h.lt h.nf h.ox
theorem Aside.heap2 {g : Nat} (h : Aside F G mx mz wr g) (c : Chg G G' mz wr w') : w'.heap[g]? = wr.heap[g]? := c.same g h.lt h.ng h.oz
theorem range_block {b o : Nat} {l : List Value} (h : wr.rangeAt b o l) (e : w'.heap[b]? = wr.heap[b]?) : w'.rangeAt b o l := fun j v hj => by
  have := h j v hj
  unfold World.cell? at this ⊢
  rw [e]; exact this
end
/-- The inputs' box. -/
theorem box_range (w : World) (l : List Int) (hl : l.length = 16) : (w.alloc (.cells (iv l).toArray 23)).rangeAt w.heap.size 0 (iv l) := by
  have := World.rangeAt_of_block (new_block w (.cells (iv l).toArray 23)) 0 16
  have hs : (iv l).toArray.size = 16 := by unfold iv; simpa using hl
  rw [show (iv l).toArray.extract 0 (0 + 16) = (iv l).toArray by rw [Nat.zero_add, ← hs]; exact Array.extract_size] at this
  exact this
theorem load_16 {W : World} {b : Nat} {l : List Int} (h : W.rangeAt b 0 (iv l)) (hl : l.length = 16) : (LD23 (.pointer (some ⟨b, 0, none⟩))).run Tryz.prog W = .ok (.agg (iv l).toArray) W := by
  have hi23 : (Tryz.prog.info? 23).map (·.size) = some (iv l).length := by rw [show (iv l).length = l.length by unfold iv; simp, hl]; exact ln23
  exact run_loadAt_mid W b 0 23 (iv l) _ h Tryz.underlying23 rfl hi23
theorem zero_in : ((List.replicate 16 (0 : Int)).map (Value.int .i64)).toArray = #[.int .i64 0, .int .i64 0, .int .i64 0, .int .i64 0, .int .i64 0, .int .i64 0, .int .i64 0, .int .i64 0, .int .i64 0, .int .i64 0, .int .i64 0, .int .i64 0, .int .i64 0, .int .i64 0, .int .i64 0, .int .i64 0] := rfl
end Go.Proofs.YthhcabddcgckcaaGreatDoor
