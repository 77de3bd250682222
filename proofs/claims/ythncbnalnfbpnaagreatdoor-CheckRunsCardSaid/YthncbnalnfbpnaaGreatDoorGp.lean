/- What is proved here: '==' and '!=' of two arrays of eight numbers. Conditions: none. blocks that are laid by a literal, and what lies below a change. what the laws on runs share: the parameters in boxes, a machine in a loop with its blocks, rows that stay as they are. Conditions: those each theorem states. -/
import Derived.Test.YthncbnalnfbpnaaGreatDoorChecked
import Derived.WalkKit
import Derived.Test.YthncbnalnfbpnaaGreatDoorGn
import Derived.Test.YthncbnalnfbpnaaGreatDoorGh
import Derived.Deep.MidRow
section
namespace Go.Proofs.YthncbnalnfbpnaaGreatDoor
open Go.RowKit

/-- Are eight numbers the same? -/
def eq8 (x0 x1 x2 x3 x4 x5 x6 x7 y0 y1 y2 y3 y4 y5 y6 y7 : Int) : Bool := (x0 == y0 && (x1 == y1 && (x2 == y2 && (x3 == y3 && (x4 == y4 && (x5 == y5 && (x6 == y6 && (x7 == y7))))))))
theorem eq8_in (x0 x1 x2 x3 x4 x5 x6 x7 y0 y1 y2 y3 y4 y5 y6 y7 : Int) (w : World) : (Op.equalIn 10000 55 (.agg #[.int .i64 x0, .int .i64 x1, .int .i64 x2, .int .i64 x3, .int .i64 x4, .int .i64 x5, .int .i64 x6, .int .i64 x7]) (.agg #[.int .i64 y0, .int .i64 y1, .int .i64 y2, .int .i64 y3, .int .i64 y4, .int .i64 y5, .int .i64 y6, .int .i64 y7])).run Tryz.prog w = .ok (eq8 x0 x1 x2 x3 x4 x5 x6 x7 y0 y1 y2 y3 y4 y5 y6 y7) w := by
  have u3 := Tryz.underlying3
  have a3 := Tryz.isAgg3
  have z3 := Tryz.sizeOf3
  unfold eq8
  rw [show (10000 : Nat) = 9999 + 1 from rfl, Op.equalIn]
  simp only [Sem.run_bind, run_underlying Tryz.underlying55, Result.andThen_ok]
  simp only [Std.Legacy.Range.forIn_eq_forIn_range', Std.Legacy.Range.size, Nat.sub_zero, Nat.add_sub_cancel, Nat.div_one, List.range'_succ, List.range'_zero, List.forIn_cons, List.forIn_nil]
  go_simp
  by_cases h0 : x0 = y0
  · rw [if_pos h0]
    by_cases h1 : x1 = y1
    · rw [if_pos h1]
      by_cases h2 : x2 = y2
      · rw [if_pos h2]
        by_cases h3 : x3 = y3
        · rw [if_pos h3]
          by_cases h4 : x4 = y4
          · rw [if_pos h4]
            by_cases h5 : x5 = y5
            · rw [if_pos h5]
              by_cases h6 : x6 = y6
              · rw [if_pos h6]
                by_cases h7 : x7 = y7
                · rw [if_pos h7]
                  simp [h0, h1, h2, h3, h4, h5, h6, h7]
                · rw [if_neg h7]; simp [h0, h1, h2, h3, h4, h5, h6, h7]
              · rw [if_neg h6]; simp [h0, h1, h2, h3, h4, h5, h6]
            · rw [if_neg h5]; simp [h0, h1, h2, h3, h4, h5]
          · rw [if_neg h4]; simp [h0, h1, h2, h3, h4]
        · rw [if_neg h3]; simp [h0, h1, h2, h3]
      · rw [if_neg h2]; simp [h0, h1, h2]
    · rw [if_neg h1]; simp [h0, h1]
  · rw [if_neg h0]; simp [h0]
/-- The same, as the walk meets it. -/
theorem run_eql8 (x0 x1 x2 x3 x4 x5 x6 x7 y0 y1 y2 y3 y4 y5 y6 y7 : Int) (w : World) : (binOp .eql 55 (.agg #[.int .i64 x0, .int .i64 x1, .int .i64 x2, .int .i64 x3, .int .i64 x4, .int .i64 x5, .int .i64 x6, .int .i64 x7]) (.agg #[.int .i64 y0, .int .i64 y1, .int .i64 y2, .int .i64 y3, .int .i64 y4, .int .i64 y5, .int .i64 y6, .int .i64 y7])).run Tryz.prog w = .ok (.bool (eq8 x0 x1 x2 x3 x4 x5 x6 x7 y0 y1 y2 y3 y4 y5 y6 y7)) w := by
  simp only [binOp]
  simp [Op.equal, Op.maxDepth, eq8_in]
theorem run_neq8 (x0 x1 x2 x3 x4 x5 x6 x7 y0 y1 y2 y3 y4 y5 y6 y7 : Int) (w : World) : (binOp .neq 55 (.agg #[.int .i64 x0, .int .i64 x1, .int .i64 x2, .int .i64 x3, .int .i64 x4, .int .i64 x5, .int .i64 x6, .int .i64 x7]) (.agg #[.int .i64 y0, .int .i64 y1, .int .i64 y2, .int .i64 y3, .int .i64 y4, .int .i64 y5, .int .i64 y6, .int .i64 y7])).run Tryz.prog w = .ok (.bool (!eq8 x0 x1 x2 x3 x4 x5 x6 x7 y0 y1 y2 y3 y4 y5 y6 y7)) w := by
  simp only [binOp]
  simp [Op.equal, Op.maxDepth, eq8_in]
theorem eq8_same (x0 x1 x2 x3 x4 x5 x6 x7 : Int) : eq8 x0 x1 x2 x3 x4 x5 x6 x7 x0 x1 x2 x3 x4 x5 x6 x7 = true := by simp [eq8]
end Go.Proofs.YthncbnalnfbpnaaGreatDoor
end

section
namespace Go.Proofs.YthncbnalnfbpnaaGreatDoor
open Go.ChangeShapes Go.WideShapes Go.RowKit Go.Maps
theorem mem_lit (w : World) (cs : Array Value) (M : List Int) (h : cs = (M.map (Value.int .i64)).toArray) (hl : M.length = 64) : MemAt (w.alloc (.cells cs 58)) w.heap.size M := by
  refine ⟨hl, ?_⟩
  subst h
  have h := World.rowIs_alloc w (M.map (Value.int .i64)).toArray 58 (fun i => .int .i64 (M.getD i 0)) (fun i hi => by
    simp only [List.size_toArray, List.length_map] at hi
    rw [List.getElem?_toArray, List.getElem?_map, List.getD_eq_getElem?_getD, List.getElem?_eq_getElem hi]; rfl)
  have e : (M.map (Value.int .i64)).toArray.size = 64 := by simpa using hl
  rw [e] at h
  exact h
theorem Chg.loF {F F' : Nat → Prop} {x lo : Nat} {w w' : World} (g : Chg F F' x w w') (hF : ∀ k, F k → lo ≤ k) (hl : lo ≤ w.heap.size) : ∀ k, F' k → lo ≤ k := fun k hk => (g.foot k hk).elim (hF k) (fun h => by omega)
theorem Chg.lowB {F F' : Nat → Prop} {x lo : Nat} {w w' : World} (g : Chg F F' x w w') (hF : ∀ k, F k → lo ≤ k) (hx : lo ≤ x) (hl : lo ≤ w.heap.size) : Below lo w w' :=
  ⟨g.os, g.tape, g.output, g.size, fun k hk => g.same k (by omega) (fun h => by have := hF k h; omega) (by omega)⟩
end Go.Proofs.YthncbnalnfbpnaaGreatDoor
end

section
namespace Go.Proofs.YthncbnalnfbpnaaGreatDoor
open Go.ChangeShapes Go.WideShapes Go.RowKit Go.Maps

/-- A load of 16 numbers, folded, so that the walk does not open it. -/
def LD23 (v : Value) : Sem Value := Instr.loadAt 46 v
theorem fold23 (v : Value) : Instr.loadAt 46 v = LD23 v := rfl
theorem eqlp_nil (w : World) (b : Nat) : (binOp .eql 47 (.pointer (some ⟨b, 0, none⟩)) (.pointer none)).run Tryz.prog w = .ok (.bool false) w := by
  have h : ∀ d : Nat, (Op.equalIn (d + 1) 47 (.pointer (some ⟨b, 0, none⟩)) (.pointer none)).run Tryz.prog w = .ok false w := fun d => by
    simp [Op.equalIn, run_underlying Tryz.underlying47]
  simp only [binOp]
  simp [Op.equal, Op.maxDepth, h 9999]
theorem eqlp_nn (w : World) : (binOp .eql 47 (.pointer none) (.pointer none)).run Tryz.prog w = .ok (.bool true) w := by
  have h : ∀ d : Nat, (Op.equalIn (d + 1) 47 (.pointer none) (.pointer none)).run Tryz.prog w = .ok true w := fun d => by
    simp [Op.equalIn, run_underlying Tryz.underlying47]
  simp only [binOp]
  simp [Op.equal, Op.maxDepth, h 9999]
/-- Inputs in a box. -/
theorem box_in (w : World) (l : List Int) (hl : l.length = 16) :
    ∀ W, Below (w.alloc (.cells (l.map (Value.int .i64)).toArray 46)).heap.size (w.alloc (.cells (l.map (Value.int .i64)).toArray 46)) W → (LD23 (.pointer (some ⟨w.heap.size, 0, none⟩))).run Tryz.prog W = .ok (.agg (l.map (Value.int .i64)).toArray) W := by
  intro W hb
  have hi23 : (Tryz.prog.info? 46).map (·.size) = some (l.map (Value.int .i64)).length := by rw [List.length_map, hl]; exact ln23
  have hrg : (w.alloc (.cells (l.map (Value.int .i64)).toArray 46)).rangeAt w.heap.size 0 (l.map (Value.int .i64)) := by
    have := World.rangeAt_of_block (new_block w (.cells (l.map (Value.int .i64)).toArray 46)) 0 16
    have hs : (l.map (Value.int .i64)).toArray.size = 16 := by simpa using hl
    rw [show (l.map (Value.int .i64)).toArray.extract 0 (0 + 16) = (l.map (Value.int .i64)).toArray by rw [Nat.zero_add, ← hs]; exact Array.extract_size] at this
    exact this
  exact run_loadAt_mid W w.heap.size 0 46 (l.map (Value.int .i64)) _ (fun j u hj => keep_cell hb (hrg j u hj)) Tryz.underlying46 rfl hi23
/-- The two parameters in boxes. -/
structure Box (w : World) (LA MA : List Value) (l1 l2 : List Int) (W2 : World) : Prop where
  bel : Below w.heap.size w W2
  size : W2.heap.size = w.heap.size + 2
  mem : MemAt W2 (w.heap.size + 1) l2
  ld : ∀ W, Below W2.heap.size W2 W → (LD23 (.pointer (some ⟨w.heap.size, 0, none⟩))).run Tryz.prog W = .ok (.agg LA.toArray) W
  st : ∀ W F b L v, Mac W F b L v → v.goes = false → Calls Tryz.prog 18 #[.pointer (some ⟨b, 0, none⟩), .agg LA.toArray] W fun e w' => e = .returned (.int .i64 0) ∧ Mac w' F b L (begun v.ret l1) ∧ Chg F F b W w'
theorem box_any (w : World) (l1 l2 : List Int) (h1 : l1.length = 16) (h2 : l2.length = 64) :
    Box w (l1.map (Value.int .i64)) (l2.map (Value.int .i64)) l1 l2 ((w.alloc (.cells (l1.map (Value.int .i64)).toArray 46)).alloc (.cells (l2.map (Value.int .i64)).toArray 58)) where
  bel := keep_below (below_alloc _ _) (below_alloc _ _)
  size := by simp
  mem := by
    have := mem_lit (w.alloc (.cells (l1.map (Value.int .i64)).toArray 46)) (l2.map (Value.int .i64)).toArray l2 rfl h2
    rw [show (w.alloc (.cells (l1.map (Value.int .i64)).toArray 46)).heap.size = w.heap.size + 1 by simp] at this
    exact this
  ld := fun W hb => box_in w l1 h1 W (keep_below (below_alloc _ _) hb)
  st := fun W F b L v h hg => start_run W F b L v l1 h h1 hg
/-- A machine in a law's loop, with the blocks at mb; w: the law's own beginning. -/
structure Run (w wr : World) (F : Nat → Prop) (b mb : Nat) (L : List (Int × Int × Int)) (x : V × List Int) : Prop where
  m : Mac wr F b L x.1
  mem : MemAt wr mb x.2
  nf : ¬ F mb
  low : ∀ j, F j → w.heap.size ≤ j
  hmb : w.heap.size ≤ mb
  bel : Below w.heap.size w wr
section
variable {w wr w' : World} {F F' : Nat → Prop} {b mb : Nat} {L : List (Int × Int × Int)} {x y : V × List Int}
theorem Run.below (h : Run w wr F b mb L x) (g : Below wr.heap.size wr w') : Run w w' F b mb L x := ⟨h.m.below g, h.mem.below g, h.nf, h.low, h.hmb, keep_below h.bel g⟩
theorem Run.alloc (h : Run w wr F b mb L x) (o : Obj) : Run w (wr.alloc o) F b mb L x := h.below (below_alloc _ _)
theorem Run.drew (h : Run w wr F b mb L x) : Run w wr.drew F b mb L x := h.below (Below.refl _ _).drew
/-- A step. -/
theorem Run.step (h : Run w wr F b mb L x) (hok : Fine L x.1) (t : Takes L) :
    Calls Tryz.prog 22 #[.pointer (some ⟨b, 0, none⟩), .pointer (some ⟨mb, 0, none⟩)] wr fun e w' => e = .returned (toldV (told L x.1)) ∧ ∃ F', Run w w' F' b mb L (nxt L x) ∧ Chg F F' mb wr w' := by
  refine (stepn_any wr F b mb L x h.m h.mem h.nf hok t).mono ?_
  rintro e w' ⟨rfl, F', h1, h2, h3, g⟩
  exact ⟨rfl, F', ⟨h1, h2, h3, g.loF h.low h.bel.size, h.hmb, h.bel.trans (g.lowB h.low h.hmb h.bel.size)⟩, g⟩
/-- The beginning. -/
theorem Run.init {W2 w3 : World} {ret inp M : List Int} (bel : Below w.heap.size w W2) (hmb1 : w.heap.size ≤ mb) (hmb2 : mb < W2.heap.size) (mem : MemAt W2 mb M) (hlo : ∀ k, F k → W2.heap.size ≤ k)
    (b3 : Below W2.heap.size W2 w3) (hM : Mac wr F b L (begun ret inp)) (g : Chg F F b w3 wr) : Run w wr F b mb L (begun ret inp, M) := by
  have h1 : ¬ F mb := fun e => by have := hlo mb e; omega
  have hl : ∀ k, F k → w.heap.size ≤ k := fun k hk => Nat.le_trans bel.size (hlo k hk)
  have t := keep_below bel b3
  exact ⟨hM, (mem.below b3).chg g h1 (fun e => h1 (e ▸ hM.fb)), h1, hl, hmb1, t.trans (g.lowB hl (hl b hM.fb) t.size)⟩
/-- A block that is not the machine's. -/
structure Kept (F : Nat → Prop) (mb : Nat) (wr : World) (g : Nat) : Prop where
  lt : g < wr.heap.size
  nf : ¬ F g
  ne : g ≠ mb
theorem Kept.chg {g : Nat} (k : Kept F mb wr g) (c : Chg F F' mb wr w') : Kept F' mb w' g := ⟨Nat.lt_of_lt_of_le k.lt c.size, c.out k.lt k.nf, k.ne⟩
theorem Kept.below {g : Nat} (k : Kept F mb wr g) (c : Below wr.heap.size wr w') : Kept F mb w' g := ⟨Nat.lt_of_lt_of_le k.lt c.size, k.nf, k.ne⟩
theorem Kept.cell {g i : Nat} {v : Value} (k : Kept F mb wr g) (c : Chg F F' mb wr w') (h : wr.cell? ⟨g, i, none⟩ = some v) : w'.cell? ⟨g, i, none⟩ = some v := c.cell h k.nf k.ne
end
/-- New takes a row, or not. -/
theorem GotM.err {L : List (Int × Int × Int)} {w : World} {e : Ending} {w' : World} (h : GotM L w e w') (t : ¬ Takes L) :
    ∃ x : Int, x ≠ 0 ∧ e = .returned (.tuple #[.pointer none, .int .i64 x]) ∧ Below w.heap.size w w' := by
  obtain ⟨hb, h⟩ := h
  rcases h with h | h | h
  · exact ⟨_, h.1, h.2, hb⟩
  · exact ⟨_, h.2.1, h.2.2, hb⟩
  · exact absurd ⟨h.1, h.2.1⟩ t
theorem Takes.mE {L : List (Int × Int × Int)} (t : Takes L) : mE L = 0 := (wE_zero t.whole).1
theorem below_drewN' {B : Nat} {a w : World} (h : Below B a w) (n : Nat) : Below B a (w.drewN n) := ⟨h.os, h.tape, h.output, h.size, h.block⟩
end Go.Proofs.YthncbnalnfbpnaaGreatDoor
end
