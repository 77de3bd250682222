/- What is proved here: facts for the walk of types.Stacks: how its rows are made and kept. Conditions: those each theorem states. -/
import Derived.Test.YtkkoekfdncoifaaDoorSb
import Derived.Test.YtkkoekfdncoifaaDoorTy2
import Derived.Deep.CutRange
namespace Go.Proofs.YtkkoekfdncoifaaDoor
open Go.ChangeShapes Go.WideShapes Go.RowKit Go.Maps

/-- What a call that tells a row of texts and an error leaves. -/
def GotT (P : List (List UInt8)) (x : Int) (w : World) (e : Ending) (w' : World) : Prop :=
  ∃ a n c, e = .returned (.tuple #[.slice a n (n + c), .int .i64 x]) ∧ RowS w' a n P ∧ Below w.heap.size w w'
theorem info_parts' {P : Program} {t : TypeId} {z : Value} {s b : Nat} (h : (P.info? t).map (fun i => (i.zero, i.size, i.bytes)) = some (some z, s, b)) : ∃ i, P.info? t = some i ∧ i.zero = some z ∧ i.size = s ∧ i.bytes = b := by
  obtain ⟨i, hi, he⟩ := Option.map_eq_some_iff.1 h
  simp only [Prod.mk.injEq] at he
  exact ⟨i, hi, he.1, he.2.1, he.2.2⟩
/-- Nothing is handed to any place. -/
def none3 : Nat → List UInt8 × Bool × Bool := fun _ => ([], false, false)
theorem run_make_spots (n : Nat) (hn : n ≤ 1000) (w : World) :
    (Instr.makeSlice 44 (.int .i64 (n : Int)) (.int .i64 (n : Int))).run Tryd.prog w = .ok (.slice (some ⟨w.heap.size, 0, none⟩) n n) (w.alloc (.cells (madeCells #[.string ⟨#[]⟩, .bool false, .bool false] (n * 3)) 46)) := by
  obtain ⟨i, hi, h1, h2, h3⟩ := info_parts' spot_info
  have hb : (i.bytes : Int) * (n : Int) ≤ 281474976710656 := by rw [h3]; omega
  have hr := run_make (P := Tryd.prog) w 44 46 i _ Tryd.underlying44 hi h1 .i64 .i64 n n (by omega) (Int.le_refl _) hb (by omega)
  simp only [Int.toNat_natCast, h2] at hr
  exact hr
theorem spots_made (w : World) (n : Nat) : (w.alloc (.cells (madeCells #[.string ⟨#[]⟩, .bool false, .bool false] (n * 3)) 46)).rowIs w.heap.size 46 (n * 3) (spV none3) := by
  refine ⟨_, Go.Deep.blk_alloc_new _ _, size_madeCells _ _, fun i hi => ?_⟩
  unfold madeCells spV none3
  have h3 := Nat.mod_lt i (show 3 > 0 by decide)
  rcases (show i % 3 = 0 ∨ i % 3 = 1 ∨ i % 3 = 2 by omega) with h | h | h <;> simp [hi, h, bs]
theorem texts_made (w : World) (n : Nat) : (w.alloc (.cells (madeCells #[.string ⟨#[]⟩] n) 9)).rowIs w.heap.size 9 n (fun _ => .string (bs [])) := World.rowIs_made w _ n 9
theorem keep_row {W w9 : World} {b n t : Nat} {f : Nat → Value} (hb : Below W.heap.size W w9) (h : W.rowIs b t n f) : w9.rowIs b t n f := h.of_block (hb.block b h.lt)
theorem mid_below {lo : Nat} {w w' : World} (h : Below w.heap.size w w') : Mid lo w w' := ⟨h.size, fun i _ hi => h.block i hi⟩
theorem mid_grown {lo : Nat} {W0 w w' : World} {A : Nat} (h : Mid lo W0 w) (g : w.grownBy w' (some A)) (hA : A < lo ∨ W0.heap.size ≤ A) : Mid lo W0 w' :=
  ⟨Nat.le_trans h.1 g.size, fun i h1 h2 => (g.block i (Nat.lt_of_lt_of_le h2 h.1) (by intro e; cases e; omega)).trans (h.2 i h1 h2)⟩
theorem mid_trans {lo : Nat} {W0 w w' : World} (h : Mid lo W0 w) (g : Below w.heap.size w w') : Mid lo W0 w' :=
  ⟨Nat.le_trans h.1 g.size, fun i h1 h2 => (g.block i (Nat.lt_of_lt_of_le h2 h.1)).trans (h.2 i h1 h2)⟩
theorem mid_refl (lo : Nat) (w : World) : Mid lo w w := ⟨Nat.le_refl _, fun _ _ _ => rfl⟩
/-- The three that are made, in whatever order. -/
def Made3 (w1 : World) (n : Nat) (m s t : Value) (wx : World) : Prop :=
  ∃ b A B, m = .map (some b) ∧ s = .slice (some ⟨A, 0, none⟩) n n ∧ t = .slice (some ⟨B, 0, none⟩) n n ∧ A ≠ B ∧ w1.heap.size ≤ A ∧ w1.heap.size ≤ B ∧ wx.rowIs A 46 (n * 3) (spV none3) ∧ wx.rowIs B 9 n (fun _ => .string (bs [])) ∧
    Below w1.heap.size w1 wx ∧ ∃ lo W0, Fxs lo W0 b 25 ∧ Mid lo W0 wx ∧ (A < lo ∨ W0.heap.size ≤ A) ∧ (B < lo ∨ W0.heap.size ≤ B)
/-- A new row of spots, and one of texts. -/
abbrev X1 (n : Nat) : Obj := .cells (madeCells #[.string ⟨#[]⟩, .bool false, .bool false] (n * 3)) 46
abbrev X2 (n : Nat) : Obj := .cells (madeCells #[.string ⟨#[]⟩] n) 9
theorem asz (w : World) (o : Obj) : (w.alloc o).heap.size = w.heap.size + 1 := by simp
theorem made_a {w1 w2 : World} {n b : Nat} (hF : Fxs w1.drew.heap.size w2 b 25) (hb : Below w1.drew.heap.size w1.drew w2) : Made3 w1 n (.map (some b)) (.slice (some ⟨w2.heap.size, 0, none⟩) n n) (.slice (some ⟨w2.heap.size + 1, 0, none⟩) n n) ((w2.alloc (X1 n)).alloc (X2 n)) := by
  have hb' : Below w1.heap.size w1 w2 := (Below.refl _ _).drew.trans hb
  have hs := hb'.size
  have k2 := texts_made (w2.alloc (X1 n)) n
  rw [asz] at k2
  exact ⟨b, _, _, rfl, rfl, rfl, by omega, hs, by omega, (spots_made w2 n).alloc _, k2, keep_below (keep_below hb' (below_alloc _ _)) (below_alloc _ _), _, w2, hF, mid_trans (mid_below (below_alloc _ _)) (below_alloc _ _), Or.inr (Nat.le_refl _), Or.inr (by omega)⟩
theorem made_b {w1 w2 : World} {n b : Nat} (hF : Fxs w1.drew.heap.size w2 b 25) (hb : Below w1.drew.heap.size w1.drew w2) : Made3 w1 n (.map (some b)) (.slice (some ⟨w2.heap.size + 1, 0, none⟩) n n) (.slice (some ⟨w2.heap.size, 0, none⟩) n n) ((w2.alloc (X2 n)).alloc (X1 n)) := by
  have hb' : Below w1.heap.size w1 w2 := (Below.refl _ _).drew.trans hb
  have hs := hb'.size
  have k2 := spots_made (w2.alloc (X2 n)) n
  rw [asz] at k2
  exact ⟨b, _, _, rfl, rfl, rfl, by omega, by omega, hs, k2, (texts_made w2 n).alloc _, keep_below (keep_below hb' (below_alloc _ _)) (below_alloc _ _), _, w2, hF, mid_trans (mid_below (below_alloc _ _)) (below_alloc _ _), Or.inr (by omega), Or.inr (Nat.le_refl _)⟩
theorem made_c {w1 w2 : World} {n b : Nat} (hF : Fxs (w1.alloc (X1 n)).drew.heap.size w2 b 25) (hb : Below (w1.alloc (X1 n)).drew.heap.size (w1.alloc (X1 n)).drew w2) : Made3 w1 n (.map (some b)) (.slice (some ⟨w1.heap.size, 0, none⟩) n n) (.slice (some ⟨w2.heap.size, 0, none⟩) n n) (w2.alloc (X2 n)) := by
  have hb' : Below w1.heap.size w1 w2 := keep_below (below_alloc w1 (X1 n)).drew hb
  have hs := hb.size
  have e := asz w1 (X1 n)
  have hs2 : w1.heap.size + 1 ≤ w2.heap.size := by rw [← e]; exact hs
  have k1 : w2.rowIs w1.heap.size 46 (n * 3) (spV none3) := keep_row hb (spots_made w1 n).drew
  exact ⟨b, _, _, rfl, rfl, rfl, by omega, Nat.le_refl _, by omega, k1.alloc _, texts_made w2 n, keep_below hb' (below_alloc _ _), _, w2, hF, mid_below (below_alloc _ _), Or.inl (by show w1.heap.size < (w1.alloc (X1 n)).heap.size; omega), Or.inr (Nat.le_refl _)⟩
theorem made_d {w1 w2 : World} {n b : Nat} (hF : Fxs ((w1.alloc (X1 n)).alloc (X2 n)).drew.heap.size w2 b 25) (hb : Below ((w1.alloc (X1 n)).alloc (X2 n)).drew.heap.size ((w1.alloc (X1 n)).alloc (X2 n)).drew w2) : Made3 w1 n (.map (some b)) (.slice (some ⟨w1.heap.size, 0, none⟩) n n) (.slice (some ⟨w1.heap.size + 1, 0, none⟩) n n) w2 := by
  have hb' : Below w1.heap.size w1 w2 := keep_below (keep_below (below_alloc w1 (X1 n)) (below_alloc _ (X2 n))).drew hb
  have e := asz w1 (X1 n)
  have e2 := asz (w1.alloc (X1 n)) (X2 n)
  have k2 := texts_made (w1.alloc (X1 n)) n
  rw [asz] at k2
  exact ⟨b, _, _, rfl, rfl, rfl, by omega, Nat.le_refl _, by omega, keep_row hb ((spots_made w1 n).alloc (X2 n)).drew, keep_row hb k2.drew, hb', _, w2, hF, mid_refl _ _, Or.inl (by show w1.heap.size < ((w1.alloc (X1 n)).alloc (X2 n)).heap.size; omega), Or.inl (by show w1.heap.size + 1 < ((w1.alloc (X1 n)).alloc (X2 n)).heap.size; omega)⟩
theorem made_e {w1 w2 : World} {n b : Nat} (hF : Fxs (w1.alloc (X2 n)).drew.heap.size w2 b 25) (hb : Below (w1.alloc (X2 n)).drew.heap.size (w1.alloc (X2 n)).drew w2) : Made3 w1 n (.map (some b)) (.slice (some ⟨w2.heap.size, 0, none⟩) n n) (.slice (some ⟨w1.heap.size, 0, none⟩) n n) (w2.alloc (X1 n)) := by
  have hb' : Below w1.heap.size w1 w2 := keep_below (below_alloc w1 (X2 n)).drew hb
  have hs := hb.size
  have e := asz w1 (X2 n)
  have hs2 : w1.heap.size + 1 ≤ w2.heap.size := by rw [← e]; exact hs
  have k1 : w2.rowIs w1.heap.size 9 n (fun _ => .string (bs [])) := keep_row hb (texts_made w1 n).drew
  exact ⟨b, _, _, rfl, rfl, rfl, by omega, by omega, Nat.le_refl _, spots_made w2 n, k1.alloc _, keep_below hb' (below_alloc _ _), _, w2, hF, mid_below (below_alloc _ _), Or.inr (Nat.le_refl _), Or.inl (by show w1.heap.size < (w1.alloc (X2 n)).heap.size; omega)⟩
theorem made_f {w1 w2 : World} {n b : Nat} (hF : Fxs ((w1.alloc (X2 n)).alloc (X1 n)).drew.heap.size w2 b 25) (hb : Below ((w1.alloc (X2 n)).alloc (X1 n)).drew.heap.size ((w1.alloc (X2 n)).alloc (X1 n)).drew w2) : Made3 w1 n (.map (some b)) (.slice (some ⟨w1.heap.size + 1, 0, none⟩) n n) (.slice (some ⟨w1.heap.size, 0, none⟩) n n) w2 := by
  have hb' : Below w1.heap.size w1 w2 := keep_below (keep_below (below_alloc w1 (X2 n)) (below_alloc _ (X1 n))).drew hb
  have e := asz w1 (X2 n)
  have e2 := asz (w1.alloc (X2 n)) (X1 n)
  have k2 := spots_made (w1.alloc (X2 n)) n
  rw [asz] at k2
  exact ⟨b, _, _, rfl, rfl, rfl, by omega, by omega, Nat.le_refl _, keep_row hb k2.drew, keep_row hb ((texts_made w1 n).alloc (X1 n)).drew, hb', _, w2, hF, mid_refl _ _, Or.inl (by show w1.heap.size + 1 < ((w1.alloc (X2 n)).alloc (X1 n)).heap.size; omega), Or.inl (by show w1.heap.size < ((w1.alloc (X2 n)).alloc (X1 n)).heap.size; omega)⟩
end Go.Proofs.YtkkoekfdncoifaaDoor
