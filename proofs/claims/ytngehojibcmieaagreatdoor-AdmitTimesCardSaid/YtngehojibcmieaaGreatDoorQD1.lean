/- What is proved here: what is read of an image's bytes, place by place, as plain data. Conditions: none beyond those each theorem states. how a reader lies in memory, and what a call that moves it leaves alone. -/
import Derived.Test.YtngehojibcmieaaGreatDoorQB2
import Derived.Test.YtngehojibcmieaaGreatDoorQB3
import Derived.Test.YtngehojibcmieaaGreatDoorQGi
import Derived.Test.YtngehojibcmieaaGreatDoorQRg4
section
namespace Go.Proofs.YtngehojibcmieaaGreatDoor
open Kb (gN gT gE getL nums rd g_ok nums_ok nums_err nums_zero getL_low getL_err getL_form getL_big getL_ok)
structure Rst where
 (pos err : Int)
def rNum (l : List UInt8) (s : Rst) : Int × Rst := if s.err = 0 then (gN l s.pos, ⟨gT l s.pos, gE l s.pos⟩) else (0, s)
def rList (l : List UInt8) (s : Rst) : List Int × Rst := if s.err = 0 then ((getL l s.pos 16).1, ⟨(getL l s.pos 16).2.1, (getL l s.pos 16).2.2⟩) else ([], s)
def rCount (l : List UInt8) (most : Int) (s : Rst) : Int × Rst :=
 if (rNum l s).1 < 0 then (0, ⟨(rNum l s).2.pos, 3⟩) else if most < (rNum l s).1 then (0, ⟨(rNum l s).2.pos, 4⟩) else rNum l s
def rRow (l : List UInt8) (s : Rst) : List (Int × Int × Int) × Rst :=
 if (rCount l 4000 s).2.err ≠ 0 then ([], (rCount l 4000 s).2)
 else if (l.length : Int) - (rCount l 4000 s).2.pos < (rCount l 4000 s).1 then ([], ⟨(rCount l 4000 s).2.pos, 2⟩)
 else ((rd ((l.drop (rCount l 4000 s).2.pos.toNat).take (rCount l 4000 s).1.toNat)).1, ⟨(rCount l 4000 s).2.pos + (rCount l 4000 s).1, (rd ((l.drop (rCount l 4000 s).2.pos.toNat).take (rCount l 4000 s).1.toNat)).2⟩)
def rTask (l : List UInt8) (s0 : Rst) : TkP × Rst :=
 match rNum l s0 with
 | (a, s1) => match rNum l s1 with
  | (b, s2) => match rNum l s2 with
   | (c, s3) => match rNum l s3 with
    | (d, s4) => match rList l s4 with
     | (x, s5) => match rList l s5 with
      | (y, s6) => match rRow l s6 with
       | (z, s7) => (⟨a, b, c, d, x, y, z⟩, s7)
def rBlocks (l : List UInt8) : Nat → Rst → List (List Int) × Rst
 | 0, s => ([], s)
 | k + 1, s => ((rList l s).1 :: (rBlocks l k (rList l s).2).1, (rBlocks l k (rList l s).2).2)
def rTasks (l : List UInt8) : Nat → Rst → List TkP × Rst
 | 0, s => ([], s)
 | k + 1, s => ((rTask l s).1 :: (rTasks l k (rTask l s).2).1, (rTasks l k (rTask l s).2).2)
def rImage (l : List UInt8) (s0 : Rst) : ImP × Rst :=
 match rNum l s0 with
 | (a, s1) => match rNum l s1 with
  | (b, s2) => match rNum l s2 with
   | (c, s3) => match rNum l s3 with
    | (d, s4) => match rList l s4 with
     | (x, s5) => match rCount l 8 s5 with
      | (n, s6) => match rBlocks l n.toNat s6 with
       | (y, s7) => match rCount l 8 s7 with
        | (m, s8) => match rTasks l m.toNat s8 with
         | (z, s9) => (⟨a, b, c, d, x, y, z⟩, s9)
def Fine (l : List UInt8) (s : Rst) : Prop := s.err = 0 → 0 ≤ s.pos ∧ s.pos ≤ l.length
theorem nums_in {l : List UInt8} : ∀ (k : Nat) (out : List Int) (p : Int), 0 ≤ p → p ≤ l.length → (nums l k out p).2.2 = 0 → 0 ≤ (nums l k out p).2.1 ∧ (nums l k out p).2.1 ≤ l.length
 | 0, out, p, h0, h1, _ => ⟨h0, h1⟩
 | k + 1, out, p, h0, h1, h => by
  by_cases he : gE l p = 0
  ·rw [nums_ok he] at h ⊢
   obtain ⟨_, h2, h3, _⟩ := g_ok he
   exact nums_in k _ _ (by omega) h3 h
  ·rw [nums_err he] at h
   exact absurd h he
theorem rNum_fine {l : List UInt8} {s : Rst} (_h : Fine l s) : Fine l (rNum l s).2 := by
 unfold rNum
 by_cases e : s.err = 0
 ·rw [if_pos e]
  intro he
  obtain ⟨h1, h2, h3, _⟩ := g_ok (l := l) (p := s.pos) he
  exact ⟨by show 0 ≤ gT l s.pos; omega, h3⟩
 ·rw [if_neg e]; exact fun h => absurd h e
theorem getL_in {l : List UInt8} {p m : Int} (h : (getL l p m).2.2 = 0) : 0 ≤ (getL l p m).2.1 ∧ (getL l p m).2.1 ≤ l.length := by
 by_cases h0 : m < 0
 ·rw [getL_low h0] at h; cases h
 by_cases he : gE l p = 0
 ·by_cases hn : gN l p < 0
  ·rw [getL_form (by omega) he hn] at h; cases h
  ·by_cases hb : m < gN l p
   ·rw [getL_big (by omega) he (by omega) hb] at h; cases h
   ·rw [getL_ok (by omega) he (by omega) (by omega)] at h ⊢
    obtain ⟨h1, h2, h3, _⟩ := g_ok he
    exact nums_in _ _ _ (by omega) h3 h
 ·rw [getL_err (by omega) he] at h; exact absurd h he
theorem rList_fine {l : List UInt8} {s : Rst} (_h : Fine l s) : Fine l (rList l s).2 := by
 unfold rList
 by_cases e : s.err = 0
 ·rw [if_pos e]; exact fun he => getL_in he
 ·rw [if_neg e]; exact fun h => absurd h e
theorem rCount_fine {l : List UInt8} {s : Rst} {m : Int} (h : Fine l s) : Fine l (rCount l m s).2 := by
 unfold rCount
 split
 ·intro he; cases he
 ·split
  ·intro he; cases he
  ·exact rNum_fine h
theorem rCount_pos {l : List UInt8} {s : Rst} {m : Int} (hm : 0 ≤ m) : 0 ≤ (rCount l m s).1 ∧ (rCount l m s).1 ≤ m := by
 unfold rCount
 split
 ·exact ⟨Int.le_refl _, hm⟩
 ·split
  ·exact ⟨Int.le_refl _, hm⟩
  ·omega
theorem rRow_fine {l : List UInt8} {s : Rst} (h : Fine l s) : Fine l (rRow l s).2 := by
 have h1 := rCount_fine (m := 4000) h
 have h2 := rCount_pos (l := l) (s := s) (m := 4000) (by decide)
 unfold rRow
 split
 ·rename_i e; exact fun he => absurd he e
 ·rename_i e
  split
  ·intro he; cases he
  ·intro _
   have h3 := h1 (Classical.not_not.1 e)
   show 0 ≤ _ + _ ∧ _ + _ ≤ _
   omega
theorem rTask_eq {l : List UInt8} {s0 s1 s2 s3 s4 s5 s6 s7 : Rst} {a b c d : Int} {x y : List Int} {z : List (Int × Int × Int)} (h0 : rNum l s0 = (a, s1)) (h1 : rNum l s1 = (b, s2)) (h2 : rNum l s2 = (c, s3)) (h3 : rNum l s3 = (d, s4)) (h4 : rList l s4 = (x, s5)) (h5 : rList l s5 = (y, s6)) (h6 : rRow l s6 = (z, s7)) :
  rTask l s0 = (⟨a, b, c, d, x, y, z⟩, s7) := by
 unfold rTask
 simp only [h0, h1, h2, h3, h4, h5, h6]
theorem rTask_fine {l : List UInt8} {s : Rst} (h : Fine l s) : Fine l (rTask l s).2 := by
 have k1 := rNum_fine h
 have k2 := rNum_fine k1
 have k3 := rNum_fine k2
 have k4 := rNum_fine k3
 have k5 := rList_fine k4
 have k6 := rList_fine k5
 have k7 := rRow_fine k6
 rw [rTask_eq rfl rfl rfl rfl rfl rfl rfl]
 exact k7
theorem rBlocks_fine {l : List UInt8} : ∀ (k : Nat) {s : Rst}, Fine l s → Fine l (rBlocks l k s).2
 | 0, _, h => h
 | k + 1, _, h => rBlocks_fine k (rList_fine h)
theorem rImage_eq {l : List UInt8} {s0 s1 s2 s3 s4 s5 s6 s7 s8 s9 : Rst} {a b c d n m : Int} {x : List Int} {y : List (List Int)} {z : List TkP} (h0 : rNum l s0 = (a, s1)) (h1 : rNum l s1 = (b, s2)) (h2 : rNum l s2 = (c, s3)) (h3 : rNum l s3 = (d, s4)) (h4 : rList l s4 = (x, s5)) (h5 : rCount l 8 s5 = (n, s6)) (h6 : rBlocks l n.toNat s6 = (y, s7)) (h7 : rCount l 8 s7 = (m, s8)) (h8 : rTasks l m.toNat s8 = (z, s9)) :
  rImage l s0 = (⟨a, b, c, d, x, y, z⟩, s9) := by
 unfold rImage
 simp only [h0, h1, h2, h3, h4, h5, h6, h7, h8]
def noIm : ImP := ⟨0, 0, 0, 0, [], [], []⟩
def mark : List UInt8 := [80, 76, 67, 49]
def decM (l : List UInt8) : ImP × Int :=
 if (Kr.opn l).2 ≠ 0 then (noIm, (Kr.opn l).2)
 else if (Kr.opn l).1.take 4 ≠ mark then (noIm, 3)
 else if (rImage (Kr.opn l).1 ⟨4, 0⟩).2.err ≠ 0 then (noIm, (rImage (Kr.opn l).1 ⟨4, 0⟩).2.err)
 else if (rImage (Kr.opn l).1 ⟨4, 0⟩).2.pos ≠ (Kr.opn l).1.length then (noIm, 3)
 else if imE (rImage (Kr.opn l).1 ⟨4, 0⟩).1 = false then (noIm, 12)
 else ((rImage (Kr.opn l).1 ⟨4, 0⟩).1, 0)
end Go.Proofs.YtngehojibcmieaaGreatDoor
end
section
namespace Go.Proofs.YtngehojibcmieaaGreatDoor
open Go.ChangeShapes Go.WideShapes Go.RowKit
structure Kep (g : Nat) (w w' : World) : Prop where
 os : w'.os = w.os
 tape : w'.tape = w.tape
 output : w'.output = w.output
 size : w.heap.size ≤ w'.heap.size
 block : ∀ i, i < w.heap.size → i ≠ g → w'.heap[i]? = w.heap[i]?
theorem Kep.refl (g : Nat) (w : World) : Kep g w w := ⟨rfl, rfl, rfl, Nat.le_refl _, fun _ _ _ => rfl⟩
theorem Kep.trans {g : Nat} {w w' w'' : World} (h : Kep g w w') (h' : Kep g w' w'') : Kep g w w'' :=
 ⟨h'.os.trans h.os, h'.tape.trans h.tape, h'.output.trans h.output, Nat.le_trans h.size h'.size, fun i hi hg => (h'.block i (Nat.lt_of_lt_of_le hi h.size) hg).trans (h.block i hi hg)⟩
theorem Kep.of {g : Nat} {w w' : World} (h : Below w.heap.size w w') : Kep g w w' := ⟨h.os, h.tape, h.output, h.size, fun i hi _ => h.block i hi⟩
theorem Kep.set (g j : Nat) (v : Value) (w : World) : Kep g w (w.setCell ⟨g, j, none⟩ v) :=
 ⟨rfl, rfl, rfl, by simp, fun i _ hg => Go.Deep.blk_setCell_other _ _ _ _ hg⟩
theorem Kep.below {g n : Nat} {w w' : World} (h : Kep g w w') (hn : n ≤ g) (hs : n ≤ w.heap.size) : Below n w w' :=
 ⟨h.os, h.tape, h.output, h.size, fun i hi => h.block i (by omega) (by omega)⟩
theorem Kep.cell {g : Nat} {w w' : World} {p : Addr} {v : Value} (h : Kep g w w') (hp : p.block ≠ g) (hc : w.cell? p = some v) : w'.cell? p = some v := by
 have := cell_lt hc
 rw [World.cell?_of_block (h.block _ this hp)]; exact hc
def RowA (lo : Nat) (w : World) (a : Option Addr) (n : Nat) (l : List Int) : Prop := Row w a n l ∧ ∀ ad, a = some ad → lo ≤ ad.block
def RowIA (lo : Nat) (w : World) (a : Option Addr) (n : Nat) (l : List (Int × Int × Int)) : Prop := RowI w a n l ∧ ∀ ad, a = some ad → lo ≤ ad.block
theorem RowA.kep {lo g : Nat} {w w' : World} {a : Option Addr} {n : Nat} {l : List Int} (h : RowA lo w a n l) (hk : Kep g w w') (hg : g < lo) : RowA lo w' a n l := by
 refine ⟨⟨h.1.1, fun hn => ?_⟩, h.2⟩
 obtain ⟨b, off, e, hlt, hc⟩ := h.1.2 hn
 have hb : lo ≤ b := h.2 _ e
 exact ⟨b, off, e, Nat.lt_of_lt_of_le hlt hk.size, fun k hk2 => hk.cell (show b ≠ g by omega) (hc k hk2)⟩
theorem RowIA.kep {lo g : Nat} {w w' : World} {a : Option Addr} {n : Nat} {l : List (Int × Int × Int)} (h : RowIA lo w a n l) (hk : Kep g w w') (hg : g < lo) : RowIA lo w' a n l := by
 refine ⟨⟨h.1.1, fun hn => ?_⟩, h.2⟩
 obtain ⟨b, off, e, hlt, hc⟩ := h.1.2 hn
 have hb : lo ≤ b := h.2 _ e
 have hg : b ≠ g := by omega
 refine ⟨b, off, e, Nat.lt_of_lt_of_le hlt hk.size, fun k hk2 => ?_⟩
 have := hc k hk2
 exact ⟨hk.cell hg this.1, hk.cell hg this.2.1, hk.cell hg this.2.2⟩
theorem RowA.mono {lo lo' : Nat} {w : World} {a : Option Addr} {n : Nat} {l : List Int} (h : RowA lo w a n l) (hl : lo' ≤ lo) : RowA lo' w a n l := ⟨h.1, fun ad e => Nat.le_trans hl (h.2 ad e)⟩
theorem RowIA.mono {lo lo' : Nat} {w : World} {a : Option Addr} {n : Nat} {l : List (Int × Int × Int)} (h : RowIA lo w a n l) (hl : lo' ≤ lo) : RowIA lo' w a n l := ⟨h.1, fun ad e => Nat.le_trans hl (h.2 ad e)⟩
def rdC (s : ByteArray) (st : Rst) (j : Nat) : Value := if j = 0 then .string s else if j = 1 then .int .i64 st.pos else .int .i64 st.err
def Rdr (t : TypeId) (g : Nat) (s : ByteArray) (st : Rst) (w : World) : Prop := w.rowIs g t 3 (rdC s st)
theorem Rdr.c0 {t : TypeId} {g : Nat} {s : ByteArray} {st : Rst} {w : World} (h : Rdr t g s st w) : w.cell? ⟨g, 0, none⟩ = some (.string s) := World.rowIs.cell h (i := 0) (by omega)
theorem Rdr.c1 {t : TypeId} {g : Nat} {s : ByteArray} {st : Rst} {w : World} (h : Rdr t g s st w) : w.cell? ⟨g, 1, none⟩ = some (.int .i64 st.pos) := World.rowIs.cell h (i := 1) (by omega)
theorem Rdr.c2 {t : TypeId} {g : Nat} {s : ByteArray} {st : Rst} {w : World} (h : Rdr t g s st w) : w.cell? ⟨g, 2, none⟩ = some (.int .i64 st.err) := World.rowIs.cell h (i := 2) (by omega)
theorem Rdr.below {t : TypeId} {g : Nat} {s : ByteArray} {st : Rst} {w w' : World} (h : Rdr t g s st w) (hb : Below w.heap.size w w') : Rdr t g s st w' := World.rowIs.of_block h (hb.block g (World.rowIs.lt h))
theorem Rdr.drew {t : TypeId} {g : Nat} {s : ByteArray} {st : Rst} {w : World} (h : Rdr t g s st w) : Rdr t g s st w.drew := World.rowIs.drew h
theorem Rdr.pos {t : TypeId} {g : Nat} {s : ByteArray} {st : Rst} {w : World} (h : Rdr t g s st w) (p : Int) : Rdr t g s ⟨p, st.err⟩ (w.setCell ⟨g, 1, none⟩ (.int .i64 p)) :=
 (World.rowIs.set h 1 (.int .i64 p)).congr fun i hi => by
  match i, hi with
  | 0, _ => rfl
  | 1, _ => rfl
  | 2, _ => rfl
theorem Rdr.err {t : TypeId} {g : Nat} {s : ByteArray} {st : Rst} {w : World} (h : Rdr t g s st w) (e : Int) : Rdr t g s ⟨st.pos, e⟩ (w.setCell ⟨g, 2, none⟩ (.int .i64 e)) :=
 (World.rowIs.set h 2 (.int .i64 e)).congr fun i hi => by
  match i, hi with
  | 0, _ => rfl
  | 1, _ => rfl
  | 2, _ => rfl
theorem blw_dr (w : World) : Below w.heap.size w w.drew := ⟨rfl, rfl, rfl, Nat.le_refl _, fun _ _ => rfl⟩
end Go.Proofs.YtngehojibcmieaaGreatDoor
end
