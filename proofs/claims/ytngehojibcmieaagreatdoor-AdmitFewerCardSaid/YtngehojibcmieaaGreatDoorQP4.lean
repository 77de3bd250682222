/- What is proved here: rows of slices, and of tasks, that a call makes, with rows of its own in them. Conditions: none beyond those each theorem states. an image under way while its bytes are read: what each step of a round leaves. the contract of the program's reader of an image. Conditions: the bytes are at most a million; the table of names holds what its initialiser lays. -/
import Derived.Test.YtngehojibcmieaaGreatDoorQP2
import Derived.Deep.CutRange
import Derived.Deep.AppendLies
import Derived.Deep.CutBlock
set_option maxRecDepth 100000
set_option maxHeartbeats 8000000
section
namespace Go.Proofs.YtngehojibcmieaaGreatDoor
open Go.ChangeShapes Go.WideShapes Go.RowKit
def OffS (s : Sl) (x : Option Nat) : Prop := 0 < s.n → ∀ p, s.a = some p → x ≠ some p.block
theorem Row.frame {w w' : World} {a : Option Addr} {n : Nat} {l : List Int} (h : Row w a n l) (hs : w.heap.size ≤ w'.heap.size) (hb : 0 < n → ∀ p, a = some p → w'.heap[p.block]? = w.heap[p.block]?) : Row w' a n l := by
 refine ⟨h.1, fun hn => ?_⟩
 obtain ⟨b, off, e, hlt, hc⟩ := h.2 hn
 exact ⟨b, off, e, Nat.lt_of_lt_of_le hlt hs, fun i hi => (World.cell?_of_block (a := ⟨b, off + i, none⟩) (hb hn ⟨b, off, none⟩ e)).trans (hc i hi)⟩
theorem RowI.frame {w w' : World} {a : Option Addr} {n : Nat} {l : List (Int × Int × Int)} (h : RowI w a n l) (hs : w.heap.size ≤ w'.heap.size) (hb : 0 < n → ∀ p, a = some p → w'.heap[p.block]? = w.heap[p.block]?) : RowI w' a n l := by
 refine ⟨h.1, fun hn => ?_⟩
 obtain ⟨b, off, e, hlt, hc⟩ := h.2 hn
 have hw := hb hn ⟨b, off, none⟩ e
 refine ⟨b, off, e, Nat.lt_of_lt_of_le hlt hs, fun i hi => ?_⟩
 have := hc i hi
 have hw : w'.heap[b]? = w.heap[b]? := hw
 exact ⟨(World.cell?_of_block (a := ⟨b, off + i * 3, none⟩) hw).trans this.1, (World.cell?_of_block (a := ⟨b, off + i * 3 + 1, none⟩) hw).trans this.2.1, (World.cell?_of_block (a := ⟨b, off + i * 3 + 2, none⟩) hw).trans this.2.2⟩
theorem row_lt {w : World} {a : Option Addr} {n : Nat} {l : List Int} (h : Row w a n l) (hn : 0 < n) {p : Addr} (hp : a = some p) : p.block < w.heap.size := by
 obtain ⟨b, off, e, hlt, _⟩ := h.2 hn
 rw [hp] at e; cases e; exact hlt
theorem rowI_lt {w : World} {a : Option Addr} {n : Nat} {l : List (Int × Int × Int)} (h : RowI w a n l) (hn : 0 < n) {p : Addr} (hp : a = some p) : p.block < w.heap.size := by
 obtain ⟨b, off, e, hlt, _⟩ := h.2 hn
 rw [hp] at e; cases e; exact hlt
theorem off_at {s : Sl} {W : World} {x x' : Option Nat} (h : OffS s x) (hlt : 0 < s.n → ∀ p, s.a = some p → p.block < W.heap.size) (hat : x' = x ∨ x' = some W.heap.size) : OffS s x' := by
 intro hn p hp e
 rcases hat with e2 | e2
 ·rw [e2] at e; exact h hn p hp e
 ·rw [e2] at e
  have := hlt hn p hp
  have := Option.some.inj e
  omega
theorem rowA_grow {lo : Nat} {s : Sl} {l : List Int} {W W' : World} {x : Option Nat} (h : RowA lo W s.a s.n l) (hd : OffS s x) (hg : W.grownBy W' x) : RowA lo W' s.a s.n l :=
 ⟨h.1.frame hg.size fun hn p hp => hg.block p.block (row_lt h.1 hn hp) (fun e => hd hn p hp e.symm), h.2⟩
theorem rowIA_grow {lo : Nat} {s : Sl} {l : List (Int × Int × Int)} {W W' : World} {x : Option Nat} (h : RowIA lo W s.a s.n l) (hd : OffS s x) (hg : W.grownBy W' x) : RowIA lo W' s.a s.n l :=
 ⟨h.1.frame hg.size fun hn p hp => hg.block p.block (rowI_lt h.1 hn hp) (fun e => hd hn p hp e.symm), h.2⟩
structure OwR {α β : Type} (ty : TypeId) (size : Nat) (cells : α → List Value) (Is : World → α → β → Prop) (off : α → Option Nat → Prop) (base : Nat) (v : Value) (VV : List α) (L : List β) (W : World) : Prop where
 own : W.ownsRow base ty size v VV.length (VV.flatMap cells)
 len : VV.length = L.length
 is : ∀ (i : Nat) t, VV[i]? = some t → ∃ u, L[i]? = some u ∧ Is W t u
 dis : ∀ t ∈ VV, off t v.ownBlock
section
variable {α β : Type} {ty : TypeId} {size : Nat} {cells : α → List Value} {Is : World → α → β → Prop} {off : α → Option Nat → Prop} {base : Nat} {v v' : Value} {VV : List α} {L : List β} {W W' : World} {t : α} {u : β}
theorem OwR.nil (W : World) : OwR ty size cells Is off base (.slice none 0 0) [] ([] : List β) W := ⟨World.ownsRow_nil _ _ _ _, rfl, fun i t h => by simp at h, fun t h => by simp at h⟩
theorem OwR.step (K : ∀ W W' t u x x', Is W t u → off t x → W.grownBy W' x → (x' = x ∨ x' = some W.heap.size) → Is W' t u ∧ off t x') (h : OwR ty size cells Is off base v VV L W) (hown : W'.ownsRow base ty size v' (VV.length + 1) (VV.flatMap cells ++ cells t)) (hg : W.grownBy W' v.ownBlock)
  (hat : v'.ownBlock = v.ownBlock ∨ v'.ownBlock = some W.heap.size) (ht : Is W t u) (hd : off t v.ownBlock) : OwR ty size cells Is off base v' (VV ++ [t]) (L ++ [u]) W' := by
 refine ⟨by rw [List.length_append, List.flatMap_append]; simpa using hown, by rw [List.length_append, List.length_append, h.len]; rfl, ?_, ?_⟩
 ·intro i t' hi
  rw [List.getElem?_append] at hi
  by_cases hiv : i < VV.length
  ·rw [if_pos hiv] at hi
   obtain ⟨u', k1, k2⟩ := h.is i t' hi
   refine ⟨u', by rw [List.getElem?_append_left (by rw [← h.len]; exact hiv)]; exact k1, (K W W' t' u' _ _ k2 (h.dis t' (List.mem_of_getElem? hi)) hg hat).1⟩
  ·rw [if_neg hiv] at hi
   have hi0 : i - VV.length = 0 := by
    rcases Nat.eq_zero_or_pos (i - VV.length) with e | e
    ·exact e
    ·rw [List.getElem?_eq_none (by show 1 ≤ _; omega)] at hi; cases hi
   rw [hi0] at hi
   simp at hi
   subst hi
   refine ⟨u, ?_, (K W W' t u _ _ ht hd hg hat).1⟩
   rw [List.getElem?_append_right (by rw [← h.len]; omega), ← h.len, hi0]; rfl
 ·intro t' ht'
  rcases List.mem_append.1 ht' with h1 | h1
  ·obtain ⟨i, hi, rfl⟩ := List.getElem_of_mem h1
   obtain ⟨u', k1, k2⟩ := h.is i _ (List.getElem?_eq_getElem hi)
   exact (K W W' _ u' _ _ k2 (h.dis _ h1) hg hat).2
  ·simp at h1; subst h1; exact (K W W' t' u _ _ ht hd hg hat).2
theorem OwR.keep {x : Option Nat} (h : OwR ty size cells Is off base v VV L W) (hI : ∀ t u, Is W t u → Is W' t u) (hg : W.grownBy W' x) (hx : ∀ b, x = some b → b < base ∨ W.heap.size ≤ b) : OwR ty size cells Is off base v VV L W' := by
 refine ⟨h.own.kept hg ?_, h.len, fun i t hi => ?_, h.dis⟩
 ·cases e : v.ownBlock with
  | none => exact Or.inl rfl
  | some b =>
   refine Or.inr fun e2 => ?_
   have h1 := h.own.lt b e
   have h2 := hx b e2.symm
   omega
 ·obtain ⟨u, k1, k2⟩ := h.is i t hi
  exact ⟨u, k1, hI t u k2⟩
end
theorem Kep.grown {g : Nat} {w w' : World} (h : Kep g w w') : w.grownBy w' (some g) := ⟨h.os, h.tape, h.output, h.size, fun k hk hg => h.block k hk (fun e => hg (by rw [e]))⟩
def IsS (lo : Nat) (W : World) (s : Sl) (l : List Int) : Prop := RowA lo W s.a s.n l
theorem isS_grow (lo : Nat) : ∀ W W' (t : Sl) (u : List Int) x x', IsS lo W t u → OffS t x → W.grownBy W' x → (x' = x ∨ x' = some W.heap.size) → IsS lo W' t u ∧ OffS t x' :=
 fun _ _ _ _ _ _ h hd hg hat => ⟨rowA_grow h hd hg, off_at hd (fun hn _ hp => row_lt h.1 hn hp) hat⟩
def IsT (lo : Nat) (W : World) (t : TaV) (T : TkP) : Prop := TaA lo W t T
def OffT (t : TaV) (x : Option Nat) : Prop := OffS t.bl x ∧ OffS t.ou x ∧ OffS t.co x
theorem isT_grow (lo : Nat) : ∀ W W' (t : TaV) (u : TkP) x x', IsT lo W t u → OffT t x → W.grownBy W' x → (x' = x ∨ x' = some W.heap.size) → IsT lo W' t u ∧ OffT t x' :=
 fun _ _ _ _ _ _ h hd hg hat => ⟨⟨h.pr, h.pe, h.de, h.ji, rowA_grow h.bl hd.1 hg, rowA_grow h.ou hd.2.1 hg, rowIA_grow h.co hd.2.2 hg⟩,
  off_at hd.1 (fun hn _ hp => row_lt h.bl.1 hn hp) hat, off_at hd.2.1 (fun hn _ hp => row_lt h.ou.1 hn hp) hat, off_at hd.2.2 (fun hn _ hp => rowI_lt h.co.1 hn hp) hat⟩
abbrev OwS (lo base : Nat) (v : Value) (VV : List Sl) (L : List (List Int)) (W : World) : Prop := OwR 22 1 (fun s : Sl => [s.v]) (IsS lo) OffS base v VV L W
abbrev OwT (lo base : Nat) (v : Value) (VV : List TaV) (L : List TkP) (W : World) : Prop := OwR 59 7 TaV.cells (IsT lo) OffT base v VV L W
end Go.Proofs.YtngehojibcmieaaGreatDoor
end
section
namespace Go.Proofs.YtngehojibcmieaaGreatDoor
open Go.ChangeShapes Go.WideShapes Go.RowKit
def imF (a b c d : Int) (x y z : Value) (j : Nat) : Value := if j = 0 then .int .i64 a else if j = 1 then .int .i64 b else if j = 2 then .int .i64 c else if j = 3 then .int .i64 d else if j = 4 then x else if j = 5 then y else z
def Old (g bi base : Nat) (Pre : World → Prop) : Prop := ∀ W W' x, W.grownBy W' x → (∀ b, x = some b → b ≤ g ∨ b = bi ∨ base ≤ b) → Pre W → Pre W'
structure Lp {α β : Type} (ty : TypeId) (size : Nat) (cells : α → List Value) (Is : World → α → β → Prop) (off : α → Option Nat → Prop) (g bi base : Nat) (s : ByteArray) (w : World) (Pre : World → Prop) (st : Rst) (f : Nat → Value) (v : Value) (VV : List α) (L : List β) (W : World) : Prop where
 rd : Rdr 90 g s st W
 kp : Kep g w W
 im : W.rowIs bi 26 7 f
 res : W.rowIs w.heap.size 26 7 (imF 0 0 0 0 (.slice none 0 0) (.slice none 0 0) (.slice none 0 0))
 ow : OwR ty size cells Is off base v VV L W
 pre : Pre W
 lt : g < w.heap.size
 mid : w.heap.size < bi
 hi : bi < base
 sz : base ≤ W.heap.size
theorem grown_none {w w' : World} (h : Below w.heap.size w w') : w.grownBy w' none := ⟨h.os, h.tape, h.output, h.size, fun k hk _ => h.block k hk⟩
theorem rowIs_grow {W W' : World} {x : Option Nat} {b n : Nat} {t : TypeId} {f : Nat → Value} (h : W.rowIs b t n f) (hg : W.grownBy W' x) (hx : some b ≠ x) : W'.rowIs b t n f := World.rowIs.of_block h (hg.block b (World.rowIs.lt h) hx)
section
variable {α β : Type} {ty : TypeId} {size : Nat} {cells : α → List Value} {Is : World → α → β → Prop} {off : α → Option Nat → Prop} {g bi base : Nat} {s : ByteArray} {w : World} {Pre : World → Prop} {st st' : Rst} {f f' : Nat → Value} {v v' : Value} {VV : List α} {L : List β} {W W' : World} {t : α} {u : β}
theorem Lp.call (hP : Old w.heap.size bi base Pre) (hI : ∀ W W' x t u, W.grownBy W' x → (∀ b, x = some b → b ≤ bi) → Is W t u → Is W' t u) (h : Lp ty size cells Is off g bi base s w Pre st f v VV L W) (hk : Kep g W W') (hr : Rdr 90 g s st' W') : Lp ty size cells Is off g bi base s w Pre st' f v VV L W' := by
 have h1 := h.lt
 have h2 := h.mid
 have h3 := h.hi
 have hG := hk.grown
 exact ⟨hr, h.kp.trans hk, rowIs_grow h.im hG (fun e => by cases e; omega), rowIs_grow h.res hG (fun e => by cases e; omega),
  h.ow.keep (x := some g) (fun t u => hI _ _ _ t u hG (fun b e => by cases e; omega)) hG (fun b e => by cases e; exact Or.inl (by omega)), hP _ _ _ hG (fun b e => by cases e; exact Or.inl (by omega)) h.pre, h1, h2, h3, Nat.le_trans h.sz hk.size⟩
theorem Lp.below (hP : Old w.heap.size bi base Pre) (hI : ∀ W W' x t u, W.grownBy W' x → (∀ b, x = some b → b ≤ bi) → Is W t u → Is W' t u) (h : Lp ty size cells Is off g bi base s w Pre st f v VV L W) (hb : Below W.heap.size W W') : Lp ty size cells Is off g bi base s w Pre st f v VV L W' :=
 h.call hP hI (Kep.of hb) (h.rd.below hb)
theorem Lp.step (hP : Old w.heap.size bi base Pre) (K : ∀ W W' t u x x', Is W t u → off t x → W.grownBy W' x → (x' = x ∨ x' = some W.heap.size) → Is W' t u ∧ off t x') (h : Lp ty size cells Is off g bi base s w Pre st f v VV L W)
  (hown : W'.ownsRow base ty size v' (VV.length + 1) (VV.flatMap cells ++ cells t)) (hg : W.grownBy W' v.ownBlock) (hat : v'.ownBlock = v.ownBlock ∨ v'.ownBlock = some W.heap.size) (ht : Is W t u) (hd : off t v.ownBlock) :
  Lp ty size cells Is off g bi base s w Pre st f v' (VV ++ [t]) (L ++ [u]) W' := by
 have h1 := h.lt
 have h2 := h.mid
 have h3 := h.hi
 have hb : ∀ b, v.ownBlock = some b → base ≤ b := fun b e => (h.ow.own.lt b e).1
 have hn : ∀ b, b < base → some b ≠ v.ownBlock := fun b hb2 e => by have := hb b e.symm; omega
 refine ⟨rowIs_grow h.rd hg (hn g (by omega)), ?_, rowIs_grow h.im hg (hn bi h3), rowIs_grow h.res hg (hn _ (by omega)), h.ow.step K hown hg hat ht hd, hP _ _ _ hg (fun b e => Or.inr (Or.inr (hb b e))) h.pre, h1, h2, h3, Nat.le_trans h.sz hg.size⟩
 exact ⟨hg.os.trans h.kp.os, hg.tape.trans h.kp.tape, hg.output.trans h.kp.output, Nat.le_trans h.kp.size hg.size, fun i hi hig => (hg.block i (Nat.lt_of_lt_of_le hi h.kp.size) (hn i (by omega))).trans (h.kp.block i hi hig)⟩
theorem Lp.store (hP : Old w.heap.size bi base Pre) (hI : ∀ W W' x t u, W.grownBy W' x → (∀ b, x = some b → b ≤ bi) → Is W t u → Is W' t u) (h : Lp ty size cells Is off g bi base s w Pre st f v VV L W) (j : Nat) (x : Value) (hf : ∀ i, i < 7 → (if i = j then x else f i) = f' i) :
  Lp ty size cells Is off g bi base s w Pre st f' v VV L (W.setCell ⟨bi, j, none⟩ x) := by
 have h1 := h.lt
 have h2 := h.mid
 have h3 := h.hi
 have hG := (Kep.set bi j x W).grown
 refine ⟨rowIs_grow h.rd hG (fun e => by cases e; omega), ?_, (h.im.set j x).congr hf, rowIs_grow h.res hG (fun e => by have := Option.some.inj e; omega),
  h.ow.keep (x := some bi) (fun t u => hI _ _ _ t u hG (fun b e => by cases e; omega)) hG (fun b e => by cases e; exact Or.inl h3), hP _ _ _ hG (fun b e => by cases e; exact Or.inr (Or.inl rfl)) h.pre, h1, h2, h3, by simpa using h.sz⟩
 exact ⟨h.kp.os, h.kp.tape, h.kp.output, by simpa using h.kp.size, fun i hi hig => (hG.block i (Nat.lt_of_lt_of_le hi h.kp.size) (fun e => by have := Option.some.inj e; omega)).trans (h.kp.block i hi hig)⟩
end
theorem isS_old (base : Nat) {bi : Nat} (hb : bi < base) : ∀ (W W' : World) (x : Option Nat) (t : Sl) (u : List Int), W.grownBy W' x → (∀ b, x = some b → b ≤ bi) → IsS base W t u → IsS base W' t u :=
 fun _ _ _ _ _ hg hx h => rowA_grow h (fun _ p hp e => by have h1 := hx _ e; have h2 := h.2 p hp; omega) hg
theorem isT_old (base : Nat) {bi : Nat} (hb : bi < base) : ∀ (W W' : World) (x : Option Nat) (t : TaV) (u : TkP), W.grownBy W' x → (∀ b, x = some b → b ≤ bi) → IsT base W t u → IsT base W' t u :=
 fun _ _ _ _ _ hg hx h => ⟨h.pr, h.pe, h.de, h.ji, rowA_grow h.bl (fun _ p hp e => by have h1 := hx _ e; have h2 := h.bl.2 p hp; omega) hg, rowA_grow h.ou (fun _ p hp e => by have h1 := hx _ e; have h2 := h.ou.2 p hp; omega) hg,
  rowIA_grow h.co (fun _ p hp e => by have h1 := hx _ e; have h2 := h.co.2 p hp; omega) hg⟩
def RowB (lo hi : Nat) (W : World) (t : Sl) (l : List Int) : Prop := RowA lo W t.a t.n l ∧ (0 < t.n → ∀ ad, t.a = some ad → ad.block < hi)
theorem rowB_old {g bi base lo : Nat} {t : Sl} {l : List Int} (hg : g < lo) (hb : bi < base) : Old g bi base (fun W => RowB lo bi W t l) := fun W W' x hgr hx h =>
 ⟨rowA_grow h.1 (fun hn p hp e => by have h1 := hx _ e; have h2 := h.1.2 p hp; have h3 := h.2 hn p hp; omega) hgr, h.2⟩
def BlkF (lo hi : Nat) (W : World) (t : Sl) (L : List (List Int)) : Prop :=
 t.n = L.length ∧ (0 < t.n → ∃ b, t.a = some ⟨b, 0, none⟩ ∧ lo ≤ b ∧ b < hi ∧ b < W.heap.size ∧ ∀ i, i < t.n → ∃ s : Sl, W.cell? ⟨b, i, none⟩ = some s.v ∧ RowA lo W s.a s.n (L.getD i []) ∧ (0 < s.n → ∀ ad, s.a = some ad → ad.block < hi))
theorem blkF_old {g bi base base2 : Nat} {t : Sl} {L : List (List Int)} (hg : g < base) (hb : bi < base) : Old g bi base2 (fun W => BlkF base base2 W t L) := by
 intro W W' x hgr hx h
 refine ⟨h.1, fun hn => ?_⟩
 obtain ⟨b, e, h1, h2, h3, hc⟩ := h.2 hn
 have ne : ∀ k, base ≤ k → k < base2 → some k ≠ x := fun k k1 k2 e => by have := hx k e.symm; omega
 refine ⟨b, e, h1, h2, Nat.lt_of_lt_of_le h3 hgr.size, fun i hi => ?_⟩
 obtain ⟨s, c1, c2, c3⟩ := hc i hi
 refine ⟨s, (World.cell?_of_block (a := ⟨b, i, none⟩) (hgr.block b h3 (ne b h1 h2))).trans c1, ⟨c2.1.frame hgr.size fun hn p hp => hgr.block p.block (row_lt c2.1 hn hp) (ne _ (c2.2 p hp) (c3 hn p hp)), c2.2⟩, c3⟩
theorem own_value {W : World} {base size n : Nat} {e : TypeId} {v : Value} {xs : List Value} (h : W.ownsRow base e size v n xs) : ∃ t : Sl, v = .slice t.a t.n t.c ∧ t.n = n ∧ (0 < n → ∃ b, t.a = some ⟨b, 0, none⟩ ∧ base ≤ b ∧ b < W.heap.size) := by
 have hl := h.lt
 rcases h.2 with ⟨rfl, h0⟩ | ⟨b, cap, _, rfl, _⟩
 ·exact ⟨⟨none, 0, 0⟩, rfl, h0.symm, fun hn => by omega⟩
 ·exact ⟨⟨some ⟨b, 0, none⟩, n, cap⟩, rfl, rfl, fun _ => ⟨b, rfl, hl b rfl⟩⟩
theorem flat_one (VV : List Sl) (i : Nat) (s : Sl) (h : VV[i]? = some s) : (VV.flatMap fun s : Sl => [s.v])[i]? = some s.v := by
 have e : ∀ VV : List Sl, (VV.flatMap fun s : Sl => [s.v]) = VV.map Sl.v := fun VV => by
  induction VV with
  | nil => rfl
  | cons x l ih => rw [List.flatMap_cons, ih]; rfl
 rw [e, List.getElem?_map, h]; rfl
theorem OwS.frozen {base : Nat} {v : Value} {VV : List Sl} {L : List (List Int)} {W : World} (h : OwS base base v VV L W) : ∃ t : Sl, v = .slice t.a t.n t.c ∧ t.n = VV.length ∧ BlkF base W.heap.size W t L := by
 obtain ⟨t, rfl, hn, hb⟩ := own_value h.own
 refine ⟨t, rfl, hn, hn.trans h.len, fun h0 => ?_⟩
 obtain ⟨b, e, h1, h2⟩ := hb (by omega)
 refine ⟨b, e, h1, h2, h2, fun i hi => ?_⟩
 have hi2 : i < VV.length := by omega
 obtain ⟨l, k1, k2⟩ := h.is i _ (List.getElem?_eq_getElem hi2)
 have ho := h.own
 rw [e, hn] at ho
 refine ⟨VV[i], ?_, ?_, fun hn p hp => row_lt k2.1 hn hp⟩
 ·rw [ho.cellAt i (by omega)]
  exact flat_one VV i _ (List.getElem?_eq_getElem hi2)
 ·rw [List.getD_eq_getElem?_getD, k1]; exact k2
theorem BlkF.rowR {lo hi : Nat} {W : World} {t : Sl} {L : List (List Int)} (h : BlkF lo hi W t L) (hL : ∀ l ∈ L, l.length ≤ 1000) : RowR W t.a t.n L := by
 refine ⟨h.1, fun hn => ?_⟩
 obtain ⟨b, e, _, _, h3, hc⟩ := h.2 hn
 refine ⟨b, 0, e, h3, fun i hi => ?_⟩
 obtain ⟨s, c1, c2, _⟩ := hc i hi
 refine ⟨s, by rw [Nat.zero_add]; exact c1, c2.1, ?_⟩
 have hi2 : i < L.length := by rw [← h.1]; exact hi
 have h4 := hL (L.getD i []) (by rw [List.getD_eq_getElem?_getD, List.getElem?_eq_getElem hi2]; exact List.getElem_mem _)
 have h5 := c2.1.1
 omega
theorem flat_cells (VV : List TaV) (i j : Nat) (t : TaV) (h : VV[i]? = some t) (hj : j < 7) : (VV.flatMap TaV.cells)[i * 7 + j]? = t.cells[j]? := by
 induction VV generalizing i with
 | nil => simp at h
 | cons x l ih =>
  show (x.cells ++ l.flatMap TaV.cells)[i * 7 + j]? = _
  rcases i with _ | i
  ·simp at h; subst h
   rw [List.getElem?_append_left (by show 0 * 7 + j < 7; omega), show 0 * 7 + j = j by omega]
  ·rw [List.getElem?_append_right (by show 7 ≤ (i + 1) * 7 + j; omega), show (i + 1) * 7 + j - x.cells.length = i * 7 + j by show (i + 1) * 7 + j - 7 = _; omega]
   exact ih i (by simpa using h)
theorem OwT.rowT {base : Nat} {v : Value} {VV : List TaV} {L : List TkP} {W : World} (h : OwT base base v VV L W) (hL : ∀ T ∈ L, T.bl.length ≤ 1000 ∧ T.ou.length ≤ 1000 ∧ T.co.length ≤ 1000) : ∃ t : Sl, v = .slice t.a t.n t.c ∧ t.n = L.length ∧ RowT W t.a t.n L := by
 obtain ⟨t, rfl, hn, hb⟩ := own_value h.own
 refine ⟨t, rfl, hn.trans h.len, hn.trans h.len, fun h0 => ?_⟩
 obtain ⟨b, e, h1, h2⟩ := hb (by omega)
 refine ⟨b, 0, e, h2, fun i hi => ?_⟩
 have hi2 : i < VV.length := by omega
 obtain ⟨T, k1, k2⟩ := h.is i _ (List.getElem?_eq_getElem hi2)
 have ho := h.own
 rw [e, hn] at ho
 obtain ⟨m1, m2, m3⟩ := hL T (List.mem_of_getElem? k1)
 refine ⟨VV[i], T, k1, ⟨k2.pr, k2.pe, k2.de, k2.ji, ⟨k2.bl.1, by have := k2.bl.1.1; omega⟩, ⟨k2.ou.1, by have := k2.ou.1.1; omega⟩, ⟨k2.co.1, by have := k2.co.1.1; omega⟩⟩, fun j x hj => ?_⟩
 have hj7 : j < 7 := (List.getElem?_eq_some_iff.1 hj).1
 rw [show 0 + i * 7 + j = i * 7 + j by omega, ho.cellAt (i * 7 + j) (by omega), flat_cells VV i j _ (List.getElem?_eq_getElem hi2) hj7]
 exact hj
end Go.Proofs.YtngehojibcmieaaGreatDoor
end
section
namespace Go.Proofs.YtngehojibcmieaaGreatDoor
open Go.ChangeShapes Go.WideShapes Go.RowKit
theorem wp_append_at {P : Program} (w : World) {o : Oper} {a : Act} {K : Act → World → Prop} {Q : Exit → Act → World → Prop} (s x : Operand) (t : TypeId)
  (ho : o.op = .call { callee := .builtin .append, args := #[s, x], argTypes := #[t, t] })
  (base : Nat) (e : TypeId) (i : TypeInfo) (z : Value) (size bytes : Nat) (ht : P.underlying t = some (.slice e)) (hi : P.info? e = some i) (hz : i.zero = some z)
  (hsize : i.size = size) (hby : i.bytes = bytes) (hzs : z.cells.size = size) (hsz : 0 < size)
  (v : Value) (n : Nat) (xs : List Value) (hs : a.eval s = v) (hown : w.ownsRow base e size v n xs)
  (ad : Addr) (m c : Nat) (news : List Value) (hx : a.eval x = .slice (some ad) m c) (hl : news.length = m * size) (hnews : ∀ j u, news[j]? = some u → w.cell? (ad.add j) = some u) (h1 : ∀ u ∈ news, u.oneCell' = true)
  (h63 : n + m ≤ maxLen) (hbytes : (n + m) * bytes ≤ 140737488355328) (hbase : base ≤ w.heap.size)
  (h : ∀ v' w', w'.ownsRow base e size v' (n + m) (xs ++ news) → w.grownBy w' v.ownBlock → (v'.ownBlock = v.ownBlock ∨ v'.ownBlock = some w.heap.size) → K (a.put o.dst v') w') : o.wp P a w K Q := by
 obtain ⟨v', w', hr, h2, h3, _, h5⟩ := run_append_own_at (P := P) w base t o.type e i z size bytes ht hi hz hsize hby hzs hsz v n xs hown ad m c news hl hnews h1 h63 hbytes hbase
 unfold Oper.wp execOp
 simp only [ho, resolve, invoke, builtin, Sem.run_bind, Sem.run_pure, Result.andThen_ok, List.map_toArray, List.map_cons, List.map_nil, hs, hx, hr]
 exact h v' w' h2 h3 h5
theorem sl_info : (Tryz.prog.info? 22).map (fun i => (i.zero, i.size, i.bytes)) = some (some (.slice none 0 0), 1, 24) := by kernel_rfl
theorem rBlocks_succ (l : List UInt8) (k : Nat) (s : Rst) : rBlocks l (k + 1) s = ((rList l s).1 :: (rBlocks l k (rList l s).2).1, (rBlocks l k (rList l s).2).2) := rfl
theorem rTasks_succ (l : List UInt8) (k : Nat) (s : Rst) : rTasks l (k + 1) s = ((rTask l s).1 :: (rTasks l k (rTask l s).2).1, (rTasks l k (rTask l s).2).2) := rfl
theorem tk_info0 : (Tryz.prog.info? 59).map (fun i => (i.zero, i.size, i.bytes)) = some (some (.agg #[.int .i64 0, .int .i64 0, .int .i64 0, .int .i64 0, .slice none 0 0, .slice none 0 0, .slice none 0 0]), 7, 104) := by kernel_rfl
theorem rBlocks_len (l : List UInt8) : ∀ (k : Nat) (s : Rst) (x : List Int), x ∈ (rBlocks l k s).1 → x.length ≤ 16
 | 0, s, x, h => by cases h
 | k + 1, s, x, h => by
  rw [rBlocks_succ] at h
  rcases List.mem_cons.1 h with rfl | h
  ·exact rList_len l s
  ·exact rBlocks_len l k _ x h
theorem rTasks_len (l : List UInt8) : ∀ (k : Nat) (s : Rst) (T : TkP), T ∈ (rTasks l k s).1 → T.bl.length ≤ 1000 ∧ T.ou.length ≤ 1000 ∧ T.co.length ≤ 1000
 | 0, s, T, h => by cases h
 | k + 1, s, T, h => by
  rw [rTasks_succ] at h
  rcases List.mem_cons.1 h with rfl | h
  ·rw [rTask_eq rfl rfl rfl rfl rfl rfl rfl]
   exact ⟨Nat.le_trans (rList_len _ _) (by omega), Nat.le_trans (rList_len _ _) (by omega), Nat.le_trans (rRow_len _ _) (by omega)⟩
  ·exact rTasks_len l k _ T h
theorem imF_new (w : World) (a b c d : Int) (x y z : Value) : (w.alloc (.cells #[.int .i64 a, .int .i64 b, .int .i64 c, .int .i64 d, x, y, z] 26)).rowIs w.heap.size 26 7 (imF a b c d x y z) :=
 (rowIs_new w #[.int .i64 a, .int .i64 b, .int .i64 c, .int .i64 d, x, y, z] 26 7 rfl).congr fun i hi => by
  match i, hi with
  | 0, _ => rfl
  | 1, _ => rfl
  | 2, _ => rfl
  | 3, _ => rfl
  | 4, _ => rfl
  | 5, _ => rfl
  | 6, _ => rfl
def ImV.Firm (x : ImV) (lo : Nat) (w : World) (K : ImP) : Prop := ∃ P : World → Prop, P w ∧ (∀ W W' y, W.grownBy W' y → (∀ b, y = some b → b < lo) → P W → P W') ∧ ∀ W, P W → x.Is W K
theorem ImV.Firm.is {x : ImV} {lo : Nat} {w : World} {K : ImP} (h : x.Firm lo w K) : x.Is w K := by obtain ⟨P, h1, _, h3⟩ := h; exact h3 _ h1
theorem ImV.Firm.step {x : ImV} {lo : Nat} {w W : World} {K : ImP} {y : Option Nat} (h : x.Firm lo w K) (hg : w.grownBy W y) (hy : ∀ b, y = some b → b < lo) : x.Firm lo W K := by
 obtain ⟨P, h1, h2, h3⟩ := h
 exact ⟨P, h2 _ _ _ hg hy h1, h2, h3⟩
theorem ImV.Firm.mono {x : ImV} {lo lo' : Nat} {w : World} {K : ImP} (h : x.Firm lo w K) (hl : lo' ≤ lo) : x.Firm lo' w K := by
 obtain ⟨P, h1, h2, h3⟩ := h
 exact ⟨P, h1, fun W W' y hg hy => h2 W W' y hg (fun b e => Nat.lt_of_lt_of_le (hy b e) hl), h3⟩
theorem ImV.Firm.kep {x : ImV} {lo g : Nat} {w W : World} {K : ImP} (h : x.Firm lo w K) (hk : Kep g w W) (hg : g < lo) : x.Firm lo W K := h.step hk.grown (fun b e => by cases e; exact hg)
theorem ImV.Firm.below {x : ImV} {lo : Nat} {w W : World} {K : ImP} (h : x.Firm lo w K) (hb : Below w.heap.size w W) : x.Firm lo W K := h.step (y := none) (grown_none hb) (fun _ e => by cases e)
theorem image_rd (g : Nat) (s : ByteArray) (st st' : Rst) (K : ImP) (w : World) (h : Rdr 90 g s st w) (hs : s.size ≤ 1000000) (hf : Fine s.data.toList st) (hN : Nms w) (hg1 : 1 < g) (hq : rImage s.data.toList st = (K, st')) :
  Calls Tryz.prog 43 #[.pointer (some ⟨g, 0, none⟩)] w fun e w' => ∃ x : ImV, e = .returned x.v ∧ x.Firm w.heap.size w' K ∧ Rdr 90 g s st' w' ∧ Kep g w w' := by
 obtain ⟨⟨a, s1⟩, q1⟩ : ∃ p, rNum s.data.toList st = p := ⟨_, rfl⟩
 obtain ⟨⟨b, s2⟩, q2⟩ : ∃ p, rNum s.data.toList s1 = p := ⟨_, rfl⟩
 obtain ⟨⟨c, s3⟩, q3⟩ : ∃ p, rNum s.data.toList s2 = p := ⟨_, rfl⟩
 obtain ⟨⟨d, s4⟩, q4⟩ : ∃ p, rNum s.data.toList s3 = p := ⟨_, rfl⟩
 obtain ⟨⟨l5, s5⟩, q5⟩ : ∃ p, rList s.data.toList s4 = p := ⟨_, rfl⟩
 obtain ⟨⟨n6, s6⟩, q6⟩ : ∃ p, rCount s.data.toList 8 s5 = p := ⟨_, rfl⟩
 obtain ⟨⟨l7, s7⟩, q7⟩ : ∃ p, rBlocks s.data.toList n6.toNat s6 = p := ⟨_, rfl⟩
 obtain ⟨⟨n8, s8⟩, q8⟩ : ∃ p, rCount s.data.toList 8 s7 = p := ⟨_, rfl⟩
 obtain ⟨⟨l9, s9⟩, q9⟩ : ∃ p, rTasks s.data.toList n8.toNat s8 = p := ⟨_, rfl⟩
 rw [rImage_eq q1 q2 q3 q4 q5 q6 q7 q8 q9] at hq
 have HV : Hid (K = ⟨a, b, c, d, l5, l7, l9⟩ ∧ st' = s9) := by cases hq; exact ⟨rfl, rfl⟩
 have f1 := rNum_fine hf; rw [q1] at f1
 have f2 := rNum_fine f1; rw [q2] at f2
 have f3 := rNum_fine f2; rw [q3] at f3
 have f4 := rNum_fine f3; rw [q4] at f4
 have f5 := rList_fine f4; rw [q5] at f5
 have f6 := rCount_fine (m := 8) f5; rw [q6] at f6
 have f7 := rBlocks_fine n6.toNat f6; rw [q7] at f7
 have f8 := rCount_fine (m := 8) f7; rw [q8] at f8
 have p6 := rCount_pos (l := s.data.toList) (s := s5) (m := 8) (by decide); rw [q6] at p6
 have p8 := rCount_pos (l := s.data.toList) (s := s7) (m := 8) (by decide); rw [q8] at p8
 obtain ⟨N6, rfl⟩ := Int.eq_ofNat_of_zero_le p6.1
 obtain ⟨N8, rfl⟩ := Int.eq_ofNat_of_zero_le p8.1
 have p6 : (N6 : Int) ≤ 8 := p6.2
 have p8 : (N8 : Int) ≤ 8 := p8.2
 rw [Int.toNat_natCast] at q7 q9
 have C1 := Lib.hid (fun W hW => number_any g s st s1 a W hW hs q1)
 have C2 := Lib.hid (fun W hW => number_any g s s1 s2 b W hW hs q2)
 have C3 := Lib.hid (fun W hW => number_any g s s2 s3 c W hW hs q3)
 have C4 := Lib.hid (fun W hW => number_any g s s3 s4 d W hW hs q4)
 have C5 := Lib.hid (fun W hW => list_any g s s4 s5 l5 W hW hs q5)
 have C6 := Lib.hid (fun W hW => count_any g s s5 s6 8 N6 W hW hs q6)
 have C8 := Lib.hid (fun W hW => count_any g s s7 s8 8 N8 W hW hs q8)
 have hlt := World.rowIs.lt h
 have HL5 : Hid (l5.length ≤ 1000) := by have := rList_len s.data.toList s4; rw [q5] at this; exact Nat.le_trans this (by omega)
 have HN := Lib.hid hN
 have HQ7 := Lib.hid q7
 have HQ9 := Lib.hid q9
 have HF6 := Lib.hid f6
 have HF8 := Lib.hid f8
 obtain ⟨o, ho⟩ : ∃ o, o = Obj.cells #[.int .i64 0, .int .i64 0, .int .i64 0, .int .i64 0, .slice none 0 0, .slice none 0 0, .slice none 0 0] 26 := ⟨_, rfl⟩
 have H0 := Lib.hid (h.below (below_alloc w o))
 have K0 := Lib.hid (Kep.of (g := g) (below_alloc w o))
 have S0 : Hid (w.heap.size + 1 ≤ (w.alloc o).heap.size) := by show _ ≤ _; simp
 have D0 := Lib.hid (imF_new w 0 0 0 0 (.slice none 0 0) (.slice none 0 0) (.slice none 0 0))
 rw [← ho] at D0
 subst ho
 obtain ⟨bi0, bi1, bi2, bi3, bi4⟩ := info_parts sl_info
 clear h hq q1 q2 q3 q4 q5 q6 q7 q8 q9 f1 f2 f3 f4 f5 f6 f7 f8 hf hN
 have hbg : w.heap.size ≠ g := by omega
 have hg2 : g < w.heap.size + 1 := by omega
 go_enter Tryz.func43, Tryz.ntmps43
 go_upto_region 2 with (first
  | (go_at_call 84; refine (C5.out _ H4.out).mono ?_; rintro e w5 ⟨a5, n5, c5, rfl, r5, h5, k5⟩; have H5 := Lib.hid h5; have K5 := Lib.hid (K4.out.trans k5); have S5 := Lib.hid (Nat.le_trans S4.out k5.size); have RA := Lib.hid (r5.mono S4.out); have D5 := Lib.hid (rowIs_kep D4.out k5 hbg); clear h5 k5 r5)
  | (go_at_call 83; refine (C4.out _ H3.out).mono ?_; rintro e w4 ⟨rfl, h4, k4⟩; have H4 := Lib.hid h4; have K4 := Lib.hid (K3.out.trans k4); have S4 := Lib.hid (Nat.le_trans S3.out k4.size); have D4 := Lib.hid (rowIs_kep D3.out k4 hbg); clear h4 k4)
  | (go_at_call 83; refine (C3.out _ H2.out).mono ?_; rintro e w3 ⟨rfl, h3, k3⟩; have H3 := Lib.hid h3; have K3 := Lib.hid (K2.out.trans k3); have S3 := Lib.hid (Nat.le_trans S2.out k3.size); have D3 := Lib.hid (rowIs_kep D2.out k3 hbg); clear h3 k3)
  | (go_at_call 83; refine (C2.out _ H1.out).mono ?_; rintro e w2 ⟨rfl, h2, k2⟩; have H2 := Lib.hid h2; have K2 := Lib.hid (K1.out.trans k2); have S2 := Lib.hid (Nat.le_trans S1.out k2.size); have D2 := Lib.hid (rowIs_kep D1.out k2 hbg); clear h2 k2)
  | (go_at_call 83; refine (C1.out _ H0.out).mono ?_; rintro e w1 ⟨rfl, h1, k1⟩; have H1 := Lib.hid h1; have K1 := Lib.hid (K0.out.trans k1); have S1 := Lib.hid (Nat.le_trans S0.out k1.size); have D1 := Lib.hid (rowIs_kep D0.out k1 hbg); clear h1 k1))
 have LA := below_alloc w5 (.cells #[.int .i64 a, .int .i64 b, .int .i64 c, .int .i64 d, .slice a5 n5 c5, .slice none 0 0, .slice none 0 0] 26)
 have IM := imF_new w5 a b c d (.slice a5 n5 c5) (.slice none 0 0) (.slice none 0 0)
 have hsz : (w5.alloc (.cells #[.int .i64 a, .int .i64 b, .int .i64 c, .int .i64 d, .slice a5 n5 c5, .slice none 0 0, .slice none 0 0] 26)).heap.size = w5.heap.size + 1 := by simp
 generalize w5.alloc (.cells #[.int .i64 a, .int .i64 b, .int .i64 c, .int .i64 d, .slice a5 n5 c5, .slice none 0 0, .slice none 0 0] 26) = W5 at LA IM hsz ⊢
 obtain ⟨x0, hx0⟩ : ∃ x : Sl, x = ⟨a5, n5, c5⟩ := ⟨_, rfl⟩
 have hmid : w.heap.size < w5.heap.size := S5.out
 have RB : RowB (w.heap.size + 1) w5.heap.size W5 x0 l5 := by
  subst hx0
  exact ⟨RA.out.kep (Kep.of LA) hg2, fun hn p hp => row_lt RA.out.1 hn hp⟩
 have hP := Lib.hid (rowB_old (g := w.heap.size) (bi := w5.heap.size) (base := w5.heap.size + 1) (lo := w.heap.size + 1) (t := x0) (l := l5) (Nat.lt_succ_self _) (Nat.lt_succ_self _))
 have hI := Lib.hid (isS_old (w5.heap.size + 1) (bi := w5.heap.size) (Nat.lt_succ_self _))
 have hG := Lib.hid (isS_grow (w5.heap.size + 1))
 have HL0 : Hid (Lp 22 1 (fun s : Sl => [s.v]) (IsS (w5.heap.size + 1)) OffS g w5.heap.size (w5.heap.size + 1) s w (fun W => RowB (w.heap.size + 1) w5.heap.size W x0 l5) s5 (imF a b c d x0.v (.slice none 0 0) (.slice none 0 0)) (.slice none 0 0) [] [] W5) := by
  subst hx0
  exact ⟨H5.out.below LA, K5.out.trans (Kep.of LA), IM, World.rowIs.of_block D5.out (LA.block _ hmid), OwR.nil _, RB, hlt, hmid, Nat.lt_succ_self _, Nat.le_of_eq hsz.symm⟩
 rw [show Value.slice a5 n5 c5 = x0.v by rw [hx0]; rfl]
 clear hx0 RB IM LA hsz RA D5 H5 K5
 generalize w5.heap.size = bi at hP hI hG HL0 hmid ⊢
 obtain ⟨base, hbase⟩ : ∃ b, b = bi + 1 := ⟨_, rfl⟩
 rw [← hbase] at hP hI hG HL0
 obtain ⟨Pre, hPre⟩ : ∃ P : World → Prop, P = (fun W => RowB (w.heap.size + 1) bi W x0 l5) := ⟨_, rfl⟩
 rw [← hPre] at hP HL0
 go_wp2_with (go_at_call 85; refine (C6.out _ HL0.out.rd).mono ?_; rintro e w6 ⟨rfl, h6, k6⟩; have HL1 := Lib.hid (HL0.out.call hP.out hI.out k6 h6); clear h6 k6)
 go_loopw [17] (fun j wr => ∃ (kk : Nat) (v0 : Value) (VV : List Sl) (L1 : List (List Int)) (stk : Rst), kk ≤ N6 ∧ j = .int .i64 kk ∧ Hid (VV.length = kk) ∧ Hid (rBlocks s.data.toList N6 s6 = (L1 ++ (rBlocks s.data.toList (N6 - kk) stk).1, (rBlocks s.data.toList (N6 - kk) stk).2)) ∧ Hid (Fine s.data.toList stk) ∧
  Hid (Lp 22 1 (fun s : Sl => [s.v]) (IsS base) OffS g bi base s w Pre stk (imF a b c d x0.v v0 (.slice none 0 0)) v0 VV L1 wr)) (fun j _ => N6 - (intOf j).toNat)
 case atStart => exact ⟨0, _, [], [], s6, by omega, rfl, rfl, rfl, HF6, HL1⟩
 case round =>
  obtain ⟨kk, v0, VV, L1, stk, hk, rfl, HVV, HB, HF, HL⟩ := hrel
  by_cases hlk : kk < N6
  ·obtain ⟨⟨l1, st1⟩, e1⟩ : ∃ p, rList s.data.toList stk = p := ⟨_, rfl⟩
   have C := Lib.hid (fun W hW => list_any g s stk st1 l1 W hW hs e1)
   have HB2 : Hid (rBlocks s.data.toList N6 s6 = ((L1 ++ [l1]) ++ (rBlocks s.data.toList (N6 - (kk + 1)) st1).1, (rBlocks s.data.toList (N6 - (kk + 1)) st1).2)) := by
    show _ = _
    rw [HB.out, show N6 - kk = (N6 - (kk + 1)) + 1 by omega]
    rw [rBlocks_succ, e1, List.append_assoc]
    rfl
   have HF2 : Hid (Fine s.data.toList st1) := by
    have := rList_fine HF.out
    rw [e1] at this; exact this
   have hP := hP.out
   have hI := hI.out
   have hG := hG.out
   clear e1
   go_wp2_with fail
   refine region_gh (θ := Option Sl × Option Nat × Option (Nat × Nat)) 40 8 4 (fun t => ([3, 4, 5, 7] : List Nat).getD t 0) (fun i => ([19, 20, 21, 22, 23, 24, 25, 40] : List Nat).getD i 0) (fun i => ([[], [0], [], [2], [3], [1, 4], [], [6, 5]] : List (List Nat)).getD i []) (fun (gs : Option Sl × Option Nat × Option (Nat × Nat)) i v => ([(fun _ v => v = .pointer (some ⟨bi, 5, none⟩)), (fun _ v => v = v0), (fun _ v => v = .pointer (some ⟨g, 0, none⟩)), (fun gs v => ∃ t : Sl, gs.1 = some t ∧ v = .slice t.a t.n t.c), (fun gs v => ∃ β : Nat, gs.2.1 = some β ∧ v = .slice (some ⟨β, 0, none⟩) 1 1), (fun gs v => ∃ x : Nat × Nat, gs.2.2 = some x ∧ v = .slice (some ⟨x.1, 0, none⟩) (kk + 1) x.2), (fun _ v => v = .pointer (some ⟨bi, 5, none⟩)), (fun _ _ => True)] : List (Option Sl × Option Nat × Option (Nat × Nat) → Value → Prop)).getD i (fun _ _ => False) gs v) (fun j (gs : Option Sl × Option Nat × Option (Nat × Nat)) W => ([(fun gs W => gs = (none, none, none) ∧ Lp 22 1 (fun s : Sl => [s.v]) (IsS base) OffS g bi base s w Pre stk (imF a b c d x0.v v0 (.slice none 0 0)) v0 VV L1 W), (fun gs W => ∃ t : Sl, gs = (some t, none, none) ∧ (Lp 22 1 (fun s : Sl => [s.v]) (IsS base) OffS g bi base s w Pre st1 (imF a b c d x0.v v0 (.slice none 0 0)) v0 VV L1 W) ∧ (IsS base) W t l1 ∧ OffS t v0.ownBlock), (fun gs W => ∃ (t : Sl) (β : Nat), gs = (some t, some β, none) ∧ (Lp 22 1 (fun s : Sl => [s.v]) (IsS base) OffS g bi base s w Pre st1 (imF a b c d x0.v v0 (.slice none 0 0)) v0 VV L1 W) ∧ ((IsS base) W t l1 ∧ OffS t v0.ownBlock) ∧ ∀ j u, ((fun s : Sl => [s.v]) t)[j]? = some u → W.cell? ⟨β, j, none⟩ = some u), (fun gs W => ∃ (t : Sl) (β : Nat) (x : Nat × Nat), gs = (some t, some β, some x) ∧ (Lp 22 1 (fun s : Sl => [s.v]) (IsS base) OffS g bi base s w Pre st1 (imF a b c d x0.v v0 (.slice none 0 0)) (.slice (some ⟨x.1, 0, none⟩) (kk + 1) x.2) (VV ++ [t]) (L1 ++ [l1]) W)), (fun gs W => ∃ (t : Sl) (β : Nat) (x : Nat × Nat), gs = (some t, some β, some x) ∧ (Lp 22 1 (fun s : Sl => [s.v]) (IsS base) OffS g bi base s w Pre st1 (imF a b c d x0.v (.slice (some ⟨x.1, 0, none⟩) (kk + 1) x.2) (.slice none 0 0)) (.slice (some ⟨x.1, 0, none⟩) (kk + 1) x.2) (VV ++ [t]) (L1 ++ [l1]) W))] : List (Option Sl × Option Nat × Option (Nat × Nat) → World → Prop)).getD j (fun _ _ => False) gs W) (none, none, none) (by kernel_rfl) rfl (fun i j hi hj => (by decide : ∀ i, i < 8 → ∀ j, j < 8 → (fun i => ([19, 20, 21, 22, 23, 24, 25, 40] : List Nat).getD i 0) i = (fun i => ([19, 20, 21, 22, 23, 24, 25, 40] : List Nat).getD i 0) j → i = j) i hi j hj) rfl (fun s t hs ht => (by decide : ∀ s, s < 4 → ∀ t, t < 4 → (fun t => ([3, 4, 5, 7] : List Nat).getD t 0) s = (fun t => ([3, 4, 5, 7] : List Nat).getD t 0) t → s = t) s hs t ht) (by decide) (fun t ht => (by decide : ∀ t, t < 3 → (fun t => ([3, 4, 5, 7] : List Nat).getD t 0) t ∈ (fun i => ([[], [0], [], [2], [3], [1, 4], [], [6, 5]] : List (List Nat)).getD i []) ((fun t => ([3, 4, 5, 7] : List Nat).getD t 0) (t + 1))) t (by omega)) ?_ ?_ ⟨rfl, HL.out.below hP hI (blw_dr _)⟩ ?_
   ·intro i o ho
    iterate 8 (rcases i with _ | i; (obtain rfl := Option.some.inj ho; first | exact ⟨Or.inl ⟨rfl, by decide⟩, rfl, by decide, by decide⟩ | exact ⟨Or.inr ⟨rfl, by decide, fun _ _ _ h => h⟩, rfl, by decide, by decide⟩))
    simp at ho
   ·intro i o j gs ho a' W hj hS hoth hd hfr
    have oS0 : a'.eval (.tmp 0) = .pointer (some ⟨g, 0, none⟩) := hoth 0 (by decide)
    have oS3 : a'.eval (.tmp 3) = .pointer (some ⟨bi, 0, none⟩) := hoth 3 (by decide)
    obtain ⟨ρ, hρ⟩ : ∃ ρ, ρ = a'.eval := ⟨_, rfl⟩
    have hc : ∀ v, ρ (.const v) = v := fun v => by rw [hρ]; rfl
    have hfn : ∀ f, ρ (.func f) = .func (.func f) #[] #[] := fun f => by rw [hρ]; rfl
    have qS0 : ρ (.tmp 0) = .pointer (some ⟨g, 0, none⟩) := by rw [hρ]; exact oS0
    have qS3 : ρ (.tmp 3) = .pointer (some ⟨bi, 0, none⟩) := by rw [hρ]; exact oS3
    clear hoth
    match i, ho with
    | 0, ho =>
     obtain rfl := Option.some.inj ho
     refine Or.inl ⟨by decide, ?_⟩
     rw [← hρ]
     clear hd hρ
     exact ⟨.pointer (some ⟨bi, 5, none⟩), by simp only [execOp]; go_simp, rfl⟩
    | 1, ho =>
     obtain rfl := Option.some.inj ho
     have e0 : (a'.eval (.tmp 19)) = .pointer (some ⟨bi, 5, none⟩) := hd 0 (by decide)
     refine Or.inl ⟨by decide, ?_⟩
     rw [← hρ]
     rw [← hρ] at e0
     clear hd hρ
     have hj2 : j ≤ 2 := hfr 5 2 (by decide) (by decide)
     have c5 : W.cell? ⟨bi, 5, none⟩ = some v0 := by
      match j, hj2, hS with
      | 0, _, hS => have hS : (fun gs W => gs = (none, none, none) ∧ Lp 22 1 (fun s : Sl => [s.v]) (IsS base) OffS g bi base s w Pre stk (imF a b c d x0.v v0 (.slice none 0 0)) v0 VV L1 W : Option Sl × Option Nat × Option (Nat × Nat) → World → Prop) gs W := hS; exact World.rowIs.cell hS.2.im (i := 5) (by omega)
      | 1, _, hS => have hS : (fun gs W => ∃ t : Sl, gs = (some t, none, none) ∧ (Lp 22 1 (fun s : Sl => [s.v]) (IsS base) OffS g bi base s w Pre st1 (imF a b c d x0.v v0 (.slice none 0 0)) v0 VV L1 W) ∧ (IsS base) W t l1 ∧ OffS t v0.ownBlock : Option Sl × Option Nat × Option (Nat × Nat) → World → Prop) gs W := hS; obtain ⟨_, _, h, _⟩ := hS; exact World.rowIs.cell h.im (i := 5) (by omega)
      | 2, _, hS => have hS : (fun gs W => ∃ (t : Sl) (β : Nat), gs = (some t, some β, none) ∧ (Lp 22 1 (fun s : Sl => [s.v]) (IsS base) OffS g bi base s w Pre st1 (imF a b c d x0.v v0 (.slice none 0 0)) v0 VV L1 W) ∧ ((IsS base) W t l1 ∧ OffS t v0.ownBlock) ∧ ∀ j u, ((fun s : Sl => [s.v]) t)[j]? = some u → W.cell? ⟨β, j, none⟩ = some u : Option Sl × Option Nat × Option (Nat × Nat) → World → Prop) gs W := hS; obtain ⟨_, _, _, h, _⟩ := hS; exact World.rowIs.cell h.im (i := 5) (by omega)
     exact ⟨v0, by simp only [execOp]; go_simp, rfl⟩
    | 2, ho =>
     obtain rfl := Option.some.inj ho
     refine Or.inl ⟨by decide, ?_⟩
     rw [← hρ]
     clear hd hρ
     exact ⟨.pointer (some ⟨g, 0, none⟩), by simp only [execOp]; go_simp, rfl⟩
    | 3, ho =>
     obtain rfl := Option.some.inj ho
     have e2 : (a'.eval (.tmp 21)) = .pointer (some ⟨g, 0, none⟩) := hd 2 (by decide)
     refine Or.inr ⟨?_, 0, by decide, rfl⟩
     intro t ht hti htj K hK
     have ht0 : t = 0 := by match t, ht, hti with
      | 0, _, h => rfl
      | 1, _, h => exact absurd h (by decide)
      | 2, _, h => exact absurd h (by decide)
      | 3, _, h => exact absurd h (by decide)
      | k + 4, ht, _ => omega
     subst ht0
     subst htj
     clear hd
     have r2 : (ρ (.tmp 21)) = .pointer (some ⟨g, 0, none⟩) := by rw [hρ]; exact e2
     have hS : (fun gs W => gs = (none, none, none) ∧ Lp 22 1 (fun s : Sl => [s.v]) (IsS base) OffS g bi base s w Pre stk (imF a b c d x0.v v0 (.slice none 0 0)) v0 VV L1 W : Option Sl × Option Nat × Option (Nat × Nat) → World → Prop) gs W := hS
     obtain ⟨hgs, hL⟩ := hS
     subst hgs
     refine Kd.Gives.wp (R := fun v' W' => ∃ t : Sl, v' = .slice t.a t.n t.c ∧ RowA W.heap.size W' t.a t.n l1 ∧ Rdr 90 g s st1 W' ∧ Kep g W W') (Kd.Gives.enter (f := 84) (args := #[.pointer (some ⟨g, 0, none⟩)]) (by rw [← hρ]; clear hρ; simp only [execOp]; go_simp) ((C.out W hL.rd).mono ?_)) ?_
     ·rintro e w8 ⟨a, n, c, rfl, h1, h2, h3⟩; exact ⟨_, rfl, ⟨a, n, c⟩, rfl, h1, h2, h3⟩
     ·rintro v' W' ⟨t, rfl, h1, h2, h3⟩
      exact hK _ _ (some t, none, none) ⟨t, rfl, rfl⟩ (by
       intro k v hk
       match k, hk with
       | 0, hk => exact hk
       | 1, hk => exact hk
       | 2, hk => exact hk
       | 3, hk => obtain ⟨_, e, _⟩ := hk; cases e
       | 4, hk => obtain ⟨_, e, _⟩ := hk; cases e
       | 5, hk => obtain ⟨_, e, _⟩ := hk; cases e
       | 6, hk => exact hk
       | 7, hk => exact hk
       | k + 8, hk => exact hk) ⟨t, rfl, hL.call hP hI h3 h2, h1.mono hL.sz, fun _ p hp e => by have h4 := h1.2 p hp; have h5 := (hL.ow.own.lt _ e).2; omega⟩
    | 4, ho =>
     obtain rfl := Option.some.inj ho
     have e3 : ∃ t : Sl, gs.1 = some t ∧ (a'.eval (.tmp 22)) = .slice t.a t.n t.c := hd 3 (by decide)
     refine Or.inr ⟨?_, 1, by decide, rfl⟩
     intro t ht hti htj K hK
     have ht0 : t = 1 := by match t, ht, hti with
      | 0, _, h => exact absurd h (by decide)
      | 1, _, h => rfl
      | 2, _, h => exact absurd h (by decide)
      | 3, _, h => exact absurd h (by decide)
      | k + 4, ht, _ => omega
     subst ht0
     subst htj
     clear hd
     have r3 : ∃ t : Sl, gs.1 = some t ∧ (ρ (.tmp 22)) = .slice t.a t.n t.c := by rw [hρ]; exact e3
     have hS : (fun gs W => ∃ t : Sl, gs = (some t, none, none) ∧ (Lp 22 1 (fun s : Sl => [s.v]) (IsS base) OffS g bi base s w Pre st1 (imF a b c d x0.v v0 (.slice none 0 0)) v0 VV L1 W) ∧ (IsS base) W t l1 ∧ OffS t v0.ownBlock : Option Sl × Option Nat × Option (Nat × Nat) → World → Prop) gs W := hS
     obtain ⟨t, hgs, hL, hI1, hO1⟩ := hS
     subst hgs
     obtain ⟨t', ht', r⟩ := r3
     cases ht'
     have hbA := below_alloc W (.cells #[.slice t.a t.n t.c] 22)
     exact Kd.wp_value (v := .slice (some ⟨W.heap.size, 0, none⟩) 1 1) (w' := W.alloc (.cells #[.slice t.a t.n t.c] 22)) (by rw [← hρ]; clear hρ; simp only [execOp]; go_simp) (hK _ _ (some t, some W.heap.size, none) ⟨_, rfl, rfl⟩ (by
      intro k v hk
      match k, hk with
      | 0, hk => exact hk
      | 1, hk => exact hk
      | 2, hk => exact hk
      | 3, hk => exact hk
      | 4, hk => obtain ⟨_, e, _⟩ := hk; cases e
      | 5, hk => obtain ⟨_, e, _⟩ := hk; cases e
      | 6, hk => exact hk
      | 7, hk => exact hk
      | k + 8, hk => exact hk) ⟨t, _, rfl, hL.below hP hI hbA, ⟨hI _ _ none t l1 (grown_none hbA) (fun b e => by cases e) hI1, hO1⟩, fun j u hj => Kd.cells_new W #[.slice t.a t.n t.c] 22 j u hj⟩)
    | 5, ho =>
     obtain rfl := Option.some.inj ho
     have e1 : (a'.eval (.tmp 20)) = v0 := hd 1 (by decide)
     have e4 : ∃ β : Nat, gs.2.1 = some β ∧ (a'.eval (.tmp 23)) = .slice (some ⟨β, 0, none⟩) 1 1 := hd 4 (by decide)
     refine Or.inr ⟨?_, 2, by decide, rfl⟩
     intro t ht hti htj K hK
     have ht0 : t = 2 := by match t, ht, hti with
      | 0, _, h => exact absurd h (by decide)
      | 1, _, h => exact absurd h (by decide)
      | 2, _, h => rfl
      | 3, _, h => exact absurd h (by decide)
      | k + 4, ht, _ => omega
     subst ht0
     subst htj
     clear hd
     have r1 : (ρ (.tmp 20)) = v0 := by rw [hρ]; exact e1
     have r4 : ∃ β : Nat, gs.2.1 = some β ∧ (ρ (.tmp 23)) = .slice (some ⟨β, 0, none⟩) 1 1 := by rw [hρ]; exact e4
     have hS : (fun gs W => ∃ (t : Sl) (β : Nat), gs = (some t, some β, none) ∧ (Lp 22 1 (fun s : Sl => [s.v]) (IsS base) OffS g bi base s w Pre st1 (imF a b c d x0.v v0 (.slice none 0 0)) v0 VV L1 W) ∧ ((IsS base) W t l1 ∧ OffS t v0.ownBlock) ∧ ∀ j u, ((fun s : Sl => [s.v]) t)[j]? = some u → W.cell? ⟨β, j, none⟩ = some u : Option Sl × Option Nat × Option (Nat × Nat) → World → Prop) gs W := hS
     obtain ⟨t, β, hgs, hL, ⟨hI1, hO1⟩, hcs⟩ := hS
     subst hgs
     obtain ⟨β', hβ', e4'⟩ := e4
     cases hβ'
     have hkk : VV.length = kk := HVV.out
     exact wp_append_at W (.tmp 20) (.tmp 23) 23 rfl base 22 bi0 (.slice none 0 0) 1 24 Tryz.underlying23 bi1 bi2 bi3 bi4 rfl (by decide) v0 VV.length (VV.flatMap (fun s : Sl => [s.v])) e1 hL.ow.own ⟨β, 0, none⟩ 1 1 ((fun s : Sl => [s.v]) t) e4' rfl (fun j u hj => by rw [Kd.add_plain', Nat.zero_add]; exact hcs j u hj) (fun u hu => by simp at hu; subst hu; rfl) (by unfold maxLen; omega) (by omega) hL.sz (fun v' W' h1 h2 h3 => by
      obtain ⟨γ, cap, rfl, _, _⟩ := h1.form (by omega)
      rw [hkk]
      refine hK _ _ (some t, some β, some (γ, cap)) ⟨_, rfl, rfl⟩ (by
       intro k v hk
       match k, hk with
       | 0, hk => exact hk
       | 1, hk => exact hk
       | 2, hk => exact hk
       | 3, hk => exact hk
       | 4, hk => exact hk
       | 5, hk => obtain ⟨_, e, _⟩ := hk; cases e
       | 6, hk => exact hk
       | 7, hk => exact hk
       | k + 8, hk => exact hk) ⟨t, β, (γ, cap), rfl, ?_⟩
      have := hL.step hP hG h1 h2 h3 hI1 hO1
      rw [hkk] at this
      exact this)
    | 6, ho =>
     obtain rfl := Option.some.inj ho
     refine Or.inl ⟨by decide, ?_⟩
     rw [← hρ]
     clear hd hρ
     exact ⟨.pointer (some ⟨bi, 5, none⟩), by simp only [execOp]; go_simp, rfl⟩
    | 7, ho =>
     obtain rfl := Option.some.inj ho
     have e6 : (a'.eval (.tmp 25)) = .pointer (some ⟨bi, 5, none⟩) := hd 6 (by decide)
     have e5 : ∃ x : Nat × Nat, gs.2.2 = some x ∧ (a'.eval (.tmp 24)) = .slice (some ⟨x.1, 0, none⟩) (kk + 1) x.2 := hd 5 (by decide)
     refine Or.inr ⟨?_, 3, by decide, rfl⟩
     intro t ht hti htj K hK
     have ht0 : t = 3 := by match t, ht, hti with
      | 0, _, h => exact absurd h (by decide)
      | 1, _, h => exact absurd h (by decide)
      | 2, _, h => exact absurd h (by decide)
      | 3, _, h => rfl
      | k + 4, ht, _ => omega
     subst ht0
     subst htj
     clear hd
     have r6 : (ρ (.tmp 25)) = .pointer (some ⟨bi, 5, none⟩) := by rw [hρ]; exact e6
     have r5 : ∃ x : Nat × Nat, gs.2.2 = some x ∧ (ρ (.tmp 24)) = .slice (some ⟨x.1, 0, none⟩) (kk + 1) x.2 := by rw [hρ]; exact e5
     have hS : (fun gs W => ∃ (t : Sl) (β : Nat) (x : Nat × Nat), gs = (some t, some β, some x) ∧ (Lp 22 1 (fun s : Sl => [s.v]) (IsS base) OffS g bi base s w Pre st1 (imF a b c d x0.v v0 (.slice none 0 0)) (.slice (some ⟨x.1, 0, none⟩) (kk + 1) x.2) (VV ++ [t]) (L1 ++ [l1]) W) : Option Sl × Option Nat × Option (Nat × Nat) → World → Prop) gs W := hS
     obtain ⟨t, β, x, hgs, hL⟩ := hS
     subst hgs
     obtain ⟨x', hx', r⟩ := r5
     cases hx'
     have c5 : W.cell? ⟨bi, 5, none⟩ = some v0 := World.rowIs.cell hL.im (i := 5) (by omega)
     have f5 := World.rowIs.frozen hL.im 5
     exact Kd.wp_skip (w' := W.setCell ⟨bi, 5, none⟩ (.slice (some ⟨x.1, 0, none⟩) (kk + 1) x.2)) (by rw [← hρ]; clear hρ; simp only [execOp]; go_simp) (hK _ _ _ trivial (fun _ _ h => h) ⟨t, β, x, rfl, hL.store hP hI 5 (.slice (some ⟨x.1, 0, none⟩) (kk + 1) x.2) (fun i hi => by
      match i, hi with
      | 0, _ => rfl
      | 1, _ => rfl
      | 2, _ => rfl
      | 3, _ => rfl
      | 4, _ => rfl
      | 5, _ => rfl
      | 6, _ => rfl)⟩)
    | k + 8, ho => simp at ho
   ·intro a' W gs hsz hdef hoth hok hS
    have hcov : ∀ i, i < 8 → (fun i => ([19, 20, 21, 22, 23, 24, 25, 40] : List Nat).getD i 0) i < 40 → 19 ≤ (fun i => ([19, 20, 21, 22, 23, 24, 25, 40] : List Nat).getD i 0) i ∧ (fun i => ([19, 20, 21, 22, 23, 24, 25, 40] : List Nat).getD i 0) i < 26 := by decide
    obtain ⟨us, hu1, _, rfl⟩ := Kd.act_mix 19 7 rfl hsz hdef (by simp) (fun k hk => by
     by_cases hkT : k < 40
     ·exact hoth k (fun i hi e => by have := hcov i hi (Nat.lt_of_le_of_lt (Nat.le_of_eq e) hkT); dsimp only at this e; omega)
     ·rw [eval_far (by rw [hsz]; omega), eval_far (by simp; omega)])
    have hS : (fun gs W => ∃ (t : Sl) (β : Nat) (x : Nat × Nat), gs = (some t, some β, some x) ∧ (Lp 22 1 (fun s : Sl => [s.v]) (IsS base) OffS g bi base s w Pre st1 (imF a b c d x0.v (.slice (some ⟨x.1, 0, none⟩) (kk + 1) x.2) (.slice none 0 0)) (.slice (some ⟨x.1, 0, none⟩) (kk + 1) x.2) (VV ++ [t]) (L1 ++ [l1]) W) : Option Sl × Option Nat × Option (Nat × Nat) → World → Prop) gs W := hS
    obtain ⟨t, β, x, _, hL⟩ := hS
    match us, hu1 with
    | [u19, u20, u21, u22, u23, u24, u25], _ =>
     have HL2 := Lib.hid hL
     clear hL hok hoth hcov
     go_wp2
     go_roundw
     case rel => exact ⟨kk + 1, _, VV ++ [t], L1 ++ [l1], st1, by omega, by go_num, (by show _ = _; rw [List.length_append, HVV.out]; rfl), HB2, HF2, HL2⟩
     case measure => simp [intOf]; omega
  ·obtain rfl : kk = N6 := by omega
   have hb := HB.out
   have hq7 := HQ7.out
   rw [HQ7.out, Nat.sub_self] at hb
   have hl7 : l7 = L1 := (congrArg Prod.fst hb).trans (List.append_nil _)
   have hs7 : stk = s7 := (congrArg Prod.snd hb).symm
   have HLB : Hid (∀ x ∈ l7, x.length ≤ 1000) := fun x hx => Nat.le_trans (rBlocks_len s.data.toList kk s6 x (by rw [hq7]; exact hx)) (by omega)
   subst hl7
   subst hs7
   clear hb HB HQ7 hq7
   have HPI := Lib.hid (And.intro hP.out hI.out)
   clear hP hI hG
   go_wp2_with (go_at_call 85; refine (C8.out _ HL.out.rd).mono ?_; rintro e w8 ⟨rfl, h8, k8⟩; have HL8 := Lib.hid (HL.out.call HPI.out.1 HPI.out.2 k8 h8); clear h8 k8)
   obtain ⟨y0, rfl, hyn, hyB⟩ := OwS.frozen HL8.out.ow
   have hY := Lib.hid (And.intro hyn hyB)
   have HY8 : Hid (y0.n ≤ 8) := by have := HVV.out; show y0.n ≤ 8; omega
   have hb2 : bi < w8.heap.size := Nat.lt_of_lt_of_le HL8.out.hi HL8.out.sz
   have hb3 : base ≤ w8.heap.size := HL8.out.sz
   obtain ⟨ti0, ti1, ti2, ti3, ti4⟩ := info_parts tk_info0
   obtain ⟨Pre2, hPre2⟩ : ∃ P : World → Prop, P = (fun W => Pre W ∧ BlkF base w8.heap.size W y0 l7) := ⟨_, rfl⟩
   have hP := Lib.hid (by
    rw [hPre2]
    intro W W' x hgr hx h
    exact ⟨HPI.out.1 W W' x hgr (fun b e => by have := hx b e; omega) h.1, blkF_old (bi := bi) (g := w.heap.size) (by have := HL8.out.mid; have := HL8.out.hi; omega) HL8.out.hi W W' x hgr hx h.2⟩ : Old w.heap.size bi w8.heap.size Pre2)
   have hI := Lib.hid (isT_old w8.heap.size (bi := bi) hb2)
   have hG := Lib.hid (isT_grow w8.heap.size)
   have HM0 : Hid (Lp 59 7 TaV.cells (IsT w8.heap.size) OffT g bi w8.heap.size s w Pre2 s8 (imF a b c d x0.v y0.v (.slice none 0 0)) (.slice none 0 0) [] [] w8) := by
    subst hPre2
    exact ⟨HL8.out.rd, HL8.out.kp, HL8.out.im, HL8.out.res, OwR.nil _, ⟨HL8.out.pre, hY.out.2⟩, HL8.out.lt, HL8.out.mid, hb2, Nat.le_refl _⟩
   clear HL HL8 HPI hyn hyB
   have hY2 := hY
   clear hY
   generalize w8.heap.size = base2 at hP hI hG HM0 hb2 hb3 hPre2 hY2 ⊢
   go_loopw [29] (fun j wr => ∃ (kk : Nat) (v0 : Value) (VV : List TaV) (L1 : List TkP) (stk : Rst), kk ≤ N8 ∧ j = .int .i64 kk ∧ Hid (VV.length = kk) ∧ Hid (rTasks s.data.toList N8 s8 = (L1 ++ (rTasks s.data.toList (N8 - kk) stk).1, (rTasks s.data.toList (N8 - kk) stk).2)) ∧ Hid (Fine s.data.toList stk) ∧
    Hid (Lp 59 7 TaV.cells (IsT base2) OffT g bi base2 s w Pre2 stk (imF a b c d x0.v y0.v v0) v0 VV L1 wr)) (fun j _ => N8 - (intOf j).toNat)
   case atStart => exact ⟨0, _, [], [], s8, by omega, rfl, rfl, rfl, HF8, HM0⟩
   case round =>
    obtain ⟨kk, v0, VV, L1, stk, hk, rfl, HVV, HB, HF, HL⟩ := hrel
    by_cases hlk : kk < N8
    ·obtain ⟨⟨l1, st1⟩, e1⟩ : ∃ p, rTask s.data.toList stk = p := ⟨_, rfl⟩
     have C := Lib.hid (fun W hW hNW => task_rd g s stk st1 l1 W hW hs HF.out hNW hg1 e1)
     have HB2 : Hid (rTasks s.data.toList N8 s8 = ((L1 ++ [l1]) ++ (rTasks s.data.toList (N8 - (kk + 1)) st1).1, (rTasks s.data.toList (N8 - (kk + 1)) st1).2)) := by
      show _ = _
      rw [HB.out, show N8 - kk = (N8 - (kk + 1)) + 1 by omega]
      rw [rTasks_succ, e1, List.append_assoc]
      rfl
     have HF2 : Hid (Fine s.data.toList st1) := by
      have := rTask_fine HF.out
      rw [e1] at this; exact this
     have hP := hP.out
     have hI := hI.out
     have hG := hG.out
     clear e1
     go_wp2_with fail
     refine region_gh (θ := Option TaV × Option Nat × Option (Nat × Nat)) 40 8 4 (fun t => ([3, 4, 5, 7] : List Nat).getD t 0) (fun i => ([31, 32, 33, 34, 35, 36, 37, 40] : List Nat).getD i 0) (fun i => ([[], [0], [], [2], [3], [1, 4], [], [6, 5]] : List (List Nat)).getD i []) (fun (gs : Option TaV × Option Nat × Option (Nat × Nat)) i v => ([(fun _ v => v = .pointer (some ⟨bi, 6, none⟩)), (fun _ v => v = v0), (fun _ v => v = .pointer (some ⟨g, 0, none⟩)), (fun gs v => ∃ t : TaV, gs.1 = some t ∧ v = TskV t), (fun gs v => ∃ β : Nat, gs.2.1 = some β ∧ v = .slice (some ⟨β, 0, none⟩) 1 1), (fun gs v => ∃ x : Nat × Nat, gs.2.2 = some x ∧ v = .slice (some ⟨x.1, 0, none⟩) (kk + 1) x.2), (fun _ v => v = .pointer (some ⟨bi, 6, none⟩)), (fun _ _ => True)] : List (Option TaV × Option Nat × Option (Nat × Nat) → Value → Prop)).getD i (fun _ _ => False) gs v) (fun j (gs : Option TaV × Option Nat × Option (Nat × Nat)) W => ([(fun gs W => gs = (none, none, none) ∧ Lp 59 7 TaV.cells (IsT base2) OffT g bi base2 s w Pre2 stk (imF a b c d x0.v y0.v v0) v0 VV L1 W), (fun gs W => ∃ t : TaV, gs = (some t, none, none) ∧ (Lp 59 7 TaV.cells (IsT base2) OffT g bi base2 s w Pre2 st1 (imF a b c d x0.v y0.v v0) v0 VV L1 W) ∧ (IsT base2) W t l1 ∧ OffT t v0.ownBlock), (fun gs W => ∃ (t : TaV) (β : Nat), gs = (some t, some β, none) ∧ (Lp 59 7 TaV.cells (IsT base2) OffT g bi base2 s w Pre2 st1 (imF a b c d x0.v y0.v v0) v0 VV L1 W) ∧ ((IsT base2) W t l1 ∧ OffT t v0.ownBlock) ∧ ∀ j u, (TaV.cells t)[j]? = some u → W.cell? ⟨β, j, none⟩ = some u), (fun gs W => ∃ (t : TaV) (β : Nat) (x : Nat × Nat), gs = (some t, some β, some x) ∧ (Lp 59 7 TaV.cells (IsT base2) OffT g bi base2 s w Pre2 st1 (imF a b c d x0.v y0.v v0) (.slice (some ⟨x.1, 0, none⟩) (kk + 1) x.2) (VV ++ [t]) (L1 ++ [l1]) W)), (fun gs W => ∃ (t : TaV) (β : Nat) (x : Nat × Nat), gs = (some t, some β, some x) ∧ (Lp 59 7 TaV.cells (IsT base2) OffT g bi base2 s w Pre2 st1 (imF a b c d x0.v y0.v (.slice (some ⟨x.1, 0, none⟩) (kk + 1) x.2)) (.slice (some ⟨x.1, 0, none⟩) (kk + 1) x.2) (VV ++ [t]) (L1 ++ [l1]) W))] : List (Option TaV × Option Nat × Option (Nat × Nat) → World → Prop)).getD j (fun _ _ => False) gs W) (none, none, none) (by kernel_rfl) rfl (fun i j hi hj => (by decide : ∀ i, i < 8 → ∀ j, j < 8 → (fun i => ([31, 32, 33, 34, 35, 36, 37, 40] : List Nat).getD i 0) i = (fun i => ([31, 32, 33, 34, 35, 36, 37, 40] : List Nat).getD i 0) j → i = j) i hi j hj) rfl (fun s t hs ht => (by decide : ∀ s, s < 4 → ∀ t, t < 4 → (fun t => ([3, 4, 5, 7] : List Nat).getD t 0) s = (fun t => ([3, 4, 5, 7] : List Nat).getD t 0) t → s = t) s hs t ht) (by decide) (fun t ht => (by decide : ∀ t, t < 3 → (fun t => ([3, 4, 5, 7] : List Nat).getD t 0) t ∈ (fun i => ([[], [0], [], [2], [3], [1, 4], [], [6, 5]] : List (List Nat)).getD i []) ((fun t => ([3, 4, 5, 7] : List Nat).getD t 0) (t + 1))) t (by omega)) ?_ ?_ ⟨rfl, HL.out.below hP hI (blw_dr _)⟩ ?_
     ·intro i o ho
      iterate 8 (rcases i with _ | i; (obtain rfl := Option.some.inj ho; first | exact ⟨Or.inl ⟨rfl, by decide⟩, rfl, by decide, by decide⟩ | exact ⟨Or.inr ⟨rfl, by decide, fun _ _ _ h => h⟩, rfl, by decide, by decide⟩))
      simp at ho
     ·intro i o j gs ho a' W hj hS hoth hd hfr
      have oS0 : a'.eval (.tmp 0) = .pointer (some ⟨g, 0, none⟩) := hoth 0 (by decide)
      have oS3 : a'.eval (.tmp 3) = .pointer (some ⟨bi, 0, none⟩) := hoth 3 (by decide)
      obtain ⟨ρ, hρ⟩ : ∃ ρ, ρ = a'.eval := ⟨_, rfl⟩
      have hc : ∀ v, ρ (.const v) = v := fun v => by rw [hρ]; rfl
      have hfn : ∀ f, ρ (.func f) = .func (.func f) #[] #[] := fun f => by rw [hρ]; rfl
      have qS0 : ρ (.tmp 0) = .pointer (some ⟨g, 0, none⟩) := by rw [hρ]; exact oS0
      have qS3 : ρ (.tmp 3) = .pointer (some ⟨bi, 0, none⟩) := by rw [hρ]; exact oS3
      clear hoth
      match i, ho with
      | 0, ho =>
       obtain rfl := Option.some.inj ho
       refine Or.inl ⟨by decide, ?_⟩
       rw [← hρ]
       clear hd hρ
       exact ⟨.pointer (some ⟨bi, 6, none⟩), by simp only [execOp]; go_simp, rfl⟩
      | 1, ho =>
       obtain rfl := Option.some.inj ho
       have e0 : (a'.eval (.tmp 31)) = .pointer (some ⟨bi, 6, none⟩) := hd 0 (by decide)
       refine Or.inl ⟨by decide, ?_⟩
       rw [← hρ]
       rw [← hρ] at e0
       clear hd hρ
       have hj2 : j ≤ 2 := hfr 5 2 (by decide) (by decide)
       have c5 : W.cell? ⟨bi, 6, none⟩ = some v0 := by
        match j, hj2, hS with
        | 0, _, hS => have hS : (fun gs W => gs = (none, none, none) ∧ Lp 59 7 TaV.cells (IsT base2) OffT g bi base2 s w Pre2 stk (imF a b c d x0.v y0.v v0) v0 VV L1 W : Option TaV × Option Nat × Option (Nat × Nat) → World → Prop) gs W := hS; exact World.rowIs.cell hS.2.im (i := 6) (by omega)
        | 1, _, hS => have hS : (fun gs W => ∃ t : TaV, gs = (some t, none, none) ∧ (Lp 59 7 TaV.cells (IsT base2) OffT g bi base2 s w Pre2 st1 (imF a b c d x0.v y0.v v0) v0 VV L1 W) ∧ (IsT base2) W t l1 ∧ OffT t v0.ownBlock : Option TaV × Option Nat × Option (Nat × Nat) → World → Prop) gs W := hS; obtain ⟨_, _, h, _⟩ := hS; exact World.rowIs.cell h.im (i := 6) (by omega)
        | 2, _, hS => have hS : (fun gs W => ∃ (t : TaV) (β : Nat), gs = (some t, some β, none) ∧ (Lp 59 7 TaV.cells (IsT base2) OffT g bi base2 s w Pre2 st1 (imF a b c d x0.v y0.v v0) v0 VV L1 W) ∧ ((IsT base2) W t l1 ∧ OffT t v0.ownBlock) ∧ ∀ j u, (TaV.cells t)[j]? = some u → W.cell? ⟨β, j, none⟩ = some u : Option TaV × Option Nat × Option (Nat × Nat) → World → Prop) gs W := hS; obtain ⟨_, _, _, h, _⟩ := hS; exact World.rowIs.cell h.im (i := 6) (by omega)
       exact ⟨v0, by simp only [execOp]; go_simp, rfl⟩
      | 2, ho =>
       obtain rfl := Option.some.inj ho
       refine Or.inl ⟨by decide, ?_⟩
       rw [← hρ]
       clear hd hρ
       exact ⟨.pointer (some ⟨g, 0, none⟩), by simp only [execOp]; go_simp, rfl⟩
      | 3, ho =>
       obtain rfl := Option.some.inj ho
       have e2 : (a'.eval (.tmp 33)) = .pointer (some ⟨g, 0, none⟩) := hd 2 (by decide)
       refine Or.inr ⟨?_, 0, by decide, rfl⟩
       intro t ht hti htj K hK
       have ht0 : t = 0 := by match t, ht, hti with
        | 0, _, h => rfl
        | 1, _, h => exact absurd h (by decide)
        | 2, _, h => exact absurd h (by decide)
        | 3, _, h => exact absurd h (by decide)
        | k + 4, ht, _ => omega
       subst ht0
       subst htj
       clear hd
       have r2 : (ρ (.tmp 33)) = .pointer (some ⟨g, 0, none⟩) := by rw [hρ]; exact e2
       have hS : (fun gs W => gs = (none, none, none) ∧ Lp 59 7 TaV.cells (IsT base2) OffT g bi base2 s w Pre2 stk (imF a b c d x0.v y0.v v0) v0 VV L1 W : Option TaV × Option Nat × Option (Nat × Nat) → World → Prop) gs W := hS
       obtain ⟨hgs, hL⟩ := hS
       subst hgs
       refine Kd.Gives.wp (R := fun v' W' => ∃ t : TaV, v' = TskV t ∧ TaA (W.heap.size + 1) W' t l1 ∧ Rdr 90 g s st1 W' ∧ Kep g W W') (Kd.Gives.enter (f := 86) (args := #[.pointer (some ⟨g, 0, none⟩)]) (by rw [← hρ]; clear hρ; simp only [execOp]; go_simp) ((C.out W hL.rd (HN.out.kep hL.kp hg1)).mono ?_)) ?_
       ·rintro e w8 ⟨t, rfl, h1, h2, h3⟩; exact ⟨_, rfl, t, rfl, h1, h2, h3⟩
       ·rintro v' W' ⟨t, rfl, h1, h2, h3⟩
        exact hK _ _ (some t, none, none) ⟨t, rfl, rfl⟩ (by
         intro k v hk
         match k, hk with
         | 0, hk => exact hk
         | 1, hk => exact hk
         | 2, hk => exact hk
         | 3, hk => obtain ⟨_, e, _⟩ := hk; cases e
         | 4, hk => obtain ⟨_, e, _⟩ := hk; cases e
         | 5, hk => obtain ⟨_, e, _⟩ := hk; cases e
         | 6, hk => exact hk
         | 7, hk => exact hk
         | k + 8, hk => exact hk) ⟨t, rfl, hL.call hP hI h3 h2, h1.mono (Nat.le_succ_of_le hL.sz), ⟨fun _ p hp e => by have h4 := h1.bl.2 p hp; have h5 := (hL.ow.own.lt _ e).2; omega, fun _ p hp e => by have h4 := h1.ou.2 p hp; have h5 := (hL.ow.own.lt _ e).2; omega, fun _ p hp e => by have h4 := h1.co.2 p hp; have h5 := (hL.ow.own.lt _ e).2; omega⟩⟩
      | 4, ho =>
       obtain rfl := Option.some.inj ho
       have e3 : ∃ t : TaV, gs.1 = some t ∧ (a'.eval (.tmp 34)) = TskV t := hd 3 (by decide)
       refine Or.inr ⟨?_, 1, by decide, rfl⟩
       intro t ht hti htj K hK
       have ht0 : t = 1 := by match t, ht, hti with
        | 0, _, h => exact absurd h (by decide)
        | 1, _, h => rfl
        | 2, _, h => exact absurd h (by decide)
        | 3, _, h => exact absurd h (by decide)
        | k + 4, ht, _ => omega
       subst ht0
       subst htj
       clear hd
       have r3 : ∃ t : TaV, gs.1 = some t ∧ (ρ (.tmp 34)) = TskV t := by rw [hρ]; exact e3
       have hS : (fun gs W => ∃ t : TaV, gs = (some t, none, none) ∧ (Lp 59 7 TaV.cells (IsT base2) OffT g bi base2 s w Pre2 st1 (imF a b c d x0.v y0.v v0) v0 VV L1 W) ∧ (IsT base2) W t l1 ∧ OffT t v0.ownBlock : Option TaV × Option Nat × Option (Nat × Nat) → World → Prop) gs W := hS
       obtain ⟨t, hgs, hL, hI1, hO1⟩ := hS
       subst hgs
       obtain ⟨t', ht', r⟩ := r3
       cases ht'
       have hbA := below_alloc W (.cells #[.int .i64 t.pr, .int .i64 t.pe, .int .i64 t.de, .int .i64 t.ji, .slice t.bl.a t.bl.n t.bl.c, .slice t.ou.a t.ou.n t.ou.c, .slice t.co.a t.co.n t.co.c] 59)
       exact Kd.wp_value (v := .slice (some ⟨W.heap.size, 0, none⟩) 1 1) (w' := W.alloc (.cells #[.int .i64 t.pr, .int .i64 t.pe, .int .i64 t.de, .int .i64 t.ji, .slice t.bl.a t.bl.n t.bl.c, .slice t.ou.a t.ou.n t.ou.c, .slice t.co.a t.co.n t.co.c] 59)) (by rw [← hρ]; clear hρ; simp only [execOp]; unfold TskV at r; go_simp) (hK _ _ (some t, some W.heap.size, none) ⟨_, rfl, rfl⟩ (by
        intro k v hk
        match k, hk with
        | 0, hk => exact hk
        | 1, hk => exact hk
        | 2, hk => exact hk
        | 3, hk => exact hk
        | 4, hk => obtain ⟨_, e, _⟩ := hk; cases e
        | 5, hk => obtain ⟨_, e, _⟩ := hk; cases e
        | 6, hk => exact hk
        | 7, hk => exact hk
        | k + 8, hk => exact hk) ⟨t, _, rfl, hL.below hP hI hbA, ⟨hI _ _ none t l1 (grown_none hbA) (fun b e => by cases e) hI1, hO1⟩, fun j u hj => Kd.cells_new W #[.int .i64 t.pr, .int .i64 t.pe, .int .i64 t.de, .int .i64 t.ji, .slice t.bl.a t.bl.n t.bl.c, .slice t.ou.a t.ou.n t.ou.c, .slice t.co.a t.co.n t.co.c] 59 j u hj⟩)
      | 5, ho =>
       obtain rfl := Option.some.inj ho
       have e1 : (a'.eval (.tmp 32)) = v0 := hd 1 (by decide)
       have e4 : ∃ β : Nat, gs.2.1 = some β ∧ (a'.eval (.tmp 35)) = .slice (some ⟨β, 0, none⟩) 1 1 := hd 4 (by decide)
       refine Or.inr ⟨?_, 2, by decide, rfl⟩
       intro t ht hti htj K hK
       have ht0 : t = 2 := by match t, ht, hti with
        | 0, _, h => exact absurd h (by decide)
        | 1, _, h => exact absurd h (by decide)
        | 2, _, h => rfl
        | 3, _, h => exact absurd h (by decide)
        | k + 4, ht, _ => omega
       subst ht0
       subst htj
       clear hd
       have r1 : (ρ (.tmp 32)) = v0 := by rw [hρ]; exact e1
       have r4 : ∃ β : Nat, gs.2.1 = some β ∧ (ρ (.tmp 35)) = .slice (some ⟨β, 0, none⟩) 1 1 := by rw [hρ]; exact e4
       have hS : (fun gs W => ∃ (t : TaV) (β : Nat), gs = (some t, some β, none) ∧ (Lp 59 7 TaV.cells (IsT base2) OffT g bi base2 s w Pre2 st1 (imF a b c d x0.v y0.v v0) v0 VV L1 W) ∧ ((IsT base2) W t l1 ∧ OffT t v0.ownBlock) ∧ ∀ j u, (TaV.cells t)[j]? = some u → W.cell? ⟨β, j, none⟩ = some u : Option TaV × Option Nat × Option (Nat × Nat) → World → Prop) gs W := hS
       obtain ⟨t, β, hgs, hL, ⟨hI1, hO1⟩, hcs⟩ := hS
       subst hgs
       obtain ⟨β', hβ', e4'⟩ := e4
       cases hβ'
       have hkk : VV.length = kk := HVV.out
       exact wp_append_at W (.tmp 32) (.tmp 35) 24 rfl base2 59 ti0 (.agg #[.int .i64 0, .int .i64 0, .int .i64 0, .int .i64 0, .slice none 0 0, .slice none 0 0, .slice none 0 0]) 7 104 Tryz.underlying24 ti1 ti2 ti3 ti4 rfl (by decide) v0 VV.length (VV.flatMap TaV.cells) e1 hL.ow.own ⟨β, 0, none⟩ 1 1 (TaV.cells t) e4' rfl (fun j u hj => by rw [Kd.add_plain', Nat.zero_add]; exact hcs j u hj) (fun u hu => by simp [TaV.cells, Sl.v] at hu; rcases hu with rfl | rfl | rfl | rfl | rfl | rfl | rfl <;> rfl) (by unfold maxLen; omega) (by omega) hL.sz (fun v' W' h1 h2 h3 => by
        obtain ⟨γ, cap, rfl, _, _⟩ := h1.form (by omega)
        rw [hkk]
        refine hK _ _ (some t, some β, some (γ, cap)) ⟨_, rfl, rfl⟩ (by
         intro k v hk
         match k, hk with
         | 0, hk => exact hk
         | 1, hk => exact hk
         | 2, hk => exact hk
         | 3, hk => exact hk
         | 4, hk => exact hk
         | 5, hk => obtain ⟨_, e, _⟩ := hk; cases e
         | 6, hk => exact hk
         | 7, hk => exact hk
         | k + 8, hk => exact hk) ⟨t, β, (γ, cap), rfl, ?_⟩
        have := hL.step hP hG h1 h2 h3 hI1 hO1
        rw [hkk] at this
        exact this)
      | 6, ho =>
       obtain rfl := Option.some.inj ho
       refine Or.inl ⟨by decide, ?_⟩
       rw [← hρ]
       clear hd hρ
       exact ⟨.pointer (some ⟨bi, 6, none⟩), by simp only [execOp]; go_simp, rfl⟩
      | 7, ho =>
       obtain rfl := Option.some.inj ho
       have e6 : (a'.eval (.tmp 37)) = .pointer (some ⟨bi, 6, none⟩) := hd 6 (by decide)
       have e5 : ∃ x : Nat × Nat, gs.2.2 = some x ∧ (a'.eval (.tmp 36)) = .slice (some ⟨x.1, 0, none⟩) (kk + 1) x.2 := hd 5 (by decide)
       refine Or.inr ⟨?_, 3, by decide, rfl⟩
       intro t ht hti htj K hK
       have ht0 : t = 3 := by match t, ht, hti with
        | 0, _, h => exact absurd h (by decide)
        | 1, _, h => exact absurd h (by decide)
        | 2, _, h => exact absurd h (by decide)
        | 3, _, h => rfl
        | k + 4, ht, _ => omega
       subst ht0
       subst htj
       clear hd
       have r6 : (ρ (.tmp 37)) = .pointer (some ⟨bi, 6, none⟩) := by rw [hρ]; exact e6
       have r5 : ∃ x : Nat × Nat, gs.2.2 = some x ∧ (ρ (.tmp 36)) = .slice (some ⟨x.1, 0, none⟩) (kk + 1) x.2 := by rw [hρ]; exact e5
       have hS : (fun gs W => ∃ (t : TaV) (β : Nat) (x : Nat × Nat), gs = (some t, some β, some x) ∧ (Lp 59 7 TaV.cells (IsT base2) OffT g bi base2 s w Pre2 st1 (imF a b c d x0.v y0.v v0) (.slice (some ⟨x.1, 0, none⟩) (kk + 1) x.2) (VV ++ [t]) (L1 ++ [l1]) W) : Option TaV × Option Nat × Option (Nat × Nat) → World → Prop) gs W := hS
       obtain ⟨t, β, x, hgs, hL⟩ := hS
       subst hgs
       obtain ⟨x', hx', r⟩ := r5
       cases hx'
       have c5 : W.cell? ⟨bi, 6, none⟩ = some v0 := World.rowIs.cell hL.im (i := 6) (by omega)
       have f5 := World.rowIs.frozen hL.im 6
       exact Kd.wp_skip (w' := W.setCell ⟨bi, 6, none⟩ (.slice (some ⟨x.1, 0, none⟩) (kk + 1) x.2)) (by rw [← hρ]; clear hρ; simp only [execOp]; go_simp) (hK _ _ _ trivial (fun _ _ h => h) ⟨t, β, x, rfl, hL.store hP hI 6 (.slice (some ⟨x.1, 0, none⟩) (kk + 1) x.2) (fun i hi => by
        match i, hi with
        | 0, _ => rfl
        | 1, _ => rfl
        | 2, _ => rfl
        | 3, _ => rfl
        | 4, _ => rfl
        | 5, _ => rfl
        | 6, _ => rfl)⟩)
      | k + 8, ho => simp at ho
     ·intro a' W gs hsz hdef hoth hok hS
      have hcov : ∀ i, i < 8 → (fun i => ([31, 32, 33, 34, 35, 36, 37, 40] : List Nat).getD i 0) i < 40 → 31 ≤ (fun i => ([31, 32, 33, 34, 35, 36, 37, 40] : List Nat).getD i 0) i ∧ (fun i => ([31, 32, 33, 34, 35, 36, 37, 40] : List Nat).getD i 0) i < 38 := by decide
      obtain ⟨us, hu1, _, rfl⟩ := Kd.act_mix 31 7 rfl hsz hdef (by simp) (fun k hk => by
       by_cases hkT : k < 40
       ·exact hoth k (fun i hi e => by have := hcov i hi (Nat.lt_of_le_of_lt (Nat.le_of_eq e) hkT); dsimp only at this e; omega)
       ·rw [eval_far (by rw [hsz]; omega), eval_far (by simp; omega)])
      have hS : (fun gs W => ∃ (t : TaV) (β : Nat) (x : Nat × Nat), gs = (some t, some β, some x) ∧ (Lp 59 7 TaV.cells (IsT base2) OffT g bi base2 s w Pre2 st1 (imF a b c d x0.v y0.v (.slice (some ⟨x.1, 0, none⟩) (kk + 1) x.2)) (.slice (some ⟨x.1, 0, none⟩) (kk + 1) x.2) (VV ++ [t]) (L1 ++ [l1]) W) : Option TaV × Option Nat × Option (Nat × Nat) → World → Prop) gs W := hS
      obtain ⟨t, β, x, _, hL⟩ := hS
      match us, hu1 with
      | [u31, u32, u33, u34, u35, u36, u37], _ =>
       have HL2 := Lib.hid hL
       clear hL hok hoth hcov
       go_wp2
       go_roundw
       case rel => exact ⟨kk + 1, _, VV ++ [t], L1 ++ [l1], st1, by omega, by go_num, (by show _ = _; rw [List.length_append, HVV.out]; rfl), HB2, HF2, HL2⟩
       case measure => simp [intOf]; omega
    ·obtain rfl : kk = N8 := by omega
     have hb := HB.out
     rw [HQ9.out, Nat.sub_self] at hb
     have hl9 : l9 = L1 := (congrArg Prod.fst hb).trans (List.append_nil _)
     have hs9 : stk = s9 := (congrArg Prod.snd hb).symm
     have HLn : Hid ((∀ T ∈ l9, T.bl.length ≤ 1000 ∧ T.ou.length ≤ 1000 ∧ T.co.length ≤ 1000) ∧ ∀ x ∈ l7, x.length ≤ 1000) := by
      refine ⟨fun T hT => ?_, HLB.out⟩
      have := rTasks_len s.data.toList kk s8 T (by rw [HQ9.out]; exact hT)
      exact this
     subst hl9
     subst hs9
     clear hb HB HQ9
     obtain ⟨z0, rfl, -, -⟩ := own_value HL.out.ow.own
     have g0 : wr.cell? ⟨bi, 0, none⟩ = some (.int .i64 a) := World.rowIs.cell HL.out.im (i := 0) (by omega)
     have g1 : wr.cell? ⟨bi, 1, none⟩ = some (.int .i64 b) := World.rowIs.cell HL.out.im (i := 1) (by omega)
     have g2 : wr.cell? ⟨bi, 2, none⟩ = some (.int .i64 c) := World.rowIs.cell HL.out.im (i := 2) (by omega)
     have g3 : wr.cell? ⟨bi, 3, none⟩ = some (.int .i64 d) := World.rowIs.cell HL.out.im (i := 3) (by omega)
     have g4 : wr.cell? ⟨bi, 4, none⟩ = some (.slice x0.a x0.n x0.c) := World.rowIs.cell HL.out.im (i := 4) (by omega)
     have g5 : wr.cell? ⟨bi, 5, none⟩ = some (.slice y0.a y0.n y0.c) := World.rowIs.cell HL.out.im (i := 5) (by omega)
     have g6 : wr.cell? ⟨bi, 6, none⟩ = some (.slice z0.a z0.n z0.c) := World.rowIs.cell HL.out.im (i := 6) (by omega)
     have r0 : wr.cell? ⟨w.heap.size, 0, none⟩ = some (.int .i64 0) := World.rowIs.cell HL.out.res (i := 0) (by omega)
     have r1 : wr.cell? ⟨w.heap.size, 1, none⟩ = some (.int .i64 0) := World.rowIs.cell HL.out.res (i := 1) (by omega)
     have r2 : wr.cell? ⟨w.heap.size, 2, none⟩ = some (.int .i64 0) := World.rowIs.cell HL.out.res (i := 2) (by omega)
     have r3 : wr.cell? ⟨w.heap.size, 3, none⟩ = some (.int .i64 0) := World.rowIs.cell HL.out.res (i := 3) (by omega)
     have r4 : wr.cell? ⟨w.heap.size, 4, none⟩ = some (.slice none 0 0) := World.rowIs.cell HL.out.res (i := 4) (by omega)
     have r5 : wr.cell? ⟨w.heap.size, 5, none⟩ = some (.slice none 0 0) := World.rowIs.cell HL.out.res (i := 5) (by omega)
     have r6 : wr.cell? ⟨w.heap.size, 6, none⟩ = some (.slice none 0 0) := World.rowIs.cell HL.out.res (i := 6) (by omega)
     have z7 := World.rowIs.frozen HL.out.res 0
     have z1 := World.rowIs.frozen HL.out.res 1
     have z2 := World.rowIs.frozen HL.out.res 2
     have z3 := World.rowIs.frozen HL.out.res 3
     have z4 := World.rowIs.frozen HL.out.res 4
     have z5 := World.rowIs.frozen HL.out.res 5
     have z6 := World.rowIs.frozen HL.out.res 6
     have hP := hP.out
     have hI := hI.out
     clear hG
     go_wp2
     have D8 : (((((((wr.setCell ⟨w.heap.size, 0, none⟩ (.int .i64 a)).setCell ⟨w.heap.size, 1, none⟩ (.int .i64 b)).setCell ⟨w.heap.size, 2, none⟩ (.int .i64 c)).setCell ⟨w.heap.size, 3, none⟩ (.int .i64 d)).setCell ⟨w.heap.size, 4, none⟩ (.slice x0.a x0.n x0.c)).setCell ⟨w.heap.size, 5, none⟩ (.slice y0.a y0.n y0.c)).setCell ⟨w.heap.size, 6, none⟩ (.slice z0.a z0.n z0.c)).rowIs w.heap.size 26 7 (imF a b c d x0.v y0.v z0.v) :=
      (((((((HL.out.res.set 0 _).set 1 _).set 2 _).set 3 _).set 4 _).set 5 _).set 6 _).congr (fun j hj => by
       match j, hj with
       | 0, _ => rfl
       | 1, _ => rfl
       | 2, _ => rfl
       | 3, _ => rfl
       | 4, _ => rfl
       | 5, _ => rfl
       | 6, _ => rfl)
     have K8 : Kep w.heap.size wr (((((((wr.setCell ⟨w.heap.size, 0, none⟩ (.int .i64 a)).setCell ⟨w.heap.size, 1, none⟩ (.int .i64 b)).setCell ⟨w.heap.size, 2, none⟩ (.int .i64 c)).setCell ⟨w.heap.size, 3, none⟩ (.int .i64 d)).setCell ⟨w.heap.size, 4, none⟩ (.slice x0.a x0.n x0.c)).setCell ⟨w.heap.size, 5, none⟩ (.slice y0.a y0.n y0.c)).setCell ⟨w.heap.size, 6, none⟩ (.slice z0.a z0.n z0.c)) :=
      ((((((Kep.set _ _ _ _).trans (Kep.set _ _ _ _)).trans (Kep.set _ _ _ _)).trans (Kep.set _ _ _ _)).trans (Kep.set _ _ _ _)).trans (Kep.set _ _ _ _)).trans (Kep.set _ _ _ _)
     clear g0 g1 g2 g3 g4 g5 g6 r0 r1 r2 r3 r4 r5 r6 z1 z2 z3 z4 z5 z6 z7
     generalize (((((((wr.setCell ⟨w.heap.size, 0, none⟩ (.int .i64 a)).setCell ⟨w.heap.size, 1, none⟩ (.int .i64 b)).setCell ⟨w.heap.size, 2, none⟩ (.int .i64 c)).setCell ⟨w.heap.size, 3, none⟩ (.int .i64 d)).setCell ⟨w.heap.size, 4, none⟩ (.slice x0.a x0.n x0.c)).setCell ⟨w.heap.size, 5, none⟩ (.slice y0.a y0.n y0.c)).setCell ⟨w.heap.size, 6, none⟩ (.slice z0.a z0.n z0.c)) = W8 at D8 K8 ⊢
     have g0 : W8.cell? ⟨w.heap.size, 0, none⟩ = some (.int .i64 a) := World.rowIs.cell D8 (i := 0) (by omega)
     have g1 : W8.cell? ⟨w.heap.size, 1, none⟩ = some (.int .i64 b) := World.rowIs.cell D8 (i := 1) (by omega)
     have g2 : W8.cell? ⟨w.heap.size, 2, none⟩ = some (.int .i64 c) := World.rowIs.cell D8 (i := 2) (by omega)
     have g3 : W8.cell? ⟨w.heap.size, 3, none⟩ = some (.int .i64 d) := World.rowIs.cell D8 (i := 3) (by omega)
     have g4 : W8.cell? ⟨w.heap.size, 4, none⟩ = some (.slice x0.a x0.n x0.c) := World.rowIs.cell D8 (i := 4) (by omega)
     have g5 : W8.cell? ⟨w.heap.size, 5, none⟩ = some (.slice y0.a y0.n y0.c) := World.rowIs.cell D8 (i := 5) (by omega)
     have g6 : W8.cell? ⟨w.heap.size, 6, none⟩ = some (.slice z0.a z0.n z0.c) := World.rowIs.cell D8 (i := 6) (by omega)
     have HK8 := Lib.hid K8
     clear D8 K8
     refine bodyPost_ret (v := (⟨a, b, c, d, x0, y0, z0⟩ : ImV).v) (by simp [results, Tryz.results43, go_sem, g0, g1, g2, g3, g4, g5, g6, ImV.v, Sl.v]) rfl ?_
     clear g0 g1 g2 g3 g4 g5 g6
     have hG8 := HK8.out.grown
     have hpre := hP _ _ _ hG8 (fun b e => by cases e; exact Or.inl (Nat.le_refl _)) HL.out.pre
     have h1 := HL.out.mid
     have h2 := HL.out.hi
     have ho : OwT base2 base2 (.slice z0.a z0.n z0.c) VV l9 W8 := OwR.keep (x := some w.heap.size) HL.out.ow (fun t u => hI _ _ _ t u hG8 (fun b e => by cases e; omega)) hG8 (fun b e => by cases e; exact Or.inl (by omega))
     have hl5 := HL5.out
     have hyn := HY8.out
     have hvv := HVV.out
     have key : ImV.Firm ⟨a, b, c, d, x0, y0, z0⟩ w.heap.size W8 ⟨a, b, c, d, l5, l7, l9⟩ := by
      refine ⟨fun W => Pre2 W ∧ OwT base2 base2 (.slice z0.a z0.n z0.c) VV l9 W, ⟨hpre, ho⟩, fun W W' y hG9 hy9 hPW => ⟨hP _ _ _ hG9 (fun b e => Or.inl (Nat.le_of_lt (hy9 b e))) hPW.1, OwR.keep (x := y) hPW.2 (fun t u => hI _ _ _ t u hG9 (fun b e => by have := hy9 b e; omega)) hG9 (fun b e => Or.inl (by have := hy9 b e; omega))⟩, ?_⟩
      rintro W9 ⟨hpre9, ho9⟩
      rw [hPre2, hPre] at hpre9
      obtain ⟨hx, hy⟩ := hpre9
      have hxr : Row W9 x0.a x0.n l5 := hx.1.1
      have hyr := BlkF.rowR hy HLn.out.2
      obtain ⟨t9, e9, n9, R9⟩ := OwT.rowT ho9 HLn.out.1
      have e9 : z0 = t9 := by cases z0; cases t9; cases e9; rfl
      subst e9
      have hlen := ho.len
      have hx5 := hxr.1
      exact ⟨rfl, rfl, rfl, rfl, ⟨hxr, by show x0.n ≤ _; omega⟩, ⟨hyr, by show y0.n ≤ _; omega⟩, ⟨R9, by show z0.n ≤ _; omega⟩⟩
     rw [HV.out.1, HV.out.2]
     exact ⟨⟨a, b, c, d, x0, y0, z0⟩, rfl, key, rowIs_kep HL.out.rd HK8.out (Ne.symm hbg), HL.out.kp.new HK8.out⟩
end Go.Proofs.YtngehojibcmieaaGreatDoor
end
