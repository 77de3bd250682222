/- What is proved here: plain facts on uses of blocks: how high blocks lift, how long tasks wait for lower ones. Conditions: those each theorem states. small facts on memory; how slices of ints and rows of uses of blocks lie in memory. Conditions: none beyond those each theorem states. contracts of ceil.within, rise, rightLens (slices.IndexFunc and ContainsFunc at its test). Conditions: rows are not too long. contracts of ceil.rightUse, its test, slices.IndexFunc and ContainsFunc at it, and ceil.Right. the contract of ceil.greatest at whatever test. Conditions: rows are not too long; the test answers at each place, and changes nothing. contracts of the three tests that ceil.greatest is asked with. -/
import Derived.Test.YtngehojibcmieaaGreatDoorProg
import Derived.WalkKit
import Derived.Deep.OwnRows
import Derived.Deep.QuietTactic
import Derived.BigQuiet
import Derived.Lib.Hide
import Derived.Lib.Small
import Derived.Lib.Walk
import Derived.Lib.Builder
import Derived.Deep.LoopGhost
import Derived.WalkSpells
set_option maxRecDepth 100000
set_option maxHeartbeats 8000000
section
namespace Go.Proofs.YtngehojibcmieaaGreatDoor.Kc
def maxF (p : Int) (l : List Int) : Int := l.foldr max p
theorem maxF_cons (p x : Int) (l : List Int) : maxF p (x :: l) = max x (maxF p l) := rfl
theorem maxF_snoc (p x : Int) : ∀ l : List Int, maxF p (l ++ [x]) = max (maxF p l) x
 | [] => by show max x p = max p x; omega
 | y :: l => by rw [List.cons_append, maxF_cons, maxF_cons, maxF_snoc p x l]; omega
theorem maxF_first (p : Int) : ∀ l : List Int, p ≤ maxF p l
 | [] => Int.le_refl _
 | x :: l => by rw [maxF_cons]; have := maxF_first p l; omega
theorem maxF_ge (p : Int) : ∀ {l : List Int} {x : Int}, x ∈ l → x ≤ maxF p l
 | y :: l, x, h => by
  rw [maxF_cons]
  rcases List.mem_cons.1 h with rfl | h
  ·omega
  ·have := maxF_ge p h; omega
theorem maxF_le {p n : Int} (h0 : p ≤ n) : ∀ {l : List Int}, (∀ x ∈ l, x ≤ n) → maxF p l ≤ n
 | [], _ => h0
 | y :: l, h => by
  rw [maxF_cons]
  have h1 := h y (List.mem_cons_self ..)
  have h2 := maxF_le h0 (l := l) fun x hx => h x (List.mem_cons_of_mem _ hx)
  omega
theorem maxF_mono {p q : Int} (h0 : p ≤ q) {a b : List Int} (h : ∀ x ∈ a, ∃ y ∈ b, x ≤ y) : maxF p a ≤ maxF q b :=
 maxF_le (Int.le_trans h0 (maxF_first q b)) fun x hx => by
  obtain ⟨y, hy, hxy⟩ := h x hx
  exact Int.le_trans hxy (maxF_ge q hy)
theorem maxF_sub {p : Int} {a b : List Int} (h : ∀ x ∈ a, x ∈ b) : maxF p a ≤ maxF p b := maxF_mono (Int.le_refl _) fun x hx => ⟨x, h x hx, Int.le_refl _⟩
theorem maxF_same {p : Int} {a b : List Int} (h : ∀ x, x ∈ a ↔ x ∈ b) : maxF p a = maxF p b := Int.le_antisymm (maxF_sub fun x => (h x).1) (maxF_sub fun x => (h x).2)
theorem maxF_append (p : Int) (a : List Int) : ∀ b : List Int, maxF p (a ++ b) = maxF (maxF p a) b
 | [] => by rw [List.append_nil]; rfl
 | x :: b => by
  refine Int.le_antisymm (maxF_le ?_ fun y hy => ?_) (maxF_le (maxF_sub fun y hy => List.mem_append_left _ hy) fun y hy => maxF_ge p (List.mem_append_right _ hy))
  ·exact Int.le_trans (maxF_first p a) (maxF_first _ _)
  ·rcases List.mem_append.1 hy with hy | hy
   ·exact Int.le_trans (maxF_ge p hy) (maxF_first _ _)
   ·exact maxF_ge _ hy
structure UsP where
 (pr : Int) (bl le : List Int)
 deriving DecidableEq
def ceL (l : List UsP) (b : Int) : List Int := (l.filter fun u => u.bl.contains b).map (·.pr)
def ceB (l : List UsP) (b : Int) : Int := maxF 0 (ceL l b)
theorem ceL_mem {l : List UsP} {b x : Int} : x ∈ ceL l b ↔ ∃ u ∈ l, b ∈ u.bl ∧ u.pr = x := by
 unfold ceL
 simp only [List.mem_map, List.mem_filter, List.contains_eq_mem, decide_eq_true_eq]
 constructor
 ·rintro ⟨u, ⟨h1, h2⟩, h3⟩; exact ⟨u, h1, h2, h3⟩
 ·rintro ⟨u, h1, h2, h3⟩; exact ⟨u, ⟨h1, h2⟩, h3⟩
theorem ceB_more {l m : List UsP} (h : ∀ u ∈ l, u ∈ m) (b : Int) : ceB l b ≤ ceB m b := maxF_sub fun x hx => by
 obtain ⟨u, h1, h2⟩ := ceL_mem.1 hx
 exact ceL_mem.2 ⟨u, h u h1, h2⟩
def caL (c : Int → Int) (p : Int) (q : List (Int × Int)) : List Int := (q.filter fun x => decide (p ≤ c x.1)).map (·.2)
def caU (c : Int → Int) (p : Int) (u : UsP) : List Int := if u.pr < p then caL c p (u.bl.zip u.le) else []
def waB (l : List UsP) (p : Int) : Int := maxF 0 (l.flatMap (caU (ceB l) p))
theorem caL_mem {c : Int → Int} {p x : Int} {q : List (Int × Int)} : x ∈ caL c p q ↔ ∃ b, (b, x) ∈ q ∧ p ≤ c b := by
 unfold caL
 simp only [List.mem_map, List.mem_filter, decide_eq_true_eq]
 constructor
 ·rintro ⟨⟨b, y⟩, ⟨h1, h2⟩, rfl⟩; exact ⟨b, h1, h2⟩
 ·rintro ⟨b, h1, h2⟩; exact ⟨(b, x), ⟨h1, h2⟩, rfl⟩
theorem wa_mem {c : Int → Int} {p x : Int} {l : List UsP} : x ∈ l.flatMap (caU c p) ↔ ∃ u ∈ l, u.pr < p ∧ ∃ b, (b, x) ∈ u.bl.zip u.le ∧ p ≤ c b := by
 rw [List.mem_flatMap]
 constructor
 ·rintro ⟨u, h1, h2⟩
  unfold caU at h2
  by_cases h : u.pr < p
  ·rw [if_pos h] at h2; exact ⟨u, h1, h, caL_mem.1 h2⟩
  ·rw [if_neg h] at h2; simp at h2
 ·rintro ⟨u, h1, h2, h3⟩
  exact ⟨u, h1, by unfold caU; rw [if_pos h2]; exact caL_mem.2 h3⟩
theorem waB_pos (l : List UsP) (p : Int) : 0 ≤ waB l p := maxF_first 0 _
theorem waB_more {l m : List UsP} (h : ∀ u ∈ l, u ∈ m) (p : Int) : waB l p ≤ waB m p := maxF_sub fun x hx => by
 obtain ⟨u, h1, h2, b, h3, h4⟩ := wa_mem.1 hx
 exact wa_mem.2 ⟨u, h u h1, h2, b, h3, Int.le_trans h4 (ceB_more h b)⟩
theorem zip_mem_right {a b : List Int} {x y : Int} (h : (x, y) ∈ a.zip b) : y ∈ b := (List.of_mem_zip h).2
theorem waB_le {l : List UsP} {n p : Int} (h0 : 0 ≤ n) (h : ∀ u ∈ l, ∀ x ∈ u.le, x ≤ n) : waB l p ≤ n := maxF_le h0 fun x hx => by
 obtain ⟨u, h1, _, b, h3, _⟩ := wa_mem.1 hx
 exact h u h1 x (zip_mem_right h3)
def grL (l : List Int) (c : Nat → Bool) (n : Nat) : List Int := ((List.range n).filter c).map fun k => l.getD k 0
def gre (p : Int) (l : List Int) (c : Nat → Bool) (n : Nat) : Int := maxF p (grL l c n)
theorem grL_mem {l : List Int} {c : Nat → Bool} {n : Nat} {x : Int} : x ∈ grL l c n ↔ ∃ k, k < n ∧ c k = true ∧ l.getD k 0 = x := by
 unfold grL
 rw [List.mem_map]
 constructor
 ·rintro ⟨k, h1, h2⟩
  rw [List.mem_filter, List.mem_range] at h1
  exact ⟨k, h1.1, h1.2, h2⟩
 ·rintro ⟨k, h1, h2, h3⟩
  exact ⟨k, by rw [List.mem_filter, List.mem_range]; exact ⟨h1, h2⟩, h3⟩
theorem gre_skip {p : Int} {l : List Int} {c : Nat → Bool} {k : Nat} (h : c k = false) : gre p l c (k + 1) = gre p l c k := by
 unfold gre grL
 rw [List.range_succ, List.filter_append, List.filter_cons, if_neg (by rw [h]; simp)]; simp
theorem gre_max {p : Int} {l : List Int} {c : Nat → Bool} {k : Nat} (h : c k = true) : gre p l c (k + 1) = max (gre p l c k) (l.getD k 0) := by
 unfold gre grL
 rw [List.range_succ, List.filter_append, List.filter_cons, if_pos h, List.map_append]
 exact maxF_snoc _ _ _
theorem gre_low {p : Int} {l : List Int} {c : Nat → Bool} {k : Nat} (h : l.getD k 0 ≤ gre p l c k) : gre p l c (k + 1) = gre p l c k := by
 cases hc : c k
 ·exact gre_skip hc
 ·rw [gre_max hc]; omega
theorem gre_take {p : Int} {l : List Int} {c : Nat → Bool} {k : Nat} (h : c k = true) (h2 : gre p l c k < l.getD k 0) : gre p l c (k + 1) = l.getD k 0 := by
 rw [gre_max h]; omega
def uAt (L : List UsP) (i : Nat) : UsP := L.getD i ⟨0, [], []⟩
theorem uAt_some {L : List UsP} {i : Nat} {u : UsP} (h : L[i]? = some u) : uAt L i = u := by unfold uAt; rw [List.getD_eq_getElem?_getD, h]; rfl
theorem gre_ceil (L : List UsP) (b : Int) : gre 0 (L.map (·.pr)) (fun i => (uAt L i).bl.contains b) L.length = ceB L b := by
 unfold gre ceB
 refine maxF_same fun x => ?_
 rw [grL_mem, ceL_mem]
 constructor
 ·rintro ⟨k, h1, h2, h3⟩
  have e : L[k]? = some L[k] := List.getElem?_eq_getElem h1
  rw [uAt_some e] at h2
  refine ⟨L[k], List.getElem_mem h1, by simpa using h2, ?_⟩
  rw [← h3]; simp [h1]
 ·rintro ⟨u, h1, h2, h3⟩
  obtain ⟨k, hk, rfl⟩ := List.getElem_of_mem h1
  refine ⟨k, hk, ?_, ?_⟩
  ·rw [uAt_some (List.getElem?_eq_getElem hk)]; simpa using h2
  ·rw [← h3]; simp [hk]
def kee (c : Int → Int) (p : Int) (u : UsP) (k : Nat) : Bool := decide (u.pr < p) && decide (p ≤ c (u.bl.getD k 0))
theorem gre_keep (c : Int → Int) (p q : Int) (u : UsP) (h : u.le.length = u.bl.length) : gre q u.le (kee c p u) u.le.length = maxF q (caU c p u) := by
 unfold gre
 refine maxF_same fun x => ?_
 rw [grL_mem]
 unfold kee
 by_cases hp : u.pr < p
 ·rw [show caU c p u = caL c p (u.bl.zip u.le) by unfold caU; rw [if_pos hp], caL_mem]
  constructor
  ·rintro ⟨k, h1, h2, h3⟩
   rw [Bool.and_eq_true, decide_eq_true_eq, decide_eq_true_eq] at h2
   refine ⟨u.bl.getD k 0, ?_, h2.2⟩
   have hb : k < u.bl.length := by omega
   have e : (u.bl.zip u.le)[k]? = some (u.bl.getD k 0, x) := by
    rw [List.getElem?_zip_eq_some]
    exact ⟨by simp [hb], by rw [← h3]; simp [h1]⟩
   exact List.mem_of_getElem? e
  ·rintro ⟨b, h1, h2⟩
   obtain ⟨k, hk⟩ := List.mem_iff_getElem?.1 h1
   rw [List.getElem?_zip_eq_some] at hk
   obtain ⟨k1, k2⟩ := hk
   have hl : k < u.le.length := (List.getElem?_eq_some_iff.1 k2).1
   refine ⟨k, hl, ?_, by rw [List.getD_eq_getElem?_getD, k2]; rfl⟩
   rw [Bool.and_eq_true, decide_eq_true_eq, decide_eq_true_eq]
   refine ⟨hp, ?_⟩
   rw [List.getD_eq_getElem?_getD, k1]; exact h2
 ·rw [show caU c p u = [] by unfold caU; rw [if_neg hp]]
  constructor
  ·rintro ⟨k, _, h2, _⟩
   rw [Bool.and_eq_true, decide_eq_true_eq] at h2
   exact absurd h2.1 hp
  ·intro h; simp at h
def waT (L : List UsP) (p : Int) (j : Nat) : Int := maxF 0 ((L.take j).flatMap (caU (ceB L) p))
theorem waT_zero (L : List UsP) (p : Int) : waT L p 0 = 0 := rfl
theorem waT_all (L : List UsP) (p : Int) : waT L p L.length = waB L p := by unfold waT waB; rw [List.take_length]
theorem waT_succ {L : List UsP} {p : Int} {j : Nat} {u : UsP} (h : L[j]? = some u) : waT L p (j + 1) = maxF (waT L p j) (caU (ceB L) p u) := by
 unfold waT
 obtain ⟨hj, e⟩ := List.getElem?_eq_some_iff.1 h
 rw [List.take_succ_eq_append_getElem hj, e, List.flatMap_append, maxF_append]
 congr 1
 simp
theorem waT_gre {L : List UsP} {p : Int} {j : Nat} {u : UsP} (h : L[j]? = some u) (hl : u.le.length = u.bl.length) : gre (waT L p j) u.le (kee (ceB L) p u) u.le.length = waT L p (j + 1) := by
 rw [gre_keep _ _ _ _ hl, waT_succ h]
def inB (n lo hi : Int) : Bool := decide (lo ≤ n) && decide (n ≤ hi)
def riseE (ahead room : Int) : List Int → Bool
 | [] => true
 | p :: l => decide (ahead < p) && (decide (p < room) && riseE p room l)
def lenE (n : Int) : Bool := inB n 0 1099511627776
def okU (B : Int) (u : UsP) : Bool := inB u.pr 1 100 && (decide (u.le.length = u.bl.length) && (riseE (-1) B u.bl && u.le.all lenE))
def okL (B : Int) (L : List UsP) : Bool := inB B 0 8 && (decide (L.length ≤ 8) && L.all (okU B))
theorem inB_iff {n lo hi : Int} : inB n lo hi = true ↔ lo ≤ n ∧ n ≤ hi := by unfold inB; simp
theorem inB_f {n lo hi : Int} (h : n < lo ∨ hi < n) : inB n lo hi = false := by
 unfold inB
 rcases h with h | h
 ·rw [decide_eq_false (p := lo ≤ n) (by omega)]; rfl
 ·rw [decide_eq_false (p := n ≤ hi) (by omega), Bool.and_false]
theorem riseE_mem {ahead room : Int} {l : List Int} (h : riseE ahead room l = true) : ∀ p ∈ l, ahead < p ∧ p < room := by
 induction l generalizing ahead with
 | nil => intro p hp; simp at hp
 | cons x l ih =>
  simp only [riseE, Bool.and_eq_true, decide_eq_true_eq] at h
  intro p hp
  rcases List.mem_cons.1 hp with rfl | hp
  ·exact ⟨h.1, h.2.1⟩
  ·have := ih h.2.2 p hp; omega
structure OkU (B : Int) (u : UsP) : Prop where
 pr1 : 1 ≤ u.pr
 pr2 : u.pr ≤ 100
 len : u.le.length = u.bl.length
 bl : ∀ b ∈ u.bl, 0 ≤ b ∧ b < B
 le : ∀ n ∈ u.le, 0 ≤ n ∧ n ≤ 1099511627776
theorem okU_of {B : Int} {u : UsP} (h : okU B u = true) : OkU B u := by
 unfold okU at h
 simp only [Bool.and_eq_true, decide_eq_true_eq, List.all_eq_true] at h
 obtain ⟨h1, h2, h3, h4⟩ := h
 obtain ⟨k1, k2⟩ := inB_iff.1 h1
 exact ⟨k1, k2, h2, fun b hb => by have := riseE_mem h3 b hb; omega, fun n hn => inB_iff.1 (h4 n hn)⟩
structure OkL (B : Int) (L : List UsP) : Prop where
 b0 : 0 ≤ B
 b8 : B ≤ 8
 len : L.length ≤ 8
 all : ∀ u ∈ L, OkU B u
theorem okL_of {B : Int} {L : List UsP} (h : okL B L = true) : OkL B L := by
 unfold okL at h
 simp only [Bool.and_eq_true, decide_eq_true_eq, List.all_eq_true] at h
 obtain ⟨h1, h2, h3⟩ := h
 obtain ⟨k1, k2⟩ := inB_iff.1 h1
 exact ⟨k1, k2, h2, fun u hu => okU_of (h3 u hu)⟩
def ceilL (B : Int) (L : List UsP) : List Int := (List.range B.toNat).map fun b : Nat => ceB L (b : Int)
def waitL (L : List UsP) : List Int := L.map fun u => waB L u.pr
def cL (B : Int) (L : List UsP) : List Int := if okL B L = true then ceilL B L else []
def wL (B : Int) (L : List UsP) : List Int := if okL B L = true then waitL L else []
theorem ceilL_len (B : Int) (L : List UsP) : (ceilL B L).length = B.toNat := by unfold ceilL; simp
theorem ceilL_at {B : Int} {L : List UsP} {b : Nat} (h : b < B.toNat) : (ceilL B L)[b]? = some (ceB L (b : Int)) := by unfold ceilL; simp [h]
theorem ceilL_get {B : Int} {L : List UsP} {b : Nat} (h : b < B.toNat) : (ceilL B L).getD b 0 = ceB L (b : Int) := by rw [List.getD_eq_getElem?_getD, ceilL_at h]; rfl
theorem waitL_len (L : List UsP) : (waitL L).length = L.length := by unfold waitL; simp
theorem waitL_at {L : List UsP} {i : Nat} {u : UsP} (h : L[i]? = some u) : (waitL L)[i]? = some (waB L u.pr) := by unfold waitL; rw [List.getElem?_map, h]; rfl
end Go.Proofs.YtngehojibcmieaaGreatDoor.Kc
end
section
namespace Go.Proofs.YtngehojibcmieaaGreatDoor.Kc
open Go.ChangeShapes Go.WideShapes Go.RowKit
theorem cell_lt {w : World} {p : Addr} {v : Value} (h : w.cell? p = some v) : p.block < w.heap.size := by
 rcases Nat.lt_or_ge p.block w.heap.size with h1 | h1
 ·exact h1
 ·unfold World.cell? at h
  rw [Array.getElem?_eq_none h1] at h
  simp at h
theorem keep_below {w W w9 : World} (h : Below w.heap.size w W) (hb : Below W.heap.size W w9) : Below w.heap.size w w9 := h.trans (hb.mono h.size)
theorem below_alloc (w : World) (o : Obj) : Below w.heap.size w (w.alloc o) := (Below.refl _ _).alloc (Nat.le_refl _) o
theorem keep_cell {W w9 : World} {p : Addr} {v : Value} (hb : Below W.heap.size W w9) (h : W.cell? p = some v) : w9.cell? p = some v := (hb.cell (cell_lt h)).trans h
theorem new_block (w : World) (o : Obj) : (w.alloc o).heap[w.heap.size]? = some o := Go.Deep.blk_alloc_new _ _
theorem cells_new (w : World) (cs : Array Value) (t : TypeId) (j : Nat) (v : Value) (h : cs.toList[j]? = some v) : (w.alloc (.cells cs t)).cell? ⟨w.heap.size, j, none⟩ = some v := by
 have := Lib.cell_of_heap (new_block w (.cells cs t)) j
 rw [this]
 simpa using h
theorem take_cons_drop {α : Type} {l : List α} {k : Nat} {x : α} (h : l[k]? = some x) : l.drop k = x :: l.drop (k + 1) := by
 obtain ⟨hk, e⟩ := List.getElem?_eq_some_iff.1 h
 rw [List.drop_eq_getElem_cons hk, e]
theorem all_step {α : Type} {f : α → Bool} {l : List α} {k : Nat} {x : α} (h : l[k]? = some x) : (l.drop k).all f = (f x && (l.drop (k + 1)).all f) := by
 rw [take_cons_drop h]; rfl
theorem getD_of {l : List Int} {k : Nat} {x : Int} (h : l[k]? = some x) : l.getD k 0 = x := by rw [List.getD_eq_getElem?_getD, h]; rfl
def Row (w : World) (a : Option Addr) (n : Nat) (l : List Int) : Prop :=
 n = l.length ∧ (0 < n → ∃ b off, a = some ⟨b, off, none⟩ ∧ b < w.heap.size ∧ ∀ i, i < n → w.cell? ⟨b, off + i, none⟩ = some (.int .i64 (l.getD i 0)))
theorem Row.below {w w' : World} {a : Option Addr} {n : Nat} {l : List Int} (h : Row w a n l) (hb : Below w.heap.size w w') : Row w' a n l := by
 refine ⟨h.1, fun hn => ?_⟩
 obtain ⟨b, off, rfl, hlt, hc⟩ := h.2 hn
 exact ⟨b, off, rfl, Nat.lt_of_lt_of_le hlt hb.size, fun i hi => (hb.cell (p := ⟨b, off + i, none⟩) hlt).trans (hc i hi)⟩
theorem Row.item {w : World} {a : Option Addr} {n k : Nat} {l : List Int} (h : Row w a n l) (hk : k < n) : ∃ b off x, a = some ⟨b, off, none⟩ ∧ b < w.heap.size ∧ l[k]? = some x ∧ w.cell? ⟨b, off + k, none⟩ = some (.int .i64 x) := by
 obtain ⟨b, off, e, hlt, hc⟩ := h.2 (by omega)
 have hl : k < l.length := by have := h.1; omega
 refine ⟨b, off, l.getD k 0, e, hlt, ?_, hc k hk⟩
 simp [hl]
theorem Row.nil (w : World) (a : Option Addr) : Row w a 0 [] := ⟨rfl, fun h => absurd h (by omega)⟩
theorem Row.own {w : World} {base : Nat} {v : Value} {m : Nat} {l : List Int} (h : w.ownsRow base 3 1 v m (l.map (Value.int .i64))) : ∃ a n c, v = .slice a n c ∧ Row w a n l := by
 have hml : m = l.length := by have := h.1; simp at this; omega
 subst hml
 have hl := h.lt
 have hc := fun g => h.cells (g := g)
 rcases h.2 with ⟨hv, h0⟩ | ⟨g, cap, _, hv, _⟩
 ·subst hv
  exact ⟨none, 0, 0, rfl, by omega, fun h => absurd h (by omega)⟩
 ·subst hv
  refine ⟨_, _, _, rfl, rfl, fun _ => ⟨g, 0, rfl, (hl g rfl).2, fun i hi => ?_⟩⟩
  have := hc g rfl i (.int .i64 (l.getD i 0)) (by simp [hi])
  by_cases h0 : i = 0
  ·subst h0; simpa [Addr.add] using this
  ·simpa [Addr.add, h0] using this
structure Sl where
 (a : Option Addr) (n c : Nat)
def Sl.v (s : Sl) : Value := .slice s.a s.n s.c
structure UsV where
 (pr : Int) (bl le : Sl)
def UsV.cells (t : UsV) : List Value := [.int .i64 t.pr, t.bl.v, t.le.v]
def SlI (w : World) (s : Sl) (l : List Int) : Prop := Row w s.a s.n l ∧ s.n ≤ 140737488355328
def UsV.Is (w : World) (t : UsV) (u : UsP) : Prop := t.pr = u.pr ∧ SlI w t.bl u.bl ∧ SlI w t.le u.le
def RowU (w : World) (a : Option Addr) (n : Nat) (L : List UsP) : Prop :=
 n = L.length ∧ (0 < n → ∃ b off, a = some ⟨b, off, none⟩ ∧ b < w.heap.size ∧ ∀ i, i < n → ∃ (t : UsV) (u : UsP), L[i]? = some u ∧ t.Is w u ∧ ∀ j v, t.cells[j]? = some v → w.cell? ⟨b, off + i * 3 + j, none⟩ = some v)
theorem SlI.below {w w' : World} {s : Sl} {l : List Int} (h : SlI w s l) (hb : Below w.heap.size w w') : SlI w' s l := ⟨h.1.below hb, h.2⟩
theorem UsV.Is.below {w w' : World} {t : UsV} {u : UsP} (h : t.Is w u) (hb : Below w.heap.size w w') : t.Is w' u := ⟨h.1, h.2.1.below hb, h.2.2.below hb⟩
theorem RowU.below {w w' : World} {a : Option Addr} {n : Nat} {L : List UsP} (h : RowU w a n L) (hb : Below w.heap.size w w') : RowU w' a n L := by
 refine ⟨h.1, fun hn => ?_⟩
 obtain ⟨b, off, e, hlt, hc⟩ := h.2 hn
 refine ⟨b, off, e, Nat.lt_of_lt_of_le hlt hb.size, fun i hi => ?_⟩
 obtain ⟨t, u, h0, h1, h2⟩ := hc i hi
 exact ⟨t, u, h0, h1.below hb, fun j v hj => keep_cell hb (h2 j v hj)⟩
theorem RowU.item {w W : World} {a : Option Addr} {n k : Nat} {L : List UsP} (h : RowU w a n L) (hb : Below w.heap.size w W) (hk : k < n) :
  ∃ b off u xa xn xc la ln lc, a = some ⟨b, off, none⟩ ∧ b < w.heap.size ∧ L[k]? = some u ∧ (Row w xa xn u.bl ∧ xn ≤ 140737488355328) ∧ (Row w la ln u.le ∧ ln ≤ 140737488355328) ∧
   W.cell? ⟨b, off + k * 3, none⟩ = some (.int .i64 u.pr) ∧ W.cell? ⟨b, off + k * 3 + 1, none⟩ = some (.slice xa xn xc) ∧ W.cell? ⟨b, off + k * 3 + 2, none⟩ = some (.slice la ln lc) := by
 obtain ⟨b, off, e, hlt, hc⟩ := h.2 (by omega)
 obtain ⟨t, u, h0, ⟨k1, k2, k3⟩, h2⟩ := hc k hk
 have c1 := keep_cell hb (h2 0 _ rfl)
 rw [k1] at c1
 exact ⟨b, off, u, _, _, _, _, _, _, e, hlt, h0, k2, k3, c1, keep_cell hb (h2 1 _ rfl), keep_cell hb (h2 2 _ rfl)⟩
theorem inside_any (n lo hi : Int) (w : World) : Calls Tryz.prog 154 #[.int .i64 n, .int .i64 lo, .int .i64 hi] w fun e w' => e = .returned (.bool (inB n lo hi)) ∧ w = w' := by
 by_cases h : lo ≤ n
 ·obtain ⟨z, hz⟩ : ∃ z, z = decide (n ≤ hi) := ⟨_, rfl⟩
  have e : inB n lo hi = z := by unfold inB; rw [decide_eq_true h, hz]; rfl
  rw [e]
  have d : decide (lo ≤ n) = true := decide_eq_true h
  cases z
  all_goals
   have hz2 := hz.symm
   clear hz e
   go_enter Tryz.func154, Tryz.ntmps154
   go_wp2
   go_ret
   exact ⟨rfl, rfl⟩
 ·have e : inB n lo hi = false := inB_f (by omega)
  rw [e]
  have d : decide (lo ≤ n) = false := decide_eq_false h
  go_enter Tryz.func154, Tryz.ntmps154
  go_wp2
  go_ret
  exact ⟨rfl, rfl⟩
theorem rise_step {A room p : Int} {l : List Int} {k : Nat} (h : l[k]? = some p) : riseE A room (l.drop k) = (decide (A < p) && (decide (p < room) && riseE p room (l.drop (k + 1)))) := by
 rw [take_cons_drop h]; rfl
theorem rise_any (a : Option Addr) (n c : Nat) (l : List Int) (room : Int) (w : World) (hr : Row w a n l) (hn : n ≤ 140737488355328) (r : Bool) (hq : riseE (-1) room l = r) :
  Calls Tryz.prog 197 #[.slice a n c, .int .i64 room] w fun e w' => e = .returned (.bool r) ∧ Below w.heap.size w w' := by
 have HL := Lib.hid hr.1
 have HQ := Lib.hid hq
 clear hq
 have hm : n ≤ 9223372036854775807 := by omega
 go_enter Tryz.func197, Tryz.ntmps197
 go_wp2
 go_loopw [5, 10] (fun x i wr => ∃ (k : Nat) (A : Int), k ≤ n ∧ i = .int .i64 k ∧ x = .int .i64 A ∧ Hid (riseE A room (l.drop k) = r) ∧ Below w.heap.size w wr) (fun _ i _ => n - (intOf i).toNat)
 case atStart => exact ⟨0, -1, by omega, rfl, rfl, HQ, Below.refl _ _⟩
 case round =>
  obtain ⟨k, A, hk, rfl, rfl, HS, hbl⟩ := hrel
  by_cases hlt : k < n
  ·obtain ⟨b1, o1, p, rfl, hB1, hx, hc1⟩ := (hr.below hbl).item hlt
   have HE := Lib.hid (rise_step (A := A) (room := room) hx)
   clear hx
   have i1 : (0 : Int) ≤ (k : Int) := by omega
   have i2 : (k : Int) < (n : Int) := by omega
   by_cases h1 : p ≤ A
   ·have HR : Hid (r = false) := by have := HS.out; rw [HE.out, decide_eq_false (p := A < p) (by omega)] at this; exact this.symm
    have d1 : decide (p ≤ A) = true := decide_eq_true h1
    go_wp2
    go_ret
    exact ⟨by rw [HR.out]; rfl, hbl⟩
   have d1 : decide (p ≤ A) = false := decide_eq_false h1
   by_cases h2 : room ≤ p
   ·have HR : Hid (r = false) := by have := HS.out; rw [HE.out, decide_eq_false (p := p < room) (by omega), Bool.false_and, Bool.and_false] at this; exact this.symm
    have d2 : decide (room ≤ p) = true := decide_eq_true h2
    go_wp2
    go_ret
    exact ⟨by rw [HR.out]; rfl, hbl⟩
   have d2 : decide (room ≤ p) = false := decide_eq_false h2
   have HT : Hid (riseE p room (l.drop (k + 1)) = r) := by have := HS.out; rw [HE.out, decide_eq_true (p := p < room) (by omega), decide_eq_true (p := A < p) (by omega)] at this; exact this
   go_wp2
   go_roundw
   case rel => exact ⟨k + 1, p, by omega, by go_num, rfl, HT, hbl⟩
   case measure => simp [intOf]; omega
  ·obtain rfl : k = n := by omega
   have HR : Hid (r = true) := by have := HS.out; rw [List.drop_of_length_le (by rw [HL.out]; exact Nat.le_refl _)] at this; exact this.symm
   go_wp2
   go_ret
   exact ⟨by rw [HR.out]; rfl, hbl⟩
theorem notLen_any (n : Int) (w : World) (r : Bool) (hq : lenE n = r) : Calls Tryz.prog 230 #[.int .i64 n] w fun e w' => e = .returned (.bool (!r)) ∧ w = w' := by
 have C := Lib.hid (fun W => inside_any n 0 1099511627776 W)
 have HQ := Lib.hid hq
 clear hq
 go_enter Tryz.func230, Tryz.ntmps230
 go_wp2_with (go_at_call 154; refine (C.out _).mono ?_; rintro e w1 ⟨rfl, rfl⟩)
 go_ret
 exact ⟨by rw [← HQ.out]; rfl, rfl⟩
theorem indexLen_any (a : Option Addr) (n c : Nat) (l : List Int) (w : World) (hr : Row w a n l) (hn : n ≤ 140737488355328) :
  Calls Tryz.prog 220 #[.slice a n c, .func (.func 230) #[] #[]] w fun e w' => ∃ i, e = .returned (.int .i64 i) ∧ (decide (0 ≤ i)) = (!l.all lenE) ∧ Below w.heap.size w w' := by
 have HL := Lib.hid hr.1
 obtain ⟨r, hq⟩ : ∃ r, l.all lenE = r := ⟨_, rfl⟩
 rw [hq]
 have HQ : Hid ((l.drop 0).all lenE = r) := hq
 clear hq
 go_enter Tryz.func220, Tryz.ntmps220
 go_wp2
 go_loopw [8] (fun i wr => ∃ k : Nat, k ≤ n ∧ i = .int .i64 k ∧ Hid ((l.drop k).all lenE = r) ∧ Below w.heap.size w wr) (fun i _ => n - (intOf i).toNat)
 case atStart => exact ⟨0, by omega, rfl, HQ, Below.refl _ _⟩
 case round =>
  obtain ⟨k, hk, rfl, HA, hbl⟩ := hrel
  by_cases hlt : k < n
  ·obtain ⟨b1, o1, x, rfl, hB1, hx, hc1⟩ := (hr.below hbl).item hlt
   have HE := Lib.hid (all_step (f := lenE) hx)
   clear hx
   obtain ⟨v, hv⟩ : ∃ v, lenE x = v := ⟨_, rfl⟩
   have CE := Lib.hid (fun W => notLen_any x W v hv)
   have HV := Lib.hid hv
   clear hv
   cases v
   ·have HR : Hid (r = false) := by have := HA.out; rw [HE.out, HV.out] at this; exact this.symm
    go_wp2_with (go_at_call 230; refine (CE.out _).mono ?_; rintro e w2 ⟨rfl, rfl⟩)
    go_ret
    exact ⟨_, rfl, by rw [HR.out]; simp, hbl⟩
   ·have HA2 : Hid ((l.drop (k + 1)).all lenE = r) := by have := HA.out; rw [HE.out, HV.out] at this; exact this
    go_wp2_with (go_at_call 230; refine (CE.out _).mono ?_; rintro e w2 ⟨rfl, rfl⟩)
    go_roundw
    case rel => exact ⟨k + 1, by omega, by go_num, HA2, hbl⟩
    case measure => simp [intOf]; omega
  ·have hkn : k = n := by omega
   subst hkn
   have HR : Hid (r = true) := by have := HA.out; rw [List.drop_of_length_le (by rw [HL.out]; exact Nat.le_refl _)] at this; exact this.symm
   go_wp2
   go_ret
   exact ⟨_, rfl, by rw [HR.out]; rfl, hbl⟩
theorem containsLen_any (a : Option Addr) (n c : Nat) (l : List Int) (w : World) (hr : Row w a n l) (hn : n ≤ 140737488355328) :
  Calls Tryz.prog 183 #[.slice a n c, .func (.func 230) #[] #[]] w fun e w' => e = .returned (.bool (!l.all lenE)) ∧ Below w.heap.size w w' := by
 have C := Lib.hid (indexLen_any a n c l w hr hn)
 clear hr hn
 go_enter Tryz.func183, Tryz.ntmps183
 go_wp2_with (go_at_call 220; refine C.out.mono ?_; rintro e w1 ⟨i, rfl, hi, hb⟩)
 go_ret
 exact ⟨by rw [← hi]; rfl, hb⟩
theorem rightLens_any (a : Option Addr) (n c : Nat) (l : List Int) (w : World) (hr : Row w a n l) (hn : n ≤ 140737488355328) (r : Bool) (hq : l.all lenE = r) :
  Calls Tryz.prog 198 #[.slice a n c] w fun e w' => e = .returned (.bool r) ∧ Below w.heap.size w w' := by
 have C := Lib.hid (containsLen_any a n c l w hr hn)
 have HQ := Lib.hid hq
 clear hr hn hq
 go_enter Tryz.func198, Tryz.ntmps198
 go_wp2_with (go_at_call 183; refine C.out.mono ?_; rintro e w1 ⟨rfl, hb⟩)
 go_ret
 exact ⟨by rw [HQ.out]; simp, hb⟩
/-! ### A number among some -/
theorem indexOf_any (a : Option Addr) (n c : Nat) (l : List Int) (x : Int) (w : World) (hr : Row w a n l) (hn : n ≤ 140737488355328) :
  Calls Tryz.prog 158 #[.slice a n c, .int .i64 x] w fun e w' => ∃ i, e = .returned (.int .i64 i) ∧ (decide (0 ≤ i)) = l.contains x ∧ w' = w := by
 have HL := Lib.hid hr.1
 obtain ⟨r, hq⟩ : ∃ r, l.contains x = r := ⟨_, rfl⟩
 rw [hq]
 have HQ : Hid ((l.drop 0).contains x = r) := hq
 clear hq
 go_enter Tryz.func158, Tryz.ntmps158
 go_wp2
 go_loopw [8] (fun i wr => ∃ k : Nat, k ≤ n ∧ i = .int .i64 k ∧ Hid ((l.drop k).contains x = r) ∧ wr = w) (fun i _ => n - (intOf i).toNat)
 case atStart => exact ⟨0, by omega, rfl, HQ, rfl⟩
 case round =>
  obtain ⟨k, hk, rfl, HA, rfl⟩ := hrel
  by_cases hlt : k < n
  ·obtain ⟨b1, o1, y, rfl, hB1, hx, hc1⟩ := hr.item hlt
   have HE : Hid ((l.drop k).contains x = (x == y || (l.drop (k + 1)).contains x)) := by show _ = _; rw [take_cons_drop hx, List.contains_cons]
   clear hx
   by_cases hv : x = y
   ·have HR : Hid (r = true) := by have := HA.out; rw [HE.out, hv, beq_self_eq_true] at this; exact this.symm
    go_wp2
    go_ret
    exact ⟨_, rfl, by rw [HR.out]; simp, rfl⟩
   ·have HA2 : Hid ((l.drop (k + 1)).contains x = r) := by have := HA.out; rw [HE.out, beq_eq_false_iff_ne.2 hv] at this; exact this
    go_wp2
    go_roundw
    case rel => exact ⟨k + 1, by omega, by go_num, HA2, by trivial⟩
    case measure => simp [intOf]; omega
  ·have hkn : k = n := by omega
   subst hkn
   have HR : Hid (r = false) := by have := HA.out; rw [List.drop_of_length_le (by rw [HL.out]; exact Nat.le_refl _)] at this; exact this.symm
   go_wp2
   go_ret
   exact ⟨_, rfl, by rw [HR.out]; rfl, rfl⟩
theorem contains_any (a : Option Addr) (n c : Nat) (l : List Int) (x : Int) (w : World) (hr : Row w a n l) (hn : n ≤ 140737488355328) (r : Bool) (hq : l.contains x = r) :
  Calls Tryz.prog 114 #[.slice a n c, .int .i64 x] w fun e w' => e = .returned (.bool r) ∧ w' = w := by
 have C := Lib.hid (indexOf_any a n c l x w hr hn)
 have HQ := Lib.hid hq
 clear hr hn hq
 go_enter Tryz.func114, Tryz.ntmps114
 go_wp2_with (go_at_call 158; refine C.out.mono ?_; rintro e w1 ⟨i, rfl, hi, rfl⟩; have HI := Lib.hid (hi.trans HQ.out); clear hi)
 go_ret
 exact ⟨by rw [← HI.out]; rfl, rfl⟩
def One (w : World) (b : Nat) (cs : List Value) (W : World) : Prop := Below w.heap.size w W ∧ ∀ j v, cs[j]? = some v → W.cell? ⟨b, j, none⟩ = some v
theorem One.keep {w W W' : World} {b : Nat} {cs : List Value} (h : One w b cs W) (hb : Below W.heap.size W W') : One w b cs W' := ⟨keep_below h.1 hb, fun j v hj => keep_cell hb (h.2 j v hj)⟩
theorem One.new (w : World) (cs : Array Value) (t : TypeId) : One w w.heap.size cs.toList (w.alloc (.cells cs t)) := ⟨below_alloc _ _, cells_new w cs t⟩
theorem rightUse_any (B pr : Int) (xa : Option Addr) (xn xc : Nat) (la : Option Addr) (ln lc : Nat) (u : UsP) (w : World) (hp : pr = u.pr) (hx : Row w xa xn u.bl) (hxn : xn ≤ 140737488355328) (hl : Row w la ln u.le) (hln : ln ≤ 140737488355328) (r : Bool) (hq : okU B u = r) :
  Calls Tryz.prog 157 #[.int .i64 B, .agg #[.int .i64 pr, .slice xa xn xc, .slice la ln lc]] w fun e w' => e = .returned (.bool r) ∧ Below w.heap.size w w' := by
 obtain ⟨x1, e1⟩ : ∃ x, inB pr 1 100 = x := ⟨_, rfl⟩
 obtain ⟨x3, e3⟩ : ∃ x, riseE (-1) B u.bl = x := ⟨_, rfl⟩
 obtain ⟨x4, e4⟩ : ∃ x, u.le.all lenE = x := ⟨_, rfl⟩
 have HS : Hid ((x1 && (decide (ln = xn) && (x3 && x4))) = r) := by
  show _ = _
  rw [← hq, ← e1, ← e3, ← e4, hp]; unfold okU; rw [hx.1, hl.1]
 have A1 := Lib.hid (fun W => inside_any pr 1 100 W)
 rw [e1] at A1
 have A3 := Lib.hid (fun W (h : Below w.heap.size w W) => rise_any xa xn xc u.bl B W (hx.below h) hxn x3 e3)
 have A4 := Lib.hid (fun W (h : Below w.heap.size w W) => rightLens_any la ln lc u.le W (hl.below h) hln x4 e4)
 have I1 := Lib.hid (One.new w #[.int .i64 pr, .slice xa xn xc, .slice la ln lc] 125)
 have d0 := I1.out.2 0 _ rfl
 have d1 := I1.out.2 1 _ rfl
 have d2 := I1.out.2 2 _ rfl
 clear hq hp hx hl e1 e3 e4
 cases x1
 ·have HR : Hid (r = false) := HS.out.symm
  go_enter Tryz.func157, Tryz.ntmps157
  go_wp2_with (go_at_call 154; refine (A1.out _).mono ?_; rintro e w1 ⟨rfl, rfl⟩)
  go_ret
  exact ⟨by rw [HR.out]; rfl, I1.out.1⟩
 by_cases hlen : ln = xn
 ·have HS2 : Hid ((x3 && x4) = r) := by have := HS.out; rw [decide_eq_true hlen] at this; exact this
  clear HS
  subst hlen
  cases x3
  ·have HR : Hid (r = false) := HS2.out.symm
   go_enter Tryz.func157, Tryz.ntmps157
   go_wp2_with (first
    | (go_at_call 197; refine (A3.out _ I1.out.1).mono ?_; rintro e w2 ⟨rfl, hb2⟩; have J2 := I1.out.keep hb2)
    | (go_at_call 154; refine (A1.out _).mono ?_; rintro e w1 ⟨rfl, rfl⟩))
   go_ret
   exact ⟨by rw [HR.out]; rfl, J2.1⟩
  ·have HR : Hid (x4 = r) := HS2.out
   go_enter Tryz.func157, Tryz.ntmps157
   go_wp2_with (first
    | (go_at_call 198; refine (A4.out _ J2.1).mono ?_; rintro e w3 ⟨rfl, hb3⟩; have J3 := J2.keep hb3)
    | (go_at_call 197; refine (A3.out _ I1.out.1).mono ?_; rintro e w2 ⟨rfl, hb2⟩; have J2 := I1.out.keep hb2; have d3 := J2.2 2 _ rfl)
    | (go_at_call 154; refine (A1.out _).mono ?_; rintro e w1 ⟨rfl, rfl⟩))
   go_ret
   exact ⟨by rw [HR.out]; simp, J3.1⟩
 ·have hleni : ¬ (ln : Int) = (xn : Int) := by omega
  have HR : Hid (r = false) := by have := HS.out; rw [decide_eq_false hlen] at this; exact this.symm
  go_enter Tryz.func157, Tryz.ntmps157
  go_wp2_with (go_at_call 154; refine (A1.out _).mono ?_; rintro e w1 ⟨rfl, rfl⟩)
  go_ret
  exact ⟨by rw [HR.out]; rfl, I1.out.1⟩
theorem notUse_any (B pr : Int) (xa : Option Addr) (xn xc : Nat) (la : Option Addr) (ln lc : Nat) (u : UsP) (w : World) (g : Nat) (hg : w.cell? ⟨g, 0, none⟩ = some (.int .i64 B)) (hp : pr = u.pr) (hx : Row w xa xn u.bl) (hxn : xn ≤ 140737488355328) (hl : Row w la ln u.le) (hln : ln ≤ 140737488355328) (r : Bool) (hq : okU B u = r) :
  Calls Tryz.prog 156 #[.agg #[.int .i64 pr, .slice xa xn xc, .slice la ln lc], .pointer (some ⟨g, 0, none⟩)] w fun e w' => e = .returned (.bool (!r)) ∧ Below w.heap.size w w' := by
 have I1 := Lib.hid (One.new w #[.int .i64 pr, .slice xa xn xc, .slice la ln lc] 125)
 have C := Lib.hid (fun W (h : Below w.heap.size w W) => rightUse_any B pr xa xn xc la ln lc u W hp (hx.below h) hxn (hl.below h) hln r hq)
 have d0 := I1.out.2 0 _ rfl
 have d1 := I1.out.2 1 _ rfl
 have d2 := I1.out.2 2 _ rfl
 have hg' := keep_cell I1.out.1 hg
 clear hg hp hx hl hq
 go_enter Tryz.func156, Tryz.ntmps156
 go_wp2_with (go_at_call 157; refine (C.out _ I1.out.1).mono ?_; rintro e w1 ⟨rfl, hb⟩; have J := I1.out.keep hb)
 go_ret
 exact ⟨rfl, J.1⟩
theorem indexUse_any (B : Int) (a : Option Addr) (n c : Nat) (L : List UsP) (w : World) (g : Nat) (hg : w.cell? ⟨g, 0, none⟩ = some (.int .i64 B)) (hr : RowU w a n L) (hn : n ≤ 140737488355328) :
  Calls Tryz.prog 196 #[.slice a n c, .func (.func 156) #[] #[.pointer (some ⟨g, 0, none⟩)]] w fun e w' => ∃ i, e = .returned (.int .i64 i) ∧ (decide (0 ≤ i)) = (!L.all (okU B)) ∧ Below w.heap.size w w' := by
 have HL := Lib.hid hr.1
 obtain ⟨r, hq⟩ : ∃ r, L.all (okU B) = r := ⟨_, rfl⟩
 rw [hq]
 have HQ : Hid ((L.drop 0).all (okU B) = r) := hq
 have HG := Lib.hid hg
 clear hq hg
 go_enter Tryz.func196, Tryz.ntmps196
 go_wp2
 go_loopw [8] (fun i wr => ∃ k : Nat, k ≤ n ∧ i = .int .i64 k ∧ Hid ((L.drop k).all (okU B) = r) ∧ Below w.heap.size w wr) (fun i _ => n - (intOf i).toNat)
 case atStart => exact ⟨0, by omega, rfl, HQ, Below.refl _ _⟩
 case round =>
  obtain ⟨k, hk, rfl, HA, hbl⟩ := hrel
  by_cases hlt : k < n
  ·obtain ⟨b1, o1, u, xa, xn, xc, la, ln, lc, rfl, hB1, hx, ⟨hX, hXm⟩, ⟨hE, hEm⟩, h0, h1, h2⟩ := hr.item hbl hlt
   have HE := Lib.hid (all_step (f := okU B) hx)
   clear hx
   have i1 : (0 : Int) ≤ (k : Int) := by omega
   have i2 : (k : Int) < (n : Int) := by omega
   obtain ⟨v, hv⟩ : ∃ v, okU B u = v := ⟨_, rfl⟩
   have CE := Lib.hid (notUse_any B u.pr xa xn xc la ln lc u wr g (keep_cell hbl HG.out) rfl (hX.below hbl) hXm (hE.below hbl) hEm v hv)
   have HV := Lib.hid hv
   clear hv hX hE
   cases v
   ·have HR : Hid (r = false) := by have := HA.out; rw [HE.out, HV.out] at this; exact this.symm
    go_wp2_with (go_at_call 156; refine CE.out.mono ?_; rintro e w2 ⟨rfl, hb2⟩)
    go_ret
    exact ⟨_, rfl, by rw [HR.out]; simp, keep_below hbl hb2⟩
   ·have HA2 : Hid ((L.drop (k + 1)).all (okU B) = r) := by have := HA.out; rw [HE.out, HV.out] at this; exact this
    go_wp2_with (go_at_call 156; refine CE.out.mono ?_; rintro e w2 ⟨rfl, hb2⟩)
    go_roundw
    case rel => exact ⟨k + 1, by omega, by go_num, HA2, keep_below hbl hb2⟩
    case measure => simp [intOf]; omega
  ·have hkn : k = n := by omega
   subst hkn
   have HR : Hid (r = true) := by have := HA.out; rw [List.drop_of_length_le (by rw [HL.out]; exact Nat.le_refl _)] at this; exact this.symm
   go_wp2
   go_ret
   exact ⟨_, rfl, by rw [HR.out]; rfl, hbl⟩
theorem containsUse_any (B : Int) (a : Option Addr) (n c : Nat) (L : List UsP) (w : World) (g : Nat) (hg : w.cell? ⟨g, 0, none⟩ = some (.int .i64 B)) (hr : RowU w a n L) (hn : n ≤ 140737488355328) :
  Calls Tryz.prog 155 #[.slice a n c, .func (.func 156) #[] #[.pointer (some ⟨g, 0, none⟩)]] w fun e w' => e = .returned (.bool (!L.all (okU B))) ∧ Below w.heap.size w w' := by
 have C := Lib.hid (indexUse_any B a n c L w g hg hr hn)
 clear hr hn hg
 go_enter Tryz.func155, Tryz.ntmps155
 go_wp2_with (go_at_call 196; refine C.out.mono ?_; rintro e w1 ⟨i, rfl, hi, hb⟩)
 go_ret
 exact ⟨by rw [← hi]; rfl, hb⟩
theorem right_any (B : Int) (a : Option Addr) (n c : Nat) (L : List UsP) (w : World) (hr : RowU w a n L) (hn : n ≤ 140737488355328) (r : Bool) (hq : okL B L = r) :
  Calls Tryz.prog 111 #[.int .i64 B, .slice a n c] w fun e w' => e = .returned (.bool r) ∧ Below w.heap.size w w' := by
 have hmf : ∀ (fn : Fn) (first cap : Array Value) (w : World), (Instr.makeFunc fn first cap).run Tryz.prog w = .ok (.func fn first cap) w := fun _ _ _ _ => rfl
 obtain ⟨x1, e1⟩ : ∃ x, inB B 0 8 = x := ⟨_, rfl⟩
 obtain ⟨x3, e3⟩ : ∃ x, L.all (okU B) = x := ⟨_, rfl⟩
 have HS : Hid ((x1 && (decide (n ≤ 8) && x3)) = r) := by
  show _ = _
  rw [← hq, ← e1, ← e3]; unfold okL; rw [hr.1]
 have A1 := Lib.hid (fun W => inside_any B 0 8 W)
 rw [e1] at A1
 have I1 := Lib.hid (One.new w #[.int .i64 B] 3)
 have d0 := I1.out.2 0 _ rfl
 have A3 := Lib.hid (containsUse_any B a n c L _ w.heap.size d0 (hr.below I1.out.1) hn)
 rw [e3] at A3
 clear hq hr e1 e3
 cases x1
 ·have HR : Hid (r = false) := HS.out.symm
  go_enter Tryz.func111, Tryz.ntmps111
  go_wp2_with (go_at_call 154; refine (A1.out _).mono ?_; rintro e w1 ⟨rfl, rfl⟩)
  go_ret
  exact ⟨by rw [HR.out]; rfl, I1.out.1⟩
 by_cases hlen : n ≤ 8
 ·have hleni : ¬ (8 : Int) < (n : Int) := by omega
  have HR : Hid (x3 = r) := by have := HS.out; rw [decide_eq_true hlen] at this; exact this
  go_enter Tryz.func111, Tryz.ntmps111
  go_wp2_with (first
   | (go_at_call 155; refine A3.out.mono ?_; rintro e w2 ⟨rfl, hb2⟩; have J2 := I1.out.keep hb2)
   | (go_at_call 154; refine (A1.out _).mono ?_; rintro e w1 ⟨rfl, rfl⟩))
  go_ret
  exact ⟨by rw [HR.out]; simp, J2.1⟩
 ·have hleni : (8 : Int) < (n : Int) := by omega
  have HR : Hid (r = false) := by have := HS.out; rw [decide_eq_false hlen] at this; exact this.symm
  go_enter Tryz.func111, Tryz.ntmps111
  go_wp2_with (go_at_call 154; refine (A1.out _).mono ?_; rintro e w1 ⟨rfl, rfl⟩)
  go_ret
  exact ⟨by rw [HR.out]; rfl, I1.out.1⟩
theorem greatest_any (f : FuncId) (cap : Array Value) (p : Int) (a : Option Addr) (n c : Nat) (l : List Int) (cnt : Nat → Bool) (w : World) (hr : Row w a n l) (hn : n ≤ 140737488355328)
  (hen : ∀ (args : Array Value) (W : World), (callFunc f args).run Tryz.prog W = .ok (.enter f args) W)
  (hc : ∀ (W : World) (k : Nat), k < n → Below w.heap.size w W → Calls Tryz.prog f (#[.int .i64 k] ++ cap) W fun e w' => e = .returned (.bool (cnt k)) ∧ Below W.heap.size W w') :
  Calls Tryz.prog 51 #[.int .i64 p, .slice a n c, .func (.func f) #[] cap] w fun e w' => e = .returned (.int .i64 (gre p l cnt n)) ∧ Below w.heap.size w w' := by
 have HC := Lib.hid hc
 obtain ⟨G, hG⟩ : ∃ G, G = gre p l cnt := ⟨_, rfl⟩
 have HG0 : Hid (G 0 = p) := by rw [hG]; rfl
 have HGl : Hid (∀ k x, l[k]? = some x → x ≤ G k → G (k + 1) = G k) := by intro k x h1 h2; rw [hG] at h2 ⊢; exact gre_low (by rw [getD_of h1]; exact h2)
 have HGt : Hid (∀ k x, l[k]? = some x → cnt k = true → G k < x → G (k + 1) = x) := by intro k x h1 h3 h2; rw [hG] at h2 ⊢; rw [gre_take h3 (by rw [getD_of h1]; exact h2), getD_of h1]
 have HGs : Hid (∀ k, cnt k = false → G (k + 1) = G k) := by intro k h3; rw [hG]; exact gre_skip h3
 rw [← hG]
 clear hc hG
 go_enter Tryz.func51, Tryz.ntmps51
 go_wp2
 go_loopw [0, 11] (fun s i wr => ∃ k : Nat, ∃ B : Int, k ≤ n ∧ i = .int .i64 k ∧ s = .int .i64 B ∧ Hid (B = G k) ∧ Below w.heap.size w wr) (fun _ i _ => n - (intOf i).toNat)
 case atStart => exact ⟨0, p, by omega, rfl, rfl, HG0.out.symm, Below.refl _ _⟩
 case round =>
  obtain ⟨k, B, hk, rfl, rfl, HB, hbl⟩ := hrel
  by_cases hlt : k < n
  ·obtain ⟨b1, o1, x, rfl, hB1, hx, hc1⟩ := (hr.below hbl).item hlt
   have HX := Lib.hid hx
   clear hx
   have i1 : (0 : Int) ≤ (k : Int) := by omega
   have i2 : (k : Int) < (n : Int) := by omega
   by_cases hgt : B < x
   ·have d1 : decide (B < x) = true := decide_eq_true hgt
    obtain ⟨v, hv⟩ : ∃ v, cnt k = v := ⟨_, rfl⟩
    have CE := HC.out wr k hlt hbl
    rw [hv] at CE
    have CE := Lib.hid CE
    have HV := Lib.hid hv
    clear hv
    cases v
    ·have HB2 : Hid (B = G (k + 1)) := by show _ = _; rw [HGs.out k HV.out]; exact HB.out
     go_wp2_with (refine CE.out.mono ?_; rintro e w2 ⟨rfl, hb2⟩)
     go_roundw
     case rel => exact ⟨k + 1, B, by omega, by go_num, rfl, HB2, keep_below hbl hb2⟩
     case measure => simp [intOf]; omega
    ·have HB2 : Hid (x = G (k + 1)) := by show _ = _; rw [HGt.out k x HX.out HV.out (by rw [← HB.out]; exact hgt)]
     go_wp2_with (refine CE.out.mono ?_; rintro e w2 ⟨rfl, hb2⟩)
     go_roundw
     case rel => exact ⟨k + 1, x, by omega, by go_num, rfl, HB2, keep_below hbl hb2⟩
     case measure => simp [intOf]; omega
   ·have d1 : decide (B < x) = false := decide_eq_false hgt
    have HB2 : Hid (B = G (k + 1)) := by show _ = _; rw [HGl.out k x HX.out (by rw [← HB.out]; omega)]; exact HB.out
    go_wp2
    go_roundw
    case rel => exact ⟨k + 1, B, by omega, by go_num, rfl, HB2, hbl⟩
    case measure => simp [intOf]; omega
  ·have hkn : k = n := by omega
   subst hkn
   go_wp2
   go_ret
   exact ⟨by rw [← HB.out]; rfl, hbl⟩
theorem hasBlock_any (k gl gb : Nat) (a : Option Addr) (n c : Nat) (L : List UsP) (b : Int) (w : World) (hl : w.cell? ⟨gl, 0, none⟩ = some (.slice a n c)) (hb : w.cell? ⟨gb, 0, none⟩ = some (.int .i64 b)) (hr : RowU w a n L) (hk : k < n) :
  Calls Tryz.prog 113 #[.int .i64 k, .pointer (some ⟨gl, 0, none⟩), .pointer (some ⟨gb, 0, none⟩)] w fun e w' => e = .returned (.bool ((uAt L k).bl.contains b)) ∧ Below w.heap.size w w' := by
 obtain ⟨b1, o1, u, xa, xn, xc, la, ln, lc, rfl, hB1, hx, ⟨hX, hXm⟩, _, h0, h1, h2⟩ := hr.item (Below.refl _ _) hk
 rw [uAt_some hx]
 clear hx hr
 obtain ⟨r, hq⟩ : ∃ r, u.bl.contains b = r := ⟨_, rfl⟩
 have C := Lib.hid (fun W (h : Below w.heap.size w W) => contains_any xa xn xc u.bl b W (hX.below h) hXm r hq)
 rw [hq]
 clear hq hX
 have i1 : (0 : Int) ≤ (k : Int) := by omega
 have i2 : (k : Int) < (n : Int) := by omega
 go_enter Tryz.func113, Tryz.ntmps113
 go_wp2
 go_quiet (exact Calls.quiet_of_same (C.out _ ⟨rfl, rfl, rfl, Nat.le_refl _, fun _ _ => rfl⟩))
 go_wp2
 go_ret
 exact ⟨rfl, ⟨rfl, rfl, rfl, Nat.le_refl _, fun _ _ => rfl⟩⟩
theorem keeps_any (k gu go gc : Nat) (p q : Int) (xa : Option Addr) (xn xc : Nat) (ca : Option Addr) (cn cc : Nat) (bl C : List Int) (w : World) (hu0 : w.cell? ⟨gu, 0, none⟩ = some (.int .i64 q)) (hu1 : w.cell? ⟨gu, 1, none⟩ = some (.slice xa xn xc))
  (ho : w.cell? ⟨go, 0, none⟩ = some (.int .i64 p)) (hc : w.cell? ⟨gc, 0, none⟩ = some (.slice ca cn cc)) (hX : Row w xa xn bl) (hC : Row w ca cn C) (hk : k < xn) (hb : ∀ b ∈ bl, 0 ≤ b ∧ b < cn) :
  Calls Tryz.prog 112 #[.int .i64 k, .pointer (some ⟨gu, 0, none⟩), .pointer (some ⟨go, 0, none⟩), .pointer (some ⟨gc, 0, none⟩)] w fun e w' => e = .returned (.bool (decide (q < p) && decide (p ≤ C.getD (bl.getD k 0).toNat 0))) ∧ Below w.heap.size w w' := by
 obtain ⟨b1, o1, b, rfl, hB1, hx, h1⟩ := hX.item hk
 obtain ⟨hb1, hb2⟩ := hb b (List.mem_of_getElem? hx)
 rw [getD_of hx]
 obtain ⟨m, rfl⟩ := Int.eq_ofNat_of_zero_le hb1
 have hm : m < cn := by omega
 obtain ⟨b2, o2, y, rfl, hB2, hy, h2⟩ := hC.item hm
 rw [show (Int.toNat (m : Int)) = m from rfl, getD_of hy]
 clear hx hy hX hC hb
 have i1 : (0 : Int) ≤ (k : Int) := by omega
 have i2 : (k : Int) < (xn : Int) := by omega
 have i3 : (0 : Int) ≤ (m : Int) := by omega
 have i4 : (m : Int) < (cn : Int) := by omega
 by_cases hq : q < p
 ·have d1 : decide (q < p) = true := decide_eq_true hq
  by_cases hp : p ≤ y
  ·have d2 : decide (p ≤ y) = true := decide_eq_true hp
   rw [d1, d2]
   go_enter Tryz.func112, Tryz.ntmps112
   go_wp2
   go_quiet (fail)
   go_wp2
   go_ret
   exact ⟨rfl, ⟨rfl, rfl, rfl, Nat.le_refl _, fun _ _ => rfl⟩⟩
  ·have d2 : decide (p ≤ y) = false := decide_eq_false hp
   rw [d1, d2]
   go_enter Tryz.func112, Tryz.ntmps112
   go_wp2
   go_quiet (fail)
   go_wp2
   go_ret
   exact ⟨rfl, ⟨rfl, rfl, rfl, Nat.le_refl _, fun _ _ => rfl⟩⟩
 ·have d1 : decide (q < p) = false := decide_eq_false hq
  rw [d1]
  go_enter Tryz.func112, Tryz.ntmps112
  go_wp2
  go_quiet (fail)
  go_wp2
  go_ret
  exact ⟨rfl, ⟨rfl, rfl, rfl, Nat.le_refl _, fun _ _ => rfl⟩⟩
end Go.Proofs.YtngehojibcmieaaGreatDoor.Kc
end
