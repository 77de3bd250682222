/- What is proved here: plain facts on numbers that can be (0 to 2^62 - 1), their sums, products, quotients that are rounded up, the foremost of a row; how a slice of ints reads as a list. Conditions: none beyond those each theorem states. contracts of nat.Right, its closures, slices.IndexFunc and ContainsFunc at these, and allRight. Conditions: those each theorem states. plain facts on going from sum to sum, from 0 on, until a number is its own sum, or too great. Conditions: of a greater number the sum is no less. plain facts on rows of tasks: the sum of a row for a number, when it is too great; that it grows. plain facts on responses of rows: other orders, fewer rows, more slots. plain facts on which other rows count: of the first rows, of rows with more slots, of fewer rows, of a row and those above it turned round. Conditions: tho -/
import Derived.WalkKit
import Derived.Deep.OwnRows
import Derived.Deep.QuietTactic
import Derived.BigQuiet
import Derived.Test.YtngehojibcmieaaGreatDoorProg
import Derived.Lib.Hide
import Derived.Lib.Small
import Derived.Lib.Walk
import Derived.Lib.Slices
set_option maxRecDepth 100000
set_option maxHeartbeats 8000000
section
namespace Go.Proofs.YtngehojibcmieaaGreatDoor.Kd
open Go.ChangeShapes Go.WideShapes Go.RowKit
def rt (n : Int) : Bool := decide (0 ≤ n) && decide (n < 4611686018427387904)
theorem rt_iff {n : Int} : rt n = true ↔ 0 ≤ n ∧ n < 4611686018427387904 := by unfold rt; simp
theorem rt_no {n : Int} : rt n = false ↔ ¬(0 ≤ n ∧ n < 4611686018427387904) := by rw [← rt_iff]; simp
def al (l : List Int) : Bool := l.all rt
theorem al_iff {l : List Int} : al l = true ↔ ∀ x ∈ l, rt x = true := by unfold al; rw [List.all_eq_true]
theorem al_at {l : List Int} : al l = true ↔ ∀ i, i < l.length → rt (l.getD i 0) = true := by
 rw [al_iff]
 constructor
 ·intro h i hi
  have e : l.getD i 0 = l[i] := by simp [hi]
  rw [e]; exact h _ (List.getElem_mem hi)
 ·intro h x hx
  obtain ⟨i, hi, rfl⟩ := List.getElem_of_mem hx
  have e : l.getD i 0 = l[i] := by simp [hi]
  rw [← e]; exact h i hi
theorem al_pos {l : List Int} (h : al l = true) : 0 ≤ l.sum := by
 rw [al_iff] at h
 induction l with
 | nil => simp
 | cons x r ih =>
  have h1 := rt_iff.1 (h x (by simp))
  have h2 := ih (fun y hy => h y (by simp [hy]))
  rw [List.sum_cons]; omega
def addE (l : List Int) : Int := if al l then (if l.sum < 4611686018427387904 then 0 else 4) else 1
def addV (l : List Int) : Int := if al l then (if l.sum < 4611686018427387904 then l.sum else 0) else 0
def ps (l : List Int) (k : Nat) : Int := (l.take k).sum
theorem ps_zero (l : List Int) : ps l 0 = 0 := by simp [ps]
theorem ps_all (l : List Int) : ps l l.length = l.sum := by simp [ps]
theorem ps_succ {l : List Int} {k : Nat} (h : k < l.length) : ps l (k + 1) = ps l k + l.getD k 0 := by
 unfold ps
 rw [List.take_succ_eq_append_getElem h, List.sum_append]
 simp [h]
theorem ps_le {l : List Int} (ha : al l = true) (k : Nat) : 0 ≤ ps l k ∧ ps l k ≤ l.sum := by
 have e : l.sum = ps l k + (l.drop k).sum := by
  conv => lhs; rw [← List.take_append_drop k l]
  rw [List.sum_append]; rfl
 have h1 : 0 ≤ ps l k := al_pos (by rw [al_iff] at ha ⊢; exact fun x hx => ha x (List.mem_of_mem_take hx))
 have h2 : 0 ≤ (l.drop k).sum := al_pos (by rw [al_iff] at ha ⊢; exact fun x hx => ha x (List.mem_of_mem_drop hx))
 omega
def mulE (a b : Int) : Int := if rt a && rt b then (if a * b < 4611686018427387904 then 0 else 4) else 1
def mulV (a b : Int) : Int := if rt a && rt b then (if a * b < 4611686018427387904 then a * b else 0) else 0
def ceE (a b : Int) : Int := if rt a && rt b && decide (b ≠ 0) then 0 else 1
def ceV (a b : Int) : Int := if rt a && rt b && decide (b ≠ 0) then (if 0 < a % b then a / b + 1 else a / b) else 0
def bst (p : Int → Int → Bool) (l : List Int) : Nat → Int
 | 0 => 0
 | k + 1 => if k = 0 ∨ p (l.getD k 0) (bst p l k) = true then l.getD k 0 else bst p l k
def mo (l : List Int) : Int := bst (fun a b => decide (b < a)) l l.length
theorem cell_lt {w : World} {p : Addr} {v : Value} (h : w.cell? p = some v) : p.block < w.heap.size := by
 rcases Nat.lt_or_ge p.block w.heap.size with h1 | h1
 ·exact h1
 ·unfold World.cell? at h
  rw [Array.getElem?_eq_none h1] at h
  simp at h
theorem keep_below {w W w9 : World} (h : Below w.heap.size w W) (hb : Below W.heap.size W w9) : Below w.heap.size w w9 := h.trans (hb.mono h.size)
theorem below_alloc (w : World) (o : Obj) : Below w.heap.size w (w.alloc o) := (Below.refl _ _).alloc (Nat.le_refl _) o
def Row (w : World) (a : Option Addr) (n : Nat) (l : List Int) : Prop :=
 n = l.length ∧ (0 < n → ∃ b off, a = some ⟨b, off, none⟩ ∧ b < w.heap.size ∧ ∀ i, i < n → w.cell? ⟨b, off + i, none⟩ = some (.int .i64 (l.getD i 0)))
theorem Row.below {w w' : World} {a : Option Addr} {n : Nat} {l : List Int} (h : Row w a n l) (hb : Below w.heap.size w w') : Row w' a n l := by
 refine ⟨h.1, fun hn => ?_⟩
 obtain ⟨b, off, rfl, hlt, hc⟩ := h.2 hn
 exact ⟨b, off, rfl, Nat.lt_of_lt_of_le hlt hb.size, fun i hi => (hb.cell (p := ⟨b, off + i, none⟩) hlt).trans (hc i hi)⟩
theorem Row.at_ {w : World} {a : Option Addr} {n : Nat} {l : List Int} (h : Row w a n l) {k : Nat} (hk : k < n) : ∃ b off x, a = some ⟨b, off, none⟩ ∧ b < w.heap.size ∧ l.getD k 0 = x ∧ w.cell? ⟨b, off + k, none⟩ = some (.int .i64 x) := by
 obtain ⟨b, off, rfl, hlt, hc⟩ := h.2 (by omega)
 exact ⟨b, off, _, rfl, hlt, rfl, hc k hk⟩
theorem Row.nil (w : World) (a : Option Addr) : Row w a 0 [] := ⟨rfl, fun h => absurd h (by omega)⟩
theorem Row.own {w : World} {base : Nat} {v : Value} {m : Nat} {l : List Int} (h : w.ownsRow base 3 1 v m (l.map (Value.int .i64))) : ∃ a n c, v = .slice a n c ∧ Row w a n l := by
 have hml : m = l.length := by have := h.1; simp at this; omega
 subst hml
 have hl := h.lt
 have hc := fun g => h.cells (g := g)
 rcases h.2 with ⟨hv, h0⟩ | ⟨g, cap, _, hv, _⟩
 ·subst hv
  exact ⟨none, 0, 0, rfl, by omega, fun h => absurd h (by omega)⟩
 ·subst hv
  refine ⟨_, _, _, rfl, rfl, fun _ => ⟨g, 0, rfl, (hl g rfl).2, fun i hi => ?_⟩⟩
  have := hc g rfl i (.int .i64 (l.getD i 0)) (by simp [hi])
  by_cases h0 : i = 0
  ·subst h0; simpa [Addr.add] using this
  ·simpa [Addr.add, h0] using this
theorem lit_ints (W : World) (cs : Array Value) (l : List Int) (n : Nat) (hn : n = l.length) (h : cs.toList = l.map (Value.int .i64)) (hl : l.length ≤ 1000) : Row (W.alloc (.cells cs 3)) (some ⟨W.heap.size, 0, none⟩) n l := by
 subst hn
 have hs : cs.size = l.length * 1 := by have := congrArg List.length h; simpa using this
 have := World.ownsRow_lit (base := 0) (e := 3) (size := 1) W cs l.length (by omega) (by unfold maxLen; omega) hs
 rw [h] at this
 obtain ⟨a, n, c, hv, hr⟩ := Row.own this
 cases hv
 exact hr
theorem right_any (n : Int) (w : World) : Calls Tryz.prog 142 #[.int .i64 n] w fun e w' => e = .returned (.bool (rt n)) ∧ w' = w := by
 have h : Hid (∀ x y, decide (0 ≤ n) = x → decide (n < 4611686018427387904) = y → rt n = (x && y)) := fun x y hx hy => by unfold rt; rw [hx, hy]
 cases h1 : decide (0 ≤ n) <;> cases h2 : decide (n < 4611686018427387904) <;>
 ·have h3 := Lib.hid (h.out _ _ h1 h2)
  clear h
  go_enter Tryz.func142, Tryz.ntmps142
  go_wp2
  go_ret
  exact ⟨by rw [h3.out]; rfl, rfl⟩
theorem notRight_any (n : Int) (w : World) : Calls Tryz.prog 184 #[.int .i64 n] w fun e w' => e = .returned (.bool (!rt n)) ∧ w' = w := by
 have C := Lib.hid (fun W => right_any n W)
 go_enter Tryz.func184, Tryz.ntmps184
 go_wp2_with (go_at_call 142; refine (C.out _).mono ?_; rintro e w1 ⟨rfl, rfl⟩)
 go_ret
 exact ⟨rfl, rfl⟩
theorem index_any (a : Option Addr) (n c : Nat) (l : List Int) (w : World) (hr : Row w a n l) (hn : n ≤ 1000000000000) :
  Calls Tryz.prog 220 #[.slice a n c, .func (.func 184) #[] #[]] w fun e w' => ∃ i, e = .returned (.int .i64 i) ∧ (decide (0 ≤ i)) = (!al l) ∧ Below w.heap.size w w' := by
 have HL := Lib.hid hr.1
 go_enter Tryz.func220, Tryz.ntmps220
 go_wp2
 go_loopw [8] (fun i wr => ∃ k : Nat, k ≤ n ∧ i = .int .i64 k ∧ Hid (∀ p, p < k → rt (l.getD p 0) = true) ∧ Below w.heap.size w wr) (fun i _ => n - (intOf i).toNat)
 case atStart => exact ⟨0, by omega, rfl, fun p hp => absurd hp (by omega), Below.refl _ _⟩
 case round =>
  obtain ⟨k, hk, rfl, HA, hbl⟩ := hrel
  by_cases hlt : k < n
  ·obtain ⟨b1, o1, x, rfl, hB1, hx, hc1⟩ := (hr.below hbl).at_ hlt
   have ce := fun W => notRight_any x W
   cases hv : rt x
   ·rw [hv] at ce
    have HQ : Hid (decide (0 ≤ (k : Int)) = !al l) := by
     show _ = _
     have : al l = false := by
      rw [Bool.eq_false_iff]
      intro h
      have := al_at.1 h k (by rw [← HL.out]; exact hlt)
      rw [hx, hv] at this; cases this
     rw [this]; simp
    have CE := Lib.hid ce
    clear ce hx hv HA
    go_wp2_with (go_at_call 184; refine (CE.out _).mono ?_; rintro e w2 ⟨rfl, rfl⟩)
    go_ret
    exact ⟨_, rfl, HQ.out, hbl⟩
   ·rw [hv] at ce
    have HA2 : Hid (∀ p, p < k + 1 → rt (l.getD p 0) = true) := by
     intro p hp
     by_cases e : p = k
     ·rw [e, hx]; exact hv
     ·exact HA.out p (by omega)
    have CE := Lib.hid ce
    clear ce hv hx HA
    go_wp2_with (go_at_call 184; refine (CE.out _).mono ?_; rintro e w2 ⟨rfl, rfl⟩)
    go_roundw
    case rel => exact ⟨k + 1, by omega, by go_num, HA2, hbl⟩
    case measure => simp [intOf]; omega
  ·have hkn : k = n := by omega
   subst hkn
   have HQ : Hid (al l = true) := al_at.2 (fun i hi => HA.out i (by rw [HL.out]; exact hi))
   go_wp2
   go_ret
   exact ⟨_, rfl, by rw [HQ.out]; rfl, hbl⟩
theorem contains_any (a : Option Addr) (n c : Nat) (l : List Int) (w : World) (hr : Row w a n l) (hn : n ≤ 1000000000000) :
  Calls Tryz.prog 183 #[.slice a n c, .func (.func 184) #[] #[]] w fun e w' => e = .returned (.bool (!al l)) ∧ Below w.heap.size w w' := by
 have C := Lib.hid (index_any a n c l w hr hn)
 clear hr hn
 go_enter Tryz.func183, Tryz.ntmps183
 go_wp2_with (go_at_call 220; refine C.out.mono ?_; rintro e w1 ⟨i, rfl, hi, hb⟩)
 go_ret
 exact ⟨by rw [← hi]; rfl, hb⟩
theorem allRight_any (a : Option Addr) (n c : Nat) (l : List Int) (w : World) (hr : Row w a n l) (hn : n ≤ 1000000000000) :
  Calls Tryz.prog 141 #[.slice a n c] w fun e w' => e = .returned (.bool (al l)) ∧ Below w.heap.size w w' := by
 have C := Lib.hid (contains_any a n c l w hr hn)
 clear hr hn
 go_enter Tryz.func141, Tryz.ntmps141
 go_wp2_with (go_at_call 183; refine C.out.mono ?_; rintro e w1 ⟨rfl, hb⟩)
 go_ret
 exact ⟨by simp, hb⟩
end Go.Proofs.YtngehojibcmieaaGreatDoor.Kd
end
section
namespace Go.Proofs.YtngehojibcmieaaGreatDoor.Kd
def itr (f : Int → Option Int) (D J eT : Int) : Nat → Int → Int × Int
 | 0, _ => (0, eT)
 | k + 1, w => match f w with
  | none => (0, 4)
  | some n => if D < n ∨ D - n < J then (0, eT) else if n = w then (n + J, 0) else itr f D J eT k n
structure Grows (f : Int → Option Int) : Prop where
 mono : ∀ a b, 0 ≤ a → a ≤ b → ∀ y, f b = some y → ∃ x, f a = some x ∧ x ≤ y
 pos : ∀ a x, 0 ≤ a → f a = some x → 0 ≤ x
def OnWay (f : Int → Option Int) (w : Int) : Prop := 0 ≤ w ∧ ∀ n, f w = some n → w ≤ n
theorem OnWay.zero {f : Int → Option Int} (g : Grows f) : OnWay f 0 := ⟨Int.le_refl _, fun n h => g.pos 0 n (Int.le_refl _) h⟩
theorem OnWay.next {f : Int → Option Int} (g : Grows f) {w n : Int} (h : OnWay f w) (hn : f w = some n) : OnWay f n :=
 ⟨Int.le_trans h.1 (h.2 n hn), fun m hm => by
  obtain ⟨x, hx, hxm⟩ := g.mono w n h.1 (h.2 n hn) m hm
  rw [hn] at hx
  cases hx
  exact hxm⟩
theorem itr_sound {f : Int → Option Int} {D J eT : Int} (heT : eT ≠ 0) (g : Grows f) : ∀ (k : Nat) (w v : Int), OnWay f w → itr f D J eT k w = (v, 0) → ∃ n, v = n + J ∧ f n = some n ∧ n ≤ D ∧ J ≤ D - n ∧ w ≤ n
 | 0, w, v, _, h => by unfold itr at h; cases h; exact absurd rfl heT
 | k + 1, w, v, ho, h => by
  unfold itr at h
  cases hf : f w with
  | none => rw [hf] at h; simp at h
  | some n =>
   rw [hf] at h
   simp only at h
   by_cases h1 : D < n ∨ D - n < J
   ·rw [if_pos h1] at h; cases h; exact absurd rfl heT
   ·rw [if_neg h1] at h
    by_cases h2 : n = w
    ·rw [if_pos h2] at h
     cases h
     exact ⟨n, rfl, by rw [← h2] at hf; exact hf, by omega, by omega, by omega⟩
    ·rw [if_neg h2] at h
     obtain ⟨q, e1, e2, e3, e4, e5⟩ := itr_sound heT g k n v (ho.next g hf) h
     have := ho.2 n hf
     exact ⟨q, e1, e2, e3, e4, by omega⟩
theorem itr_pre {f : Int → Option Int} {D J eT : Int} (g : Grows f) {x y : Int} (hx : f x = some y) (hyx : y ≤ x) (hD : x ≤ D) (hJ : J ≤ D - x) : ∀ (k : Nat) (w : Int), OnWay f w → w ≤ x → (x - w).toNat < k →
  ∃ n, itr f D J eT k w = (n + J, 0) ∧ n ≤ x
 | 0, w, _, _, h => absurd h (by omega)
 | k + 1, w, ho, hw, hk => by
  obtain ⟨n, hn, hny⟩ := g.mono w x ho.1 hw y hx
  have h1 := ho.2 n hn
  unfold itr
  rw [hn]
  simp only
  rw [if_neg (by omega)]
  by_cases h2 : n = w
  ·rw [if_pos h2]; exact ⟨n, rfl, by omega⟩
  ·rw [if_neg h2]; exact itr_pre g hx hyx hD hJ k n (ho.next g hn) (by omega) (by omega)
theorem itr_err {f : Int → Option Int} {D J eT : Int} : ∀ (k : Nat) (w : Int), (itr f D J eT k w).2 = 0 ∨ itr f D J eT k w = (0, 4) ∨ itr f D J eT k w = (0, eT)
 | 0, _ => Or.inr (Or.inr rfl)
 | k + 1, w => by
  unfold itr
  cases hf : f w with
  | none => exact Or.inr (Or.inl rfl)
  | some n =>
   simp only
   split
   ·exact Or.inr (Or.inr rfl)
   ·split
    ·exact Or.inl rfl
    ·exact itr_err k n
theorem itr_more {f : Int → Option Int} {D J eT : Int} (g : Grows f) : ∀ (k j : Nat) (w : Int), OnWay f w → w ≤ D + 1 → (D + 1 - w).toNat < k → itr f D J eT (k + j) w = itr f D J eT k w
 | 0, _, _, _, _, h => absurd h (by omega)
 | k + 1, j, w, ho, hw, hk => by
  rw [show k + 1 + j = (k + j) + 1 by omega]
  unfold itr
  cases hf : f w with
  | none => rfl
  | some n =>
   simp only
   by_cases h1 : D < n ∨ D - n < J
   ·rw [if_pos h1, if_pos h1]
   ·rw [if_neg h1, if_neg h1]
    by_cases h2 : n = w
    ·rw [if_pos h2, if_pos h2]
    ·rw [if_neg h2, if_neg h2]
     have := ho.2 n hf
     exact itr_more g k j n (ho.next g hf) (by omega) (by omega)
def rsp (f : Int → Option Int) (D J eT : Int) : Int × Int := itr f D J eT (D.toNat + 2) 0
theorem rsp_sound {f : Int → Option Int} {D J eT v : Int} (heT : eT ≠ 0) (g : Grows f) (h : rsp f D J eT = (v, 0)) : ∃ n, v = n + J ∧ f n = some n ∧ n ≤ D ∧ J ≤ D - n ∧ 0 ≤ n :=
 itr_sound heT g _ 0 v (OnWay.zero g) h
theorem rsp_pre {f : Int → Option Int} {D J eT : Int} (g : Grows f) {x y : Int} (h0 : 0 ≤ x) (hx : f x = some y) (hyx : y ≤ x) (hD : x ≤ D) (hJ : J ≤ D - x) : ∃ n, rsp f D J eT = (n + J, 0) ∧ n ≤ x :=
 itr_pre g hx hyx hD hJ _ 0 (OnWay.zero g) h0 (by omega)
theorem rsp_le {f h : Int → Option Int} {D D' J eT v : Int} (heT : eT ≠ 0) (g : Grows f) (g' : Grows h) (hfh : ∀ w, 0 ≤ w → ∀ y, h w = some y → ∃ x, f w = some x ∧ x ≤ y) (hD : D ≤ D') (e : rsp h D J eT = (v, 0)) :
  ∃ u, rsp f D' J eT = (u, 0) ∧ u ≤ v := by
 obtain ⟨n, e1, e2, e3, e4, e5⟩ := rsp_sound heT g' e
 obtain ⟨x, h1, h2⟩ := hfh n e5 n e2
 obtain ⟨q, k1, k2⟩ := rsp_pre (J := J) (eT := eT) g e5 h1 h2 (by omega : n ≤ D') (by omega)
 exact ⟨_, k1, by omega⟩
end Go.Proofs.YtngehojibcmieaaGreatDoor.Kd
end
section
namespace Go.Proofs.YtngehojibcmieaaGreatDoor.Kd
structure RtR where
 (C B T D J P : Int)
 deriving DecidableEq
def rtI (n : Int) : Bool := decide (0 ≤ n) && decide (n < 4611686018427387904)
theorem rtI_iff {n : Int} : rtI n = true ↔ 0 ≤ n ∧ n < 4611686018427387904 := by unfold rtI; simp
def okR (r : RtR) : Bool := rtI r.C && (rtI r.B && (rtI r.T && (rtI r.J && (decide (1 ≤ r.C) && (decide (1 ≤ r.T) && (decide (1 ≤ r.D) && (decide (r.D ≤ 1048576) && (decide (1 ≤ r.P) && decide (r.P ≤ 100)))))))))
def rgR (l : List RtR) : Bool := l.all okR && decide (l.length ≤ 8)
theorem okR_parts {r : RtR} (h : okR r = true) : (1 ≤ r.C ∧ r.C < 4611686018427387904) ∧ (0 ≤ r.B ∧ r.B < 4611686018427387904) ∧ (1 ≤ r.T ∧ r.T < 4611686018427387904) ∧ (0 ≤ r.J ∧ r.J < 4611686018427387904) ∧ (1 ≤ r.D ∧ r.D ≤ 1048576) ∧ 1 ≤ r.P ∧ r.P ≤ 100 := by
 unfold okR at h
 simp only [Bool.and_eq_true, decide_eq_true_eq, rtI_iff] at h
 omega
theorem rgR_mem {l : List RtR} (h : rgR l = true) {r : RtR} (hr : r ∈ l) : okR r = true := by
 unfold rgR at h
 simp only [Bool.and_eq_true, List.all_eq_true] at h
 exact h.1 r hr
def qt (a b : Int) : Int := if 0 < a % b then a / b + 1 else a / b
theorem qt_spec {a b : Int} (h : 0 < b) : a ≤ qt a b * b ∧ (qt a b - 1) * b < a := by
 have h1 := Int.mul_ediv_add_emod a b
 have h2 := Int.emod_nonneg a (by omega : b ≠ 0)
 have h3 := Int.emod_lt_of_pos a h
 have e : (a / b) * b = b * (a / b) := Int.mul_comm _ _
 unfold qt
 by_cases c : 0 < a % b
 ·rw [if_pos c, Int.add_mul, Int.one_mul, show a / b + 1 - 1 = a / b by omega]; omega
 ·rw [if_neg c, Int.sub_mul, Int.one_mul]; omega
theorem qt_mono {a a' b : Int} (h : 0 < b) (ha : a ≤ a') : qt a b ≤ qt a' b := by
 have h1 := (qt_spec (a := a) h).2
 have h2 := (qt_spec (a := a') h).1
 have h3 : (qt a b - 1) * b < qt a' b * b := by omega
 have := Int.lt_of_mul_lt_mul_right h3 (Int.le_of_lt h)
 omega
theorem qt_pos {a b : Int} (h : 0 < b) (ha : 0 ≤ a) : 0 ≤ qt a b := by
 unfold qt
 have := Int.ediv_nonneg ha (Int.le_of_lt h)
 split <;> omega
def ptK (r : RtR) (w : Int) (s : Bool) : Int := qt (w + r.J) r.T + (if s = true then 1 else 0)
def ptV (r : RtR) (w : Int) (s : Bool) : Int := ptK r w s * r.C
def ptB (r : RtR) (w : Int) (s : Bool) : Bool := decide (4611686018427387904 ≤ w + r.J) || decide (4611686018427387904 ≤ ptV r w s)
theorem ptK_mono {r : RtR} (h : okR r = true) {w w' : Int} (hw : w ≤ w') (s : Bool) : ptK r w s ≤ ptK r w' s := by
 obtain ⟨_, _, h3, _⟩ := okR_parts h
 unfold ptK
 have := qt_mono (by omega : 0 < r.T) (by omega : w + r.J ≤ w' + r.J)
 omega
theorem ptK_pos {r : RtR} (h : okR r = true) {w : Int} (hw : 0 ≤ w) (s : Bool) : 0 ≤ ptK r w s := by
 obtain ⟨_, _, h3, h4, _⟩ := okR_parts h
 unfold ptK
 have := qt_pos (by omega : 0 < r.T) (by omega : 0 ≤ w + r.J)
 split <;> omega
theorem ptV_mono {r : RtR} (h : okR r = true) {w w' : Int} (hw : w ≤ w') (s : Bool) : ptV r w s ≤ ptV r w' s := by
 obtain ⟨h1, _⟩ := okR_parts h
 exact Int.mul_le_mul_of_nonneg_right (ptK_mono h hw s) (by omega)
theorem ptV_pos {r : RtR} (h : okR r = true) {w : Int} (hw : 0 ≤ w) (s : Bool) : 0 ≤ ptV r w s := by
 obtain ⟨h1, _⟩ := okR_parts h
 exact Int.mul_nonneg (ptK_pos h hw s) (by omega)
theorem ptB_mono {r : RtR} (h : okR r = true) {w w' : Int} (hw : w ≤ w') {s : Bool} (hb : ptB r w' s = false) : ptB r w s = false := by
 unfold ptB at hb ⊢
 simp only [Bool.or_eq_false_iff, decide_eq_false_iff_not] at hb ⊢
 have := ptV_mono h hw s
 omega
def cnt (p : Int) (i : Nat) (x : RtR × Nat) : Bool := decide (x.2 ≠ i) && decide (p ≤ x.1.P)
def oth (l : List RtR) (p : Int) (i : Nat) : List RtR := (l.zipIdx.filter (cnt p i)).map (·.1)
def sames (p : Int) (r : RtR) : Bool := decide (r.P = p)
def suV (o : List RtR) (p w : Int) : Int := (o.map fun r => ptV r w (sames p r)).sum
def suB (o : List RtR) (p w : Int) : Bool := o.any fun r => ptB r w (sames p r)
def nxO (r : RtR) (o : List RtR) (w : Int) : Option Int := if suB o r.P w = true ∨ 4611686018427387904 ≤ r.C + r.B + suV o r.P w then none else some (r.C + r.B + suV o r.P w)
theorem oth_mem {l : List RtR} {p : Int} {i : Nat} {r : RtR} (h : r ∈ oth l p i) : r ∈ l ∧ p ≤ r.P := by
 unfold oth at h
 simp only [List.mem_map, List.mem_filter] at h
 obtain ⟨⟨q, k⟩, ⟨h1, h2⟩, rfl⟩ := h
 unfold cnt at h2
 simp only [Bool.and_eq_true, decide_eq_true_eq] at h2
 exact ⟨(List.mem_zipIdx h1).2.2 ▸ List.getElem_mem _, h2.2⟩
theorem suV_mono {o : List RtR} (h : ∀ r ∈ o, okR r = true) (p : Int) {w w' : Int} (hw : w ≤ w') : suV o p w ≤ suV o p w' := by
 induction o with
 | nil => exact Int.le_refl _
 | cons r o ih =>
  have h1 := ptV_mono (h r (List.mem_cons_self ..)) hw (sames p r)
  have h2 := ih fun x hx => h x (List.mem_cons_of_mem _ hx)
  unfold suV at h2 ⊢
  rw [List.map_cons, List.sum_cons, List.map_cons, List.sum_cons]
  omega
theorem suV_pos {o : List RtR} (h : ∀ r ∈ o, okR r = true) (p : Int) {w : Int} (hw : 0 ≤ w) : 0 ≤ suV o p w := by
 induction o with
 | nil => exact Int.le_refl _
 | cons r o ih =>
  have h1 := ptV_pos (h r (List.mem_cons_self ..)) hw (sames p r)
  have h2 := ih fun x hx => h x (List.mem_cons_of_mem _ hx)
  unfold suV at h2 ⊢
  rw [List.map_cons, List.sum_cons]
  omega
theorem suB_mono {o : List RtR} (h : ∀ r ∈ o, okR r = true) (p : Int) {w w' : Int} (hw : w ≤ w') (hb : suB o p w' = false) : suB o p w = false := by
 unfold suB at hb ⊢
 rw [List.any_eq_false] at hb ⊢
 intro r hr
 have := ptB_mono (h r hr) hw (s := sames p r) (by simpa using hb r hr)
 rw [this]; simp
theorem nxO_some {r : RtR} {o : List RtR} {w n : Int} : nxO r o w = some n ↔ suB o r.P w = false ∧ r.C + r.B + suV o r.P w < 4611686018427387904 ∧ n = r.C + r.B + suV o r.P w := by
 unfold nxO
 constructor
 ·intro h
  split at h
  ·cases h
  ·rename_i g
   cases h
   refine ⟨?_, by omega, rfl⟩
   cases e : suB o r.P w
   ·rfl
   ·exact absurd (Or.inl e) g
 ·rintro ⟨h1, h2, rfl⟩
  rw [if_neg (by rw [h1]; simp; omega)]
theorem nxO_grows {r : RtR} {o : List RtR} (hr : okR r = true) (h : ∀ x ∈ o, okR x = true) : Grows (nxO r o) where
 mono a b ha hab y hy := by
  obtain ⟨h1, h2, rfl⟩ := nxO_some.1 hy
  have := suV_mono h r.P hab
  exact ⟨_, nxO_some.2 ⟨suB_mono h r.P hab h1, by omega, rfl⟩, by omega⟩
 pos a x ha hx := by
  obtain ⟨h1, h2, rfl⟩ := nxO_some.1 hx
  have := suV_pos h r.P ha
  obtain ⟨k1, k2, _⟩ := okR_parts hr
  omega
end Go.Proofs.YtngehojibcmieaaGreatDoor.Kd
end
section
namespace Go.Proofs.YtngehojibcmieaaGreatDoor.Kd
theorem suV_sub {o q : List RtR} (h : o.Sublist q) (hq : ∀ r ∈ q, okR r = true) (p : Int) {w : Int} (hw : 0 ≤ w) : suV o p w ≤ suV q p w := by
 induction h with
 | slnil => exact Int.le_refl _
 | cons a hs ih =>
  have h1 := ptV_pos (hq a (List.mem_cons_self ..)) hw (sames p a)
  have h2 := ih fun x hx => hq x (List.mem_cons_of_mem _ hx)
  unfold suV at h2 ⊢
  rw [List.map_cons, List.sum_cons]
  omega
 | cons_cons a hs ih =>
  have h2 := ih fun x hx => hq x (List.mem_cons_of_mem _ hx)
  unfold suV at h2 ⊢
  rw [List.map_cons, List.sum_cons, List.map_cons, List.sum_cons]
  omega
theorem suB_sub {o q : List RtR} (h : o.Sublist q) {p w : Int} (hb : suB q p w = false) : suB o p w = false := by
 unfold suB at hb ⊢
 rw [List.any_eq_false] at hb ⊢
 exact fun r hr => hb r (h.subset hr)
theorem nxO_fewer {r : RtR} {o q : List RtR} (h : o.Sublist q) (hq : ∀ x ∈ q, okR x = true) : ∀ w, 0 ≤ w → ∀ y, nxO r q w = some y → ∃ x, nxO r o w = some x ∧ x ≤ y := by
 intro w hw y hy
 obtain ⟨h1, h2, rfl⟩ := nxO_some.1 hy
 have := suV_sub h hq r.P hw
 exact ⟨_, nxO_some.2 ⟨suB_sub h h1, by omega, rfl⟩, by omega⟩
end Go.Proofs.YtngehojibcmieaaGreatDoor.Kd
end
section
namespace Go.Proofs.YtngehojibcmieaaGreatDoor.Kd
def othTo (l : List RtR) (p : Int) (i k : Nat) : List RtR := (l.zipIdx.take k |>.filter (cnt p i)).map (·.1)
theorem othTo_all (l : List RtR) (p : Int) (i : Nat) : othTo l p i l.length = oth l p i := by
 unfold othTo oth
 rw [List.take_of_length_le (by simp)]
theorem othTo_zero (l : List RtR) (p : Int) (i : Nat) : othTo l p i 0 = [] := rfl
theorem othTo_succ {l : List RtR} {k : Nat} {r : RtR} (h : l[k]? = some r) (p : Int) (i : Nat) : othTo l p i (k + 1) = if k ≠ i ∧ p ≤ r.P then othTo l p i k ++ [r] else othTo l p i k := by
 have hz : l.zipIdx[k]? = some (r, k) := by rw [List.getElem?_zipIdx, h]; simp
 have ht : l.zipIdx.take (k + 1) = l.zipIdx.take k ++ [(r, k)] := by
  rw [List.take_add_one, hz]; rfl
 unfold othTo
 rw [ht, List.filter_append, List.map_append]
 by_cases c : k ≠ i ∧ p ≤ r.P
 ·rw [if_pos c, List.filter_cons, if_pos (by unfold cnt; simp [c.1, c.2])]; rfl
 ·rw [if_neg c, List.filter_cons, if_neg (by unfold cnt; simp only [Bool.and_eq_true, decide_eq_true_eq]; exact c)]; simp
theorem oth_fewer (l : List RtR) (p : Int) (i k : Nat) : (oth (l.take k) p i).Sublist (oth l p i) := by
 unfold oth
 refine (List.Sublist.filter _ ?_).map _
 conv => rhs; rw [← List.take_append_drop k l]
 rw [List.zipIdx_append]
 exact List.sublist_append_left _ _
end Go.Proofs.YtngehojibcmieaaGreatDoor.Kd
end
