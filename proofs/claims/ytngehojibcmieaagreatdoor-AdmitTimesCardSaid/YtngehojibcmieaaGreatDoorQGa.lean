/- What is proved here: plain facts on which instructions can be. Conditions: none beyond those each theorem states. plain facts on regions of rows of instructions: the stack of open regions ahead of each place, the matches, homes and locks that it gives, and how they hang together. Conditions: those each theorem states. the plain answers of package nest (matches, homes, what is wrong, locks, held blocks) and facts on the bits of held blocks. plain facts on matches, homes and locks of rows whose regions stand in one another: regions that meet stand in one another, homes lead out, blocks that are locked rise. plain facts on rows one behind the other, and on a loop around a row: their regions, jumps and locks. plain facts on what instructions take and give, and on the stacks ahead of the instructio -/
import Derived.Test.YtngehojibcmieaaGreatDoorChecked
import Derived.WalkKit
import Derived.Lib.BitFns
import Derived.Lib.Hide
import Derived.Lib.Small
import Derived.Lib.Walk
import Derived.Laws.BitsAllLaws
import Derived.Outline
import Derived.Deep.LoopGhost
import Derived.WalkSpells
import Derived.Deep.QuietTactic
import Derived.BigQuiet
section
section
namespace Go.Proofs.YtngehojibcmieaaGreatDoor
def kn (o : Int) : Bool := decide (1 ≤ o ∧ o ≤ 25)
def nargs (o : Int) : Nat :=
 if o = 1 ∨ o = 5 ∨ (11 ≤ o ∧ o ≤ 16) ∨ (19 ≤ o ∧ o ≤ 21) ∨ o = 23 ∨ o = 24 then 1 else if o = 17 ∨ o = 18 then 2 else 0
def argsOf (o : Int) : Int := if kn o then nargs o else -1
def pl (a m : Int) : Bool := decide (0 ≤ a ∧ a < m)
def rA (o a : Int) : Bool :=
 if o = 1 then true else if o = 5 then decide (1 ≤ a ∧ a ≤ 12)
 else if (11 ≤ o ∧ o ≤ 14) ∨ o = 17 ∨ o = 18 ∨ o = 23 ∨ o = 24 then pl a 8
 else if o = 15 ∨ o = 16 then pl a 16 else if o = 19 ∨ o = 20 then pl a 200
 else if o = 21 then decide (1 ≤ a ∧ a ≤ 1000) else a == 0
def rB (o b : Int) : Bool := if o = 17 ∨ o = 18 then pl b 8 else b == 0
def right (i : Int × Int × Int) : Bool := kn i.1 && (rA i.1 i.2.1 && rB i.1 i.2.2)
theorem kn_iff {o : Int} : kn o = true ↔ 1 ≤ o ∧ o ≤ 25 := by unfold kn; simp
theorem pl_iff {a m : Int} : pl a m = true ↔ 0 ≤ a ∧ a < m := by unfold pl; simp
theorem right_kn {i : Int × Int × Int} (h : right i = true) : 1 ≤ i.1 ∧ i.1 ≤ 25 := by
 unfold right at h; simp only [Bool.and_eq_true] at h; exact kn_iff.1 h.1
theorem nargs_le (o : Int) : nargs o ≤ 2 := by unfold nargs; split; · omega
                                               · split <;> omega
theorem right_parts {i : Int × Int × Int} (h : right i = true) : kn i.1 = true ∧ rA i.1 i.2.1 = true ∧ rB i.1 i.2.2 = true := by
 unfold right at h; simp only [Bool.and_eq_true] at h; exact h
end Go.Proofs.YtngehojibcmieaaGreatDoor
end
section
namespace Go.Proofs.YtngehojibcmieaaGreatDoor
def at_ (l : List (Int × Int × Int)) (p : Nat) : Int × Int × Int := l.getD p (0, 0, 0)
def opn (i : Int × Int × Int) : Bool := i.1 == 21 || i.1 == 23
def cls (i : Int × Int × Int) : Bool := i.1 == 22 || i.1 == 24
def clo (a b : Int × Int × Int) : Bool := (a.1 == 21 && b.1 == 22) || (a.1 == 23 && (b.1 == 24 && a.2.1 == b.2.1))
theorem cls_opn {i : Int × Int × Int} (h : cls i = true) : opn i = false := by
 unfold cls at h; unfold opn; simp at h ⊢; omega
def sk (l : List (Int × Int × Int)) : Nat → List Nat
 | 0 => []
 | k + 1 => if opn (at_ l k) = true then k :: sk l k else if cls (at_ l k) = true then (sk l k).tail else sk l k
def gd (l : List (Int × Int × Int)) (k : Nat) : Bool := !cls (at_ l k) || (match sk l k with | [] => false | t :: _ => clo (at_ l t) (at_ l k))
def Good (l : List (Int × Int × Int)) (k : Nat) : Prop := ∀ j, j < k → gd l j = true
def hm (l : List (Int × Int × Int)) (k : Nat) : Int := match sk l k with | [] => -1 | t :: _ => (t : Int)
def mt (l : List (Int × Int × Int)) : Nat → Nat → Int
 | 0, _ => -1
 | k + 1, p => if cls (at_ l k) = true then (match sk l k with | [] => mt l k p | t :: _ => if p = k then (t : Int) else if p = t then (k : Int) else mt l k p) else mt l k p
theorem sk_opn' {l : List (Int × Int × Int)} {k : Nat} (h : opn (at_ l k) = true) : sk l (k + 1) = k :: sk l k := by simp [sk, h]
theorem sk_cls {l : List (Int × Int × Int)} {k : Nat} (h : cls (at_ l k) = true) : sk l (k + 1) = (sk l k).tail := by simp [sk, h, cls_opn h]
theorem sk_oth {l : List (Int × Int × Int)} {k : Nat} (h : opn (at_ l k) = false) (h2 : cls (at_ l k) = false) : sk l (k + 1) = sk l k := by simp [sk, h, h2]
theorem mt_oth {l : List (Int × Int × Int)} {k p : Nat} (h2 : cls (at_ l k) = false) : mt l (k + 1) p = mt l k p := by simp [mt, h2]
theorem mt_nil {l : List (Int × Int × Int)} {k p : Nat} (h2 : cls (at_ l k) = true) (hs : sk l k = []) : mt l (k + 1) p = mt l k p := by simp [mt, h2, hs]
theorem mt_cons {l : List (Int × Int × Int)} {k p t : Nat} {s : List Nat} (h2 : cls (at_ l k) = true) (hs : sk l k = t :: s) : mt l (k + 1) p = if p = k then (t : Int) else if p = t then (k : Int) else mt l k p := by simp [mt, h2, hs]
theorem hm_nil {l : List (Int × Int × Int)} {k : Nat} (hs : sk l k = []) : hm l k = -1 := by simp [hm, hs]
theorem hm_cons {l : List (Int × Int × Int)} {k t : Nat} {s : List Nat} (hs : sk l k = t :: s) : hm l k = t := by simp [hm, hs]
theorem sk_lt {l : List (Int × Int × Int)} : ∀ {k t : Nat}, t ∈ sk l k → t < k
 | 0, _, h => by simp [sk] at h
 | k + 1, t, h => by
  cases ho : opn (at_ l k)
  ·cases hc : cls (at_ l k)
   ·rw [sk_oth ho hc] at h; have := sk_lt h; omega
   ·rw [sk_cls hc] at h; have := sk_lt (List.mem_of_mem_tail h); omega
  ·rw [sk_opn' ho] at h
   rcases List.mem_cons.1 h with h | h
   ·omega
   ·have := sk_lt h; omega
theorem sk_open {l : List (Int × Int × Int)} : ∀ {k t : Nat}, t ∈ sk l k → opn (at_ l t) = true
 | 0, _, h => by simp [sk] at h
 | k + 1, t, h => by
  cases ho : opn (at_ l k)
  ·cases hc : cls (at_ l k)
   ·rw [sk_oth ho hc] at h; exact sk_open h
   ·rw [sk_cls hc] at h; exact sk_open (List.mem_of_mem_tail h)
  ·rw [sk_opn' ho] at h
   rcases List.mem_cons.1 h with h | h
   ·rw [h]; exact ho
   ·exact sk_open h
theorem sk_chain {l : List (Int × Int × Int)} : ∀ {k t : Nat} {u s : List Nat}, sk l k = u ++ t :: s → s = sk l t
 | 0, _, u, _, h => by cases u <;> simp [sk] at h
 | k + 1, t, u, s, h => by
  cases ho : opn (at_ l k)
  ·cases hc : cls (at_ l k)
   ·rw [sk_oth ho hc] at h; exact sk_chain h
   ·rw [sk_cls hc] at h
    cases hk : sk l k with
    | nil => rw [hk] at h; cases u <;> simp at h
    | cons x r =>
     rw [hk] at h
     exact sk_chain (u := x :: u) (by rw [hk]; simpa using h)
  ·rw [sk_opn' ho] at h
   cases u with
   | nil => simp at h; rw [← h.1]; exact h.2.symm
   | cons x u => simp at h; exact sk_chain h.2
theorem sk_head {l : List (Int × Int × Int)} {k t : Nat} {s : List Nat} (h : sk l k = t :: s) : s = sk l t := sk_chain (u := []) h
theorem hm_lt (l : List (Int × Int × Int)) (i : Nat) : -1 ≤ hm l i ∧ hm l i < i := by
 cases hi : sk l i with
 | nil => rw [hm_nil hi]; omega
 | cons t s =>
  have := sk_lt (l := l) (k := i) (t := t) (by rw [hi]; simp)
  rw [hm_cons hi]; omega
theorem hm_max {l : List (Int × Int × Int)} {i t : Nat} (h : t ∈ sk l i) : (t : Int) ≤ hm l i := by
 cases hi : sk l i with
 | nil => rw [hi] at h; simp at h
 | cons u s =>
  rw [hm_cons hi]
  rw [hi] at h
  rcases List.mem_cons.1 h with h | h
  ·omega
  ·rw [sk_head hi] at h
   have := sk_lt h; omega
theorem mt_ge {l : List (Int × Int × Int)} : ∀ {k p : Nat}, k ≤ p → mt l k p = -1
 | 0, _, _ => rfl
 | k + 1, p, h => by
  cases hc : cls (at_ l k)
  ·rw [mt_oth hc]; exact mt_ge (by omega)
  ·cases hs : sk l k with
   | nil => rw [mt_nil hc hs]; exact mt_ge (by omega)
   | cons t s =>
    have := sk_lt (l := l) (k := k) (t := t) (by rw [hs]; simp)
    rw [mt_cons hc hs, if_neg (by omega), if_neg (by omega)]; exact mt_ge (by omega)
theorem mt_mem {l : List (Int × Int × Int)} : ∀ (k : Nat),
  (∀ p, opn (at_ l p) = true → mt l k p = -1 ∨ ((p : Int) < mt l k p ∧ mt l k p < k)) ∧
  ∀ i, i ≤ k → ∀ t, t ∈ sk l i ↔ opn (at_ l t) = true ∧ t < i ∧ (mt l k t = -1 ∨ (i : Int) ≤ mt l k t)
 | 0 => ⟨fun _ _ => Or.inl rfl, fun i hi t => by
   obtain rfl : i = 0 := by omega
   simp [sk]⟩
 | k + 1 => by
  obtain ⟨ihA, ihB⟩ := mt_mem (l := l) k
  have top : ∀ t, t ∈ sk l k → mt l k t = -1 := by
   intro t ht
   have h1 := (ihB k (Nat.le_refl _) t).1 ht
   have h2 := ihA t h1.1
   omega
  cases hc : cls (at_ l k)
  ·have hm' : ∀ p, mt l (k + 1) p = mt l k p := fun p => mt_oth hc
   refine ⟨fun p hp => ?_, fun i hi t => ?_⟩
   ·rw [hm']; have := ihA p hp; omega
   rw [hm']
   by_cases hik : i ≤ k
   ·exact ihB i hik t
   obtain rfl : i = k + 1 := by omega
   cases ho : opn (at_ l k)
   ·rw [sk_oth ho hc, ihB k (Nat.le_refl _) t]
    constructor
    ·rintro ⟨h1, h2, h3⟩; have := ihA t h1; refine ⟨h1, by omega, ?_⟩; omega
    ·rintro ⟨h1, h2, h3⟩
     have := ihA t h1
     have : t ≠ k := by intro e; rw [e, ho] at h1; cases h1
     refine ⟨h1, by omega, ?_⟩; omega
   ·rw [sk_opn' ho, List.mem_cons, ihB k (Nat.le_refl _) t]
    have hk := mt_ge (l := l) (Nat.le_refl k)
    constructor
    ·rintro (rfl | ⟨h1, h2, h3⟩)
     ·exact ⟨ho, by omega, Or.inl hk⟩
     ·have := ihA t h1; refine ⟨h1, by omega, ?_⟩; omega
    ·rintro ⟨h1, h2, h3⟩
     have := ihA t h1
     by_cases e : t = k
     ·exact Or.inl e
     ·refine Or.inr ⟨h1, by omega, ?_⟩; omega
  ·have hok := cls_opn hc
   cases hs : sk l k with
   | nil =>
    have hm' : ∀ p, mt l (k + 1) p = mt l k p := fun p => mt_nil hc hs
    refine ⟨fun p hp => ?_, fun i hi t => ?_⟩
    ·rw [hm']; have := ihA p hp; omega
    rw [hm']
    by_cases hik : i ≤ k
    ·exact ihB i hik t
    obtain rfl : i = k + 1 := by omega
    rw [sk_cls hc, hs]
    constructor
    ·intro h; simp at h
    ·rintro ⟨h1, h2, h3⟩
     have h4 := ihA t h1
     have : t ≠ k := by intro e; rw [e, hok] at h1; cases h1
     have := (ihB k (Nat.le_refl _) t).2 ⟨h1, by omega, by omega⟩
     rw [hs] at this; simp at this
   | cons u s =>
    have hu : u ∈ sk l k := by rw [hs]; simp
    have hul := sk_lt hu
    have hut := top u hu
    have hm' : ∀ p, mt l (k + 1) p = if p = k then (u : Int) else if p = u then (k : Int) else mt l k p := fun p => mt_cons hc hs
    have hm2 : ∀ p, opn (at_ l p) = true → mt l (k + 1) p = if p = u then (k : Int) else mt l k p := by
     intro p hp
     rw [hm', if_neg]
     intro e; rw [e, hok] at hp; cases hp
    refine ⟨fun p hp => ?_, fun i hi t => ?_⟩
    ·rw [hm2 p hp]
     have := ihA p hp
     by_cases e : p = u
     ·rw [if_pos e]; omega
     ·rw [if_neg e]; omega
    by_cases hik : i ≤ k
    ·rw [ihB i hik t]
     constructor
     ·rintro ⟨h1, h2, h3⟩
      refine ⟨h1, h2, ?_⟩
      rw [hm2 t h1]
      by_cases e : t = u
      ·rw [if_pos e]; omega
      ·rw [if_neg e]; exact h3
     ·rintro ⟨h1, h2, h3⟩
      refine ⟨h1, h2, ?_⟩
      rw [hm2 t h1] at h3
      by_cases e : t = u
      ·rw [e]; exact Or.inl hut
      ·rw [if_neg e] at h3; exact h3
    obtain rfl : i = k + 1 := by omega
    rw [sk_cls hc, hs, List.tail_cons]
    have hin := ihB k (Nat.le_refl _) t
    rw [hs, List.mem_cons] at hin
    have hsu := sk_head hs
    constructor
    ·intro h
     have h4 := hin.1 (Or.inr h)
     have h5 := ihA t h4.1
     have : t ≠ u := by
      intro e; rw [hsu, e] at h; have := sk_lt h; omega
     refine ⟨h4.1, by omega, ?_⟩
     rw [hm2 t h4.1, if_neg this]; omega
    ·rintro ⟨h1, h2, h3⟩
     have h5 := ihA t h1
     have h6 : t ≠ k := by intro e; rw [e, hok] at h1; cases h1
     rw [hm2 t h1] at h3
     have h7 : t ≠ u := by intro e; rw [if_pos e] at h3; omega
     rw [if_neg h7] at h3
     exact (hin.2 ⟨h1, by omega, by omega⟩).resolve_left h7
theorem mt_top {l : List (Int × Int × Int)} {k t : Nat} (h : t ∈ sk l k) : mt l k t = -1 := by
 have h1 := ((mt_mem (l := l) k).2 k (Nat.le_refl _) t).1 h
 have h2 := (mt_mem (l := l) k).1 t h1.1
 omega
theorem mt_cls {l : List (Int × Int × Int)} : ∀ {k p : Nat}, Good l k → p < k → cls (at_ l p) = true →
  ∃ t : Nat, sk l p = t :: sk l t ∧ t < p ∧ mt l k p = t ∧ mt l k t = p ∧ clo (at_ l t) (at_ l p) = true
 | 0, _, _, h, _ => by omega
 | k + 1, p, hg, h, hp => by
  by_cases e : p = k
  ·subst e
   have h1 := hg p (by omega)
   unfold gd at h1
   cases hs : sk l p with
   | nil => rw [hs, hp] at h1; simp at h1
   | cons t s =>
    have ht : t ∈ sk l p := by rw [hs]; simp
    have hl := sk_lt ht
    rw [hs, hp] at h1
    refine ⟨t, by rw [sk_head hs], hl, ?_, ?_, by simpa using h1⟩
    ·rw [mt_cons hp hs, if_pos rfl]
    ·rw [mt_cons hp hs, if_neg (by omega), if_pos rfl]
  ·obtain ⟨t, h1, h2, h3, h4, h5⟩ := mt_cls (l := l) (k := k) (p := p) (fun j hj => hg j (by omega)) (by omega) hp
   refine ⟨t, h1, h2, ?_, ?_, h5⟩
   ·cases hc : cls (at_ l k)
    ·rw [mt_oth hc]; exact h3
    ·cases hs : sk l k with
     | nil => rw [mt_nil hc hs]; exact h3
     | cons u s =>
      rw [mt_cons hc hs, if_neg e, if_neg]
      ·exact h3
      ·intro e2
       have := sk_open (l := l) (k := k) (t := u) (by rw [hs]; simp)
       rw [← e2, cls_opn hp] at this; cases this
   ·cases hc : cls (at_ l k)
    ·rw [mt_oth hc]; exact h4
    ·cases hs : sk l k with
     | nil => rw [mt_nil hc hs]; exact h4
     | cons u s =>
      rw [mt_cons hc hs, if_neg (by omega), if_neg]
      ·exact h4
      ·intro e2
       have := mt_top (l := l) (k := k) (t := u) (by rw [hs]; simp)
       rw [← e2] at this; omega
theorem mt_opn {l : List (Int × Int × Int)} : ∀ {k p : Nat}, opn (at_ l p) = true → mt l k p ≠ -1 →
  ∃ c : Nat, mt l k p = c ∧ p < c ∧ c < k ∧ cls (at_ l c) = true ∧ sk l c = p :: sk l p ∧ mt l k c = p
 | 0, _, _, h => absurd rfl h
 | k + 1, p, hp, h => by
  cases hc : cls (at_ l k)
  ·rw [mt_oth hc] at h
   obtain ⟨c, h1, h2, h3, h4, h5, h6⟩ := mt_opn hp h
   exact ⟨c, by rw [mt_oth hc]; exact h1, h2, by omega, h4, h5, by rw [mt_oth hc]; exact h6⟩
  ·cases hs : sk l k with
   | nil =>
    rw [mt_nil hc hs] at h
    obtain ⟨c, h1, h2, h3, h4, h5, h6⟩ := mt_opn hp h
    exact ⟨c, by rw [mt_nil hc hs]; exact h1, h2, by omega, h4, h5, by rw [mt_nil hc hs]; exact h6⟩
   | cons u s =>
    have hu : u ∈ sk l k := by rw [hs]; simp
    have hul := sk_lt hu
    have hpk : p ≠ k := by intro e; rw [e, cls_opn hc] at hp; cases hp
    rw [mt_cons hc hs, if_neg hpk] at h
    by_cases e : p = u
    ·subst e
     refine ⟨k, by rw [mt_cons hc hs, if_neg hpk, if_pos rfl], hul, by omega, hc, by rw [hs, sk_head hs], by rw [mt_cons hc hs, if_pos rfl]⟩
    ·rw [if_neg e] at h
     obtain ⟨c, h1, h2, h3, h4, h5, h6⟩ := mt_opn hp h
     refine ⟨c, by rw [mt_cons hc hs, if_neg hpk, if_neg e]; exact h1, h2, by omega, h4, h5, ?_⟩
     rw [mt_cons hc hs, if_neg (by omega), if_neg]
     ·exact h6
     ·intro e2
      have := sk_open hu
      rw [← e2, cls_opn h4] at this; cases this
def Sound (l : List (Int × Int × Int)) : Prop := Good l l.length ∧ sk l l.length = []
theorem at_len {l : List (Int × Int × Int)} {p : Nat} (h : l.length ≤ p) : at_ l p = (0, 0, 0) := by
 unfold at_; rw [List.getD_eq_getElem?_getD, List.getElem?_eq_none h]; rfl
theorem opn_len {l : List (Int × Int × Int)} {p : Nat} (h : opn (at_ l p) = true) : p < l.length := by
 by_cases e : p < l.length
 ·exact e
 ·rw [at_len (by omega)] at h; simp [opn] at h
theorem cls_len {l : List (Int × Int × Int)} {p : Nat} (h : cls (at_ l p) = true) : p < l.length := by
 by_cases e : p < l.length
 ·exact e
 ·rw [at_len (by omega)] at h; simp [cls] at h
theorem Sound.opn {l : List (Int × Int × Int)} (h : Sound l) {p : Nat} (hp : opn (at_ l p) = true) :
  ∃ c : Nat, mt l l.length p = c ∧ p < c ∧ c < l.length ∧ cls (at_ l c) = true ∧ sk l c = p :: sk l p ∧ mt l l.length c = p := by
 refine mt_opn hp ?_
 intro e
 have := ((mt_mem (l := l) l.length).2 l.length (Nat.le_refl _) p).2 ⟨hp, opn_len hp, Or.inl e⟩
 rw [h.2] at this; simp at this
theorem Sound.cls {l : List (Int × Int × Int)} (h : Sound l) {p : Nat} (hp : cls (at_ l p) = true) :
  ∃ t : Nat, sk l p = t :: sk l t ∧ t < p ∧ mt l l.length p = t ∧ mt l l.length t = p ∧ clo (at_ l t) (at_ l p) = true := mt_cls h.1 (cls_len hp) hp
end Go.Proofs.YtngehojibcmieaaGreatDoor
end
section
namespace Go.Proofs.YtngehojibcmieaaGreatDoor
def can (l : List (Int × Int × Int)) : Bool := decide (1 ≤ l.length ∧ l.length ≤ 200) && l.all right
def sound (l : List (Int × Int × Int)) : Bool := (List.range l.length).all (gd l) && (sk l l.length).isEmpty
theorem sound_iff {l : List (Int × Int × Int)} : sound l = true ↔ Sound l := by
 unfold sound Sound Good
 simp
theorem can_len {l : List (Int × Int × Int)} (h : can l = true) : 1 ≤ l.length ∧ l.length ≤ 200 := by
 unfold can at h; simp at h; omega
theorem can_right {l : List (Int × Int × Int)} (h : can l = true) {p : Nat} (hp : p < l.length) : right (at_ l p) = true := by
 unfold can at h
 simp only [Bool.and_eq_true, List.all_eq_true] at h
 have e : at_ l p = l[p] := by unfold at_; rw [List.getD_eq_getElem?_getD, List.getElem?_eq_getElem hp]; rfl
 rw [e]; exact h.2 _ (List.getElem_mem hp)
theorem can_iff {l : List (Int × Int × Int)} : can l = true ↔ (1 ≤ l.length ∧ l.length ≤ 200) ∧ ∀ p, p < l.length → right (at_ l p) = true := by
 constructor
 ·intro h; exact ⟨can_len h, fun p hp => can_right h hp⟩
 ·rintro ⟨h1, h2⟩
  unfold can
  simp only [Bool.and_eq_true, List.all_eq_true, decide_eq_true_eq]
  refine ⟨h1, fun x hx => ?_⟩
  obtain ⟨p, hp, e⟩ := List.getElem_of_mem hx
  have := h2 p hp
  unfold at_ at this
  rw [List.getD_eq_getElem?_getD, List.getElem?_eq_getElem hp] at this
  rw [← e]; exact this
def mE (l : List (Int × Int × Int)) : Int := if can l = true then (if sound l = true then 0 else 7) else 1
def mL (l : List (Int × Int × Int)) : List Int := (List.range l.length).map (mt l l.length)
def hL (l : List (Int × Int × Int)) : List Int := (List.range l.length).map (hm l)
def ends (l : List (Int × Int × Int)) : Bool := (List.range l.length).all fun i => ((at_ l i).1 == 25) == (i + 1 == l.length)
def led (l : List (Int × Int × Int)) (p : Nat) : Nat := p + 1 + (at_ l p).2.1.toNat
def jmp (i : Int × Int × Int) : Bool := i.1 == 19 || i.1 == 20
def stay (l : List (Int × Int × Int)) (p : Nat) : Bool := !jmp (at_ l p) || (decide (led l p < l.length) && (hm l (led l p) == hm l p))
def jmps (l : List (Int × Int × Int)) : Bool := (List.range l.length).all (stay l)
def wE (l : List (Int × Int × Int)) : Int := if mE l = 0 then (if ends l = true then (if jmps l = true then 0 else 8) else 7) else mE l
def hb (l : List (Int × Int × Int)) : List Nat → Nat
 | [] => 0
 | t :: s => if (at_ l t).1 = 23 then hb l s ||| 2 ^ (at_ l t).2.1.toNat else hb l s
def hdL (l : List (Int × Int × Int)) : List Int := (List.range l.length).map fun p => ((hb l (sk l p) : Nat) : Int)
def unl (l : List (Int × Int × Int)) (p : Nat) : Bool := (List.range p).any fun k => (at_ l k).1 == 24
def inl (l : List (Int × Int × Int)) (s : List Nat) : Bool := s.any fun t => (at_ l t).1 == 21
def ovr (l : List (Int × Int × Int)) (s : List Nat) (a : Int) : Bool := s.any fun t => (at_ l t).1 == 23 && decide (a ≤ (at_ l t).2.1)
def lkd (l : List (Int × Int × Int)) (s : List Nat) (a : Int) : Bool := s.any fun t => (at_ l t).1 == 23 && (at_ l t).2.1 == a
def bd (l : List (Int × Int × Int)) (p : Nat) : Bool :=
 if (at_ l p).1 = 23 then unl l p || (ovr l (sk l p) (at_ l p).2.1 || inl l (sk l p))
 else if (at_ l p).1 = 17 ∨ (at_ l p).1 = 18 then !lkd l (sk l p) (at_ l p).2.1 else false
def bds (l : List (Int × Int × Int)) (k : Nat) : Bool := (List.range k).any (bd l)
def lE (l : List (Int × Int × Int)) : Int := if wE l = 0 then (if bds l l.length = true then 11 else 0) else wE l
def lks (l : List (Int × Int × Int)) (k : Nat) : List Int := ((l.take k).filter fun i => i.1 == 23).map fun i => i.2.1
theorem mL_len (l : List (Int × Int × Int)) : (mL l).length = l.length := by simp [mL]
theorem hL_len (l : List (Int × Int × Int)) : (hL l).length = l.length := by simp [hL]
theorem hdL_len (l : List (Int × Int × Int)) : (hdL l).length = l.length := by simp [hdL]
theorem mL_at {l : List (Int × Int × Int)} {p : Nat} (h : p < l.length) : (mL l).getD p 0 = mt l l.length p := by simp [mL, h]
theorem hL_at {l : List (Int × Int × Int)} {p : Nat} (h : p < l.length) : (hL l).getD p 0 = hm l p := by simp [hL, h]
theorem hdL_at {l : List (Int × Int × Int)} {p : Nat} (h : p < l.length) : (hdL l).getD p 0 = (hb l (sk l p) : Nat) := by simp [hdL, h]
theorem mE_zero {l : List (Int × Int × Int)} (h : mE l = 0) : can l = true ∧ Sound l := by
 unfold mE at h
 cases hc : can l
 ·rw [hc] at h; simp at h
 ·cases hs : sound l
  ·rw [hc, hs] at h; simp at h
  ·exact ⟨rfl, sound_iff.1 hs⟩
theorem mE_of {l : List (Int × Int × Int)} (h : can l = true) (h2 : Sound l) : mE l = 0 := by
 unfold mE; rw [h, sound_iff.2 h2]; rfl
theorem wE_zero {l : List (Int × Int × Int)} (h : wE l = 0) : mE l = 0 ∧ ends l = true ∧ jmps l = true := by
 unfold wE at h
 by_cases hm : mE l = 0
 ·rw [if_pos hm] at h
  cases he : ends l
  ·rw [he] at h; simp at h
  ·cases hj : jmps l
   ·rw [he, hj] at h; simp at h
   ·exact ⟨hm, rfl, rfl⟩
 ·rw [if_neg hm] at h; exact absurd h hm
theorem wE_of {l : List (Int × Int × Int)} (h : mE l = 0) (h2 : ends l = true) (h3 : jmps l = true) : wE l = 0 := by
 unfold wE; rw [if_pos h, h2, h3]; rfl
theorem lE_zero {l : List (Int × Int × Int)} (h : lE l = 0) : wE l = 0 ∧ bds l l.length = false := by
 unfold lE at h
 by_cases hm : wE l = 0
 ·rw [if_pos hm] at h
  cases hb : bds l l.length
  ·exact ⟨hm, rfl⟩
  ·rw [hb] at h; simp at h
 ·rw [if_neg hm] at h; exact absurd h hm
theorem lE_of {l : List (Int × Int × Int)} (h : wE l = 0) (h2 : bds l l.length = false) : lE l = 0 := by
 unfold lE; rw [if_pos h, h2]; rfl
theorem lE_bad {l : List (Int × Int × Int)} (h : wE l = 0) (h2 : bds l l.length = true) : lE l = 11 := by
 unfold lE; rw [if_pos h, h2]; rfl
theorem ends_iff {l : List (Int × Int × Int)} : ends l = true ↔ ∀ i, i < l.length → ((at_ l i).1 = 25 ↔ i + 1 = l.length) := by
 unfold ends
 simp only [List.all_eq_true, List.mem_range]
 constructor
 ·intro h i hi
  have h2 := h i hi
  by_cases e1 : (at_ l i).1 = 25
  ·by_cases e2 : i + 1 = l.length
   ·simp [e1, e2]
   ·simp [e1, e2] at h2
  ·by_cases e2 : i + 1 = l.length
   ·simp [e1, e2] at h2
   ·simp [e1, e2]
 ·intro h i hi
  have h2 := h i hi
  by_cases e1 : (at_ l i).1 = 25
  ·simp [e1, h2.1 e1]
  ·have : ¬ i + 1 = l.length := fun e => e1 (h2.2 e)
   have h3 : ((at_ l i).1 == 25) = false := by simpa using e1
   have h4 : (i + 1 == l.length) = false := by simpa using this
   rw [h3, h4]; rfl
theorem jmps_iff {l : List (Int × Int × Int)} : jmps l = true ↔ ∀ p, p < l.length → jmp (at_ l p) = true → led l p < l.length ∧ hm l (led l p) = hm l p := by
 unfold jmps stay
 simp only [List.all_eq_true, List.mem_range]
 constructor
 ·intro h p hp hj
  have := h p hp
  rw [hj] at this
  simpa using this
 ·intro h p hp
  cases hj : jmp (at_ l p)
  ·simp
  ·have := h p hp hj
   simp [this]
theorem bds_iff {l : List (Int × Int × Int)} {k : Nat} : bds l k = true ↔ ∃ p, p < k ∧ bd l p = true := by
 unfold bds; simp
theorem bds_succ (l : List (Int × Int × Int)) (k : Nat) : bds l (k + 1) = (bds l k || bd l k) := by
 unfold bds; rw [List.range_succ, List.any_append]; simp
theorem unl_succ (l : List (Int × Int × Int)) (k : Nat) : unl l (k + 1) = (unl l k || ((at_ l k).1 == 24)) := by
 unfold unl; rw [List.range_succ, List.any_append]; simp
theorem take_at {l : List (Int × Int × Int)} {k : Nat} (h : k < l.length) : l.take (k + 1) = l.take k ++ [at_ l k] := by
 rw [List.take_succ_eq_append_getElem h]
 congr 2
 unfold at_; rw [List.getD_eq_getElem?_getD, List.getElem?_eq_getElem h]; rfl
theorem lks_succ {l : List (Int × Int × Int)} {k : Nat} (h : k < l.length) : lks l (k + 1) = if (at_ l k).1 = 23 then lks l k ++ [(at_ l k).2.1] else lks l k := by
 unfold lks
 rw [take_at h, List.filter_append, List.map_append]
 by_cases e : (at_ l k).1 = 23
 ·simp [e]
 ·simp [e]
theorem lks_len (l : List (Int × Int × Int)) (k : Nat) : (lks l k).length ≤ k := by
 unfold lks
 rw [List.length_map]
 have h1 := List.length_filter_le (fun i : Int × Int × Int => i.1 == 23) (l.take k)
 have h2 := List.length_take_le k l
 omega
theorem right_lock {i : Int × Int × Int} (h : right i = true) (hi : i.1 = 23 ∨ i.1 = 24 ∨ i.1 = 17 ∨ i.1 = 18) : 0 ≤ i.2.1 ∧ i.2.1 < 8 := by
 have h2 := (right_parts h).2.1
 unfold rA at h2
 rw [if_neg (by omega), if_neg (by omega), if_pos (by omega)] at h2
 exact pl_iff.1 h2
theorem right_jump {i : Int × Int × Int} (h : right i = true) (hi : jmp i = true) : 0 ≤ i.2.1 ∧ i.2.1 < 200 := by
 have h2 := (right_parts h).2.1
 unfold jmp at hi
 simp at hi
 unfold rA at h2
 rw [if_neg (by omega), if_neg (by omega), if_neg (by omega), if_neg (by omega), if_pos (by omega)] at h2
 exact pl_iff.1 h2
def Blk8 (l : List (Int × Int × Int)) : Prop := ∀ t, (at_ l t).1 = 23 → 0 ≤ (at_ l t).2.1 ∧ (at_ l t).2.1 < 8
theorem can_blk {l : List (Int × Int × Int)} (h : can l = true) : Blk8 l := by
 intro t ht
 by_cases e : t < l.length
 ·exact right_lock (can_right h e) (Or.inl ht)
 ·rw [at_len (by omega)] at ht; simp at ht
theorem hb_test (l : List (Int × Int × Int)) (b : Nat) : ∀ s : List Nat, (hb l s).testBit b = s.any fun t => (at_ l t).1 == 23 && (at_ l t).2.1.toNat == b
 | [] => by simp [hb]
 | t :: s => by
  rw [hb, List.any_cons, ← hb_test l b s]
  by_cases h : (at_ l t).1 = 23
  ·rw [if_pos h, Nat.testBit_or, Nat.testBit_two_pow, h]
   simp [Bool.or_comm]
   rfl
  ·rw [if_neg h]
   simp [h]
theorem hb_lt {l : List (Int × Int × Int)} (h : Blk8 l) : ∀ s : List Nat, hb l s < 256
 | [] => by simp [hb]
 | t :: s => by
  have := hb_lt h s
  rw [hb]
  by_cases e : (at_ l t).1 = 23
  ·rw [if_pos e]
   have h2 := h t e
   exact Nat.or_lt_two_pow (n := 8) this (Nat.pow_lt_pow_right (by decide) (by omega))
  ·rw [if_neg e]; exact this
theorem hb_and {l : List (Int × Int × Int)} (h : Blk8 l) (s : List Nat) {a : Int} (ha : 0 ≤ a) : (hb l s &&& 2 ^ a.toNat == 0) = !lkd l s a := by
 have e : lkd l s a = (hb l s).testBit a.toNat := by
  rw [hb_test]
  unfold lkd
  congr 1; funext t
  by_cases e : (at_ l t).1 = 23
  ·have := h t e
   have h2 : ((at_ l t).1 == 23) = true := by simpa using e
   rw [h2, Bool.true_and, Bool.true_and, Bool.eq_iff_iff, beq_iff_eq, beq_iff_eq]; omega
  ·have h2 : ((at_ l t).1 == 23) = false := by simpa using e
   rw [h2]; rfl
 rw [e]
 cases ht : (hb l s).testBit a.toNat
 ·have : hb l s &&& 2 ^ a.toNat = 0 := by
   apply Nat.eq_of_testBit_eq
   intro i
   rw [Nat.testBit_and, Nat.testBit_two_pow]
   by_cases hi : a.toNat = i
   ·rw [← hi, ht]; simp
   ·simp [hi]
  rw [this]; rfl
 ·have : hb l s &&& 2 ^ a.toNat ≠ 0 := by
   intro e
   have h2 : (hb l s &&& 2 ^ a.toNat).testBit a.toNat = true := by
    rw [Nat.testBit_and, Nat.testBit_two_pow, ht]; simp
   rw [e] at h2; simp at h2
  simpa using this
theorem hb_shr {l : List (Int × Int × Int)} (h : Blk8 l) (s : List Nat) {a : Int} (ha : 0 ≤ a) : (hb l s / 2 ^ a.toNat != 0) = ovr l s a := by
 have hp : 0 < 2 ^ a.toNat := Nat.pow_pos (by decide)
 cases ho : ovr l s a
 ·have : hb l s < 2 ^ a.toNat := by
   apply Nat.lt_pow_two_of_testBit
   intro i hi
   rw [hb_test, List.any_eq_false]
   intro t ht hc
   simp only [Bool.and_eq_true, beq_iff_eq] at hc
   have h2 := h t hc.1
   unfold ovr at ho
   rw [List.any_eq_false] at ho
   apply ho t ht
   simp only [Bool.and_eq_true, beq_iff_eq, decide_eq_true_eq]
   exact ⟨hc.1, by omega⟩
  rw [Nat.div_eq_of_lt this]; rfl
 ·unfold ovr at ho
  rw [List.any_eq_true] at ho
  obtain ⟨t, ht, hc⟩ := ho
  simp only [Bool.and_eq_true, beq_iff_eq, decide_eq_true_eq] at hc
  have h2 := h t hc.1
  have h3 : (hb l s).testBit (at_ l t).2.1.toNat = true := by
   rw [hb_test, List.any_eq_true]
   exact ⟨t, ht, by simp [hc.1]⟩
  have h4 := Nat.ge_two_pow_of_testBit h3
  have h5 : 2 ^ a.toNat ≤ 2 ^ (at_ l t).2.1.toNat := Nat.pow_le_pow_right (by decide) (by omega)
  have : hb l s / 2 ^ a.toNat ≠ 0 := by
   intro e
   rw [Nat.div_eq_zero_iff] at e
   omega
  simpa using this
end Go.Proofs.YtngehojibcmieaaGreatDoor
end
section
namespace Go.Proofs.YtngehojibcmieaaGreatDoor
theorem locks_open {L : List (Int × Int × Int)} : ∀ {k : Nat}, Good L k → unl L k = false → ∀ j, j < k → (at_ L j).1 = 23 → j ∈ sk L k
 | 0, _, _, j, hj, _ => by omega
 | k + 1, hg, hu, j, hj, h23 => by
  rw [unl_succ, Bool.or_eq_false_iff] at hu
  have ih := locks_open (L := L) (k := k) (fun i hi => hg i (by omega)) hu.1
  have h24 : (at_ L k).1 ≠ 24 := by simpa using hu.2
  cases ho : opn (at_ L k)
  ·have hjk : j ≠ k := by intro e; rw [e] at h23; unfold opn at ho; rw [h23] at ho; simp at ho
   have hm := ih j (by omega) h23
   cases hc : cls (at_ L k)
   ·rw [sk_oth ho hc]; exact hm
   ·have hgk := hg k (by omega)
    unfold gd at hgk
    rw [sk_cls hc]
    cases hs : sk L k with
    | nil => rw [hs] at hm; simp at hm
    | cons t s =>
     rw [hc, hs] at hgk
     rw [hs] at hm
     rcases List.mem_cons.1 hm with e | e
     ·exfalso
      subst e
      simp only [clo, cls, h23] at hgk hc
      simp at hgk hc
      omega
     ·exact e
  ·rw [sk_opn' ho]
   by_cases e : j = k
   ·rw [e]; simp
   ·exact List.mem_cons_of_mem _ (ih j (by omega) h23)
theorem mem_lks {L : List (Int × Int × Int)} {b : Int} : ∀ {k : Nat}, k ≤ L.length → (b ∈ lks L k ↔ ∃ j, j < k ∧ (at_ L j).1 = 23 ∧ (at_ L j).2.1 = b)
 | 0, _ => by simp [lks]
 | k + 1, h => by
  have ih := mem_lks (L := L) (b := b) (k := k) (by omega)
  rw [lks_succ (by omega)]
  by_cases e : (at_ L k).1 = 23
  ·rw [if_pos e, List.mem_append, ih]
   constructor
   ·rintro (⟨j, h1, h2, h3⟩ | h1)
    ·exact ⟨j, by omega, h2, h3⟩
    ·simp at h1; exact ⟨k, by omega, e, h1.symm⟩
   ·rintro ⟨j, h1, h2, h3⟩
    by_cases ej : j = k
    ·subst ej; exact Or.inr (by simp [h3])
    ·exact Or.inl ⟨j, by omega, h2, h3⟩
  ·rw [if_neg e, ih]
   constructor
   ·rintro ⟨j, h1, h2, h3⟩; exact ⟨j, by omega, h2, h3⟩
   ·rintro ⟨j, h1, h2, h3⟩
    have : j ≠ k := by intro ej; rw [ej] at h2; exact e h2
    exact ⟨j, by omega, h2, h3⟩
theorem held_get {L : List (Int × Int × Int)} (hb : bds L L.length = false) {i : Nat} (hi : i < L.length) (hg : (at_ L i).1 = 17 ∨ (at_ L i).1 = 18) : lkd L (sk L i) (at_ L i).2.1 = true := by
 cases hv : lkd L (sk L i) (at_ L i).2.1
 ·have : bd L i = true := by unfold bd; rw [if_neg (by omega), if_pos hg, hv]; rfl
  have := bds_iff.2 ⟨i, hi, this⟩
  rw [this] at hb; cases hb
 ·rfl
end Go.Proofs.YtngehojibcmieaaGreatDoor
end
section
namespace Go.Proofs.YtngehojibcmieaaGreatDoor
theorem wE_len {L : List (Int × Int × Int)} (h : wE L = 0) : 1 ≤ L.length ∧ L.length ≤ 200 := can_len (mE_zero (wE_zero h).1).1
section
variable {A B : List (Int × Int × Int)}
def two (A B : List (Int × Int × Int)) : List (Int × Int × Int) := A.take (A.length - 1) ++ B
end
end Go.Proofs.YtngehojibcmieaaGreatDoor
end
section
namespace Go.Proofs.YtngehojibcmieaaGreatDoor
def tk (o : Int) : List UInt8 :=
 if o = 2 ∨ o = 3 then [32] else if o = 4 then [32, 32] else if o = 5 then [105, 105]
 else if o = 6 ∨ o = 12 ∨ o = 14 ∨ o = 16 ∨ o = 18 then [105]
 else if o = 7 ∨ o = 10 ∨ o = 20 then [98] else if o = 8 ∨ o = 9 then [98, 98] else []
def gv (o a : Int) (t : List UInt8) : List UInt8 :=
 if o = 1 ∨ o = 6 ∨ o = 10 ∨ o = 11 ∨ o = 13 ∨ o = 15 ∨ o = 17 then [105]
 else if o = 3 then t ++ t else if o = 4 then t.drop 1 ++ t.take 1
 else if o = 5 then (if a = 11 ∨ a = 12 then [98] else [105])
 else if o = 7 ∨ o = 8 ∨ o = 9 then [98] else []
def fit1 (x y : UInt8) : Bool := if y = 32 then (x == 105 || x == 98) else x == y
def fit : List UInt8 → List UInt8 → Bool
 | [], [] => true
 | x :: t, y :: u => fit1 x y && fit t u
 | _, _ => false
def bh (o a : Int) (s : List UInt8) : List UInt8 := s.take (s.length - (tk o).length) ++ gv o a (s.drop (s.length - (tk o).length))
def bE (o a : Int) (s : List UInt8) : Int :=
 if s.length < (tk o).length then 9 else if fit (s.drop (s.length - (tk o).length)) (tk o) = true then (if 16 < (bh o a s).length then 9 else 0) else 10
def hand (f : Nat → List UInt8 × Bool × Bool) (q : Nat) (s : List UInt8) : Nat → List UInt8 × Bool × Bool :=
 fun j => if j = q then (s, true, (f q).2.2 || ((f q).2.1 && (f q).1 != s)) else f j
def hands (f : Nat → List UInt8 × Bool × Bool) (l : List Nat) (s : List UInt8) : Nat → List UInt8 × Bool × Bool := l.foldl (fun f q => hand f q s) f
def nx (l : List (Int × Int × Int)) (p : Nat) : List Nat :=
 if (at_ l p).1 = 25 then [] else if (at_ l p).1 = 19 then [led l p] else if (at_ l p).1 = 20 then [p + 1, led l p] else [p + 1]
def sp (l : List (Int × Int × Int)) : Nat → Nat → List UInt8 × Bool × Bool
 | 0 => hand (fun _ => ([], false, false)) 0 []
 | k + 1 => hands (sp l k) (nx l k) (bh (at_ l k).1 (at_ l k).2.1 (sp l k k).1)
def sf (l : List (Int × Int × Int)) (p : Nat) : List UInt8 := (sp l p p).1
def er (l : List (Int × Int × Int)) (k : Nat) : Int :=
 if (sp l k k).2.1 = false then 8 else if (sp l k k).2.2 = true then 10
 else if (at_ l k).1 = 22 ∧ sf l k ≠ sf l (mt l l.length k).toNat then 10 else bE (at_ l k).1 (at_ l k).2.1 (sf l k)
def fe (l : List (Int × Int × Int)) : Nat → Int
 | 0 => 0
 | k + 1 => if fe l k = 0 then er l k else fe l k
def tE (l : List (Int × Int × Int)) : Int := if wE l = 0 then fe l l.length else wE l
def tL (l : List (Int × Int × Int)) : List (List UInt8) := (List.range l.length).map (sf l)
def tA (l : List (Int × Int × Int)) : List (List UInt8) := if tE l = 0 then tL l else []
end Go.Proofs.YtngehojibcmieaaGreatDoor
end
section
namespace Go.Proofs.YtngehojibcmieaaGreatDoor
theorem nx_gt {l : List (Int × Int × Int)} {p q : Nat} (h : q ∈ nx l p) : p < q := by
 unfold nx at h
 split at h
 ·simp at h
 ·split at h
  ·simp at h; subst h; unfold led; omega
  ·split at h
   ·simp at h
    rcases h with rfl | rfl
    ·omega
    ·unfold led; omega
   ·simp at h; omega
theorem nx_lt {l : List (Int × Int × Int)} {p q : Nat} (hw : wE l = 0) (hp : p < l.length) (h : q ∈ nx l p) : q < l.length := by
 obtain ⟨_, he, hj⟩ := wE_zero hw
 have he2 := ends_iff.1 he p hp
 have hj2 := jmps_iff.1 hj p hp
 unfold nx at h
 split at h
 ·simp at h
 ·rename_i h25
  have hp1 : p + 1 < l.length := by
   have : ¬ p + 1 = l.length := fun e => h25 (he2.2 e)
   omega
  split at h
  ·rename_i h19
   simp at h; subst h
   exact (hj2 (by unfold jmp; rw [h19]; rfl)).1
  ·split at h
   ·rename_i h20
    simp at h
    rcases h with rfl | rfl
    ·exact hp1
    ·exact (hj2 (by unfold jmp; rw [h20]; rfl)).1
   ·simp at h; omega
theorem hands_other {f : Nat → List UInt8 × Bool × Bool} {l : List Nat} {s : List UInt8} {j : Nat} (h : j ∉ l) : hands f l s j = f j := by
 unfold hands
 induction l generalizing f with
 | nil => rfl
 | cons q l ih =>
  rw [List.foldl_cons, ih (by intro h2; exact h (by simp [h2]))]
  unfold hand
  rw [if_neg]
  intro e; exact h (by simp [e])
theorem hands_snoc (f : Nat → List UInt8 × Bool × Bool) (l : List Nat) (q : Nat) (s : List UInt8) : hands f (l ++ [q]) s = hand (hands f l s) q s := by
 unfold hands; rw [List.foldl_append]; rfl
theorem sp_succ {l : List (Int × Int × Int)} {k j : Nat} (h : j ≤ k) : sp l (k + 1) j = sp l k j := by
 rw [sp, hands_other]
 intro h2
 have := nx_gt h2; omega
theorem sp_stable {l : List (Int × Int × Int)} {j : Nat} : ∀ {k : Nat}, j ≤ k → sp l k j = sp l j j
 | 0, h => by obtain rfl : j = 0 := by omega
              rfl
 | k + 1, h => by
  by_cases e : j = k + 1
  ·rw [e]
  ·rw [sp_succ (by omega), sp_stable (by omega)]
theorem fe_succ {l : List (Int × Int × Int)} {k : Nat} (h : fe l k = 0) : fe l (k + 1) = er l k := by rw [fe, if_pos h]
theorem fe_stay {l : List (Int × Int × Int)} {k : Nat} (h : fe l k ≠ 0) : ∀ {m : Nat}, k ≤ m → fe l m = fe l k
 | 0, hm => by obtain rfl : k = 0 := by omega
               rfl
 | m + 1, hm => by
  by_cases e : k = m + 1
  ·rw [e]
  ·have := fe_stay h (m := m) (by omega)
   rw [fe, this, if_neg h]
theorem fe_zero {l : List (Int × Int × Int)} : ∀ {m k : Nat}, fe l m = 0 → k < m → fe l k = 0 ∧ er l k = 0
 | 0, k, _, h => by omega
 | m + 1, k, h0, h => by
  have hm : fe l m = 0 := by
   by_cases e : fe l m = 0
   ·exact e
   ·rw [fe, if_neg e] at h0; exact h0
  by_cases e : k = m
  ·subst e; rw [fe_succ hm] at h0; exact ⟨hm, h0⟩
  ·exact fe_zero hm (by omega)
theorem tE_err {l : List (Int × Int × Int)} {k : Nat} (hw : wE l = 0) (h : fe l k = 0) (he : er l k ≠ 0) (hk : k < l.length) : tE l = er l k := by
 unfold tE
 rw [if_pos hw]
 have h1 := fe_succ h
 rw [fe_stay (k := k + 1) (by rw [h1]; exact he) (by omega), h1]
theorem er_zero {l : List (Int × Int × Int)} {k : Nat} (h : er l k = 0) : (sp l k k).2.1 = true ∧ (sp l k k).2.2 = false ∧ ((at_ l k).1 = 22 → sf l k = sf l (mt l l.length k).toNat) ∧ bE (at_ l k).1 (at_ l k).2.1 (sf l k) = 0 := by
 unfold er at h
 split at h
 ·omega
 ·rename_i h1
  split at h
  ·omega
  ·rename_i h2
   split at h
   ·omega
   ·rename_i h3
    refine ⟨by simpa using h1, by simpa using h2, fun h4 => ?_, h⟩
    by_cases e : sf l k = sf l (mt l l.length k).toNat
    ·exact e
    ·exact absurd ⟨h4, e⟩ h3
theorem bE_zero {o a : Int} {s : List UInt8} (h : bE o a s = 0) : (tk o).length ≤ s.length ∧ fit (s.drop (s.length - (tk o).length)) (tk o) = true ∧ (bh o a s).length ≤ 16 := by
 unfold bE at h
 split at h
 ·omega
 ·split at h
  ·split at h
   ·omega
   ·rename_i h1 h2 h3; exact ⟨by omega, h2, by omega⟩
  ·omega
theorem sp_len {l : List (Int × Int × Int)} : ∀ {k : Nat}, fe l k = 0 → ∀ j, (sp l k j).1.length ≤ 16
 | 0, _, j => by
  unfold sp hand
  split <;> simp
 | k + 1, h, j => by
  have h1 := fe_zero h (Nat.lt_succ_self k)
  have hb := (bE_zero (er_zero h1.2).2.2.2).2.2
  have ih := sp_len h1.1
  rw [sp]
  have gen : ∀ (m : List Nat) (f : Nat → List UInt8 × Bool × Bool), (∀ j, (f j).1.length ≤ 16) → ∀ j, (hands f m (bh (at_ l k).1 (at_ l k).2.1 (sp l k k).1) j).1.length ≤ 16 := by
   intro m
   induction m with
   | nil => intro f hf; exact hf
   | cons q m ih2 =>
    intro f hf
    refine ih2 (hand f q _) (fun j => ?_)
    unfold hand
    split
    ·exact hb
    ·exact hf j
  exact gen _ _ ih j
theorem tL_len (l : List (Int × Int × Int)) : (tL l).length = l.length := by simp [tL]
theorem tL_at {l : List (Int × Int × Int)} {p : Nat} (h : p < l.length) : (tL l).getD p [] = sf l p := by simp [tL, h]
theorem mt_next {l : List (Int × Int × Int)} {k : Nat} (hw : wE l = 0) (hk : k < l.length) (h : (at_ l k).1 = 22) : ∃ t : Nat, mt l l.length k = t ∧ t < k := by
 have hs := (mE_zero (wE_zero hw).1).2
 obtain ⟨t, _, h2, h3, _⟩ := mt_cls hs.1 hk (show cls (at_ l k) = true by unfold cls; rw [h]; rfl)
 exact ⟨t, h3, h2⟩
end Go.Proofs.YtngehojibcmieaaGreatDoor
end
section
namespace Go.Proofs.YtngehojibcmieaaGreatDoor
theorem tE_zero {L : List (Int × Int × Int)} (h : tE L = 0) : wE L = 0 ∧ ∀ p, p < L.length → er L p = 0 := by
 unfold tE at h
 split at h
 ·rename_i h1; exact ⟨h1, fun p hp => (fe_zero h hp).2⟩
 ·rename_i h1; exact absurd h h1
end Go.Proofs.YtngehojibcmieaaGreatDoor
end
end
