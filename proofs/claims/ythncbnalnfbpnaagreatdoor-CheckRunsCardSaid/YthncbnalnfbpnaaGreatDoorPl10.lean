/- What is proved here: how many steps are told; what the law reckons of loops around places. Conditions: New takes the row. -/
import Derived.Test.YthncbnalnfbpnaaGreatDoorGh
namespace Go.Proofs.YthncbnalnfbpnaaGreatDoor
open Go.RowKit

theorem deed_stp (i : Int × Int × Int) (v : V) (M : List Int) : (deed i v M).1.stp = v.stp := by
  unfold deed
  by_cases c : i.1 = 1
  · rw [if_pos c] <;> first | rfl | (split <;> rfl)
  rw [if_neg c]; clear c
  by_cases c : i.1 = 2
  · rw [if_pos c] <;> first | rfl | (split <;> rfl)
  rw [if_neg c]; clear c
  by_cases c : i.1 = 3
  · rw [if_pos c] <;> first | rfl | (split <;> rfl)
  rw [if_neg c]; clear c
  by_cases c : i.1 = 4
  · rw [if_pos c] <;> first | rfl | (split <;> rfl)
  rw [if_neg c]; clear c
  by_cases c : i.1 = 5
  · rw [if_pos c] <;> first | rfl | (split <;> rfl)
  rw [if_neg c]; clear c
  by_cases c : i.1 = 6
  · rw [if_pos c] <;> first | rfl | (split <;> rfl)
  rw [if_neg c]; clear c
  by_cases c : i.1 = 7
  · rw [if_pos c] <;> first | rfl | (split <;> rfl)
  rw [if_neg c]; clear c
  by_cases c : i.1 = 8
  · rw [if_pos c] <;> first | rfl | (split <;> rfl)
  rw [if_neg c]; clear c
  by_cases c : i.1 = 9
  · rw [if_pos c] <;> first | rfl | (split <;> rfl)
  rw [if_neg c]; clear c
  by_cases c : i.1 = 10
  · rw [if_pos c] <;> first | rfl | (split <;> rfl)
  rw [if_neg c]; clear c
  by_cases c : i.1 = 11
  · rw [if_pos c] <;> first | rfl | (split <;> rfl)
  rw [if_neg c]; clear c
  by_cases c : i.1 = 12
  · rw [if_pos c] <;> first | rfl | (split <;> rfl)
  rw [if_neg c]; clear c
  by_cases c : i.1 = 13
  · rw [if_pos c] <;> first | rfl | (split <;> rfl)
  rw [if_neg c]; clear c
  by_cases c : i.1 = 14
  · rw [if_pos c] <;> first | rfl | (split <;> rfl)
  rw [if_neg c]; clear c
  by_cases c : i.1 = 15
  · rw [if_pos c] <;> first | rfl | (split <;> rfl)
  rw [if_neg c]; clear c
  by_cases c : i.1 = 16
  · rw [if_pos c] <;> first | rfl | (split <;> rfl)
  rw [if_neg c]; clear c
  by_cases c : i.1 = 17
  · rw [if_pos c] <;> first | rfl | (split <;> rfl)
  rw [if_neg c]; clear c
  by_cases c : i.1 = 18
  · rw [if_pos c] <;> first | rfl | (split <;> rfl)
  rw [if_neg c]; clear c
  by_cases c : i.1 = 19
  · rw [if_pos c] <;> first | rfl | (split <;> rfl)
  rw [if_neg c]; clear c
  by_cases c : i.1 = 20
  · rw [if_pos c] <;> first | rfl | (split <;> rfl)
  rw [if_neg c]; clear c
  by_cases c : i.1 = 21
  · rw [if_pos c] <;> first | rfl | (split <;> rfl)
  rw [if_neg c]; clear c
  by_cases c : i.1 = 22
  · rw [if_pos c] <;> first | rfl | (split <;> rfl)
  rw [if_neg c]; clear c
  by_cases c : i.1 = 23
  · rw [if_pos c] <;> first | rfl | (split <;> rfl)
  rw [if_neg c]; clear c
  by_cases c : i.1 = 24
  · rw [if_pos c] <;> first | rfl | (split <;> rfl)
  rw [if_neg c]
theorem stp_stp (L : List (Int × Int × Int)) (v : V) (M : List Int) : (stp L v M).1.stp = IntKind.i64.wrap (v.stp + 1) := by
  unfold stp; rw [deed_stp]
theorem it_steps {L : List (Int × Int × Int)} {x : V × List Int} (h0 : x.1.stp = 0) : ∀ k : Nat, k ≤ 4000000000000000000 → 0 ≤ (it L k x).1.stp ∧ (it L k x).1.stp ≤ k
  | 0, _ => by show 0 ≤ x.1.stp ∧ x.1.stp ≤ _; omega
  | k + 1, h => by
    obtain ⟨i1, i2⟩ := it_steps (L := L) h0 k (by omega)
    show 0 ≤ (nxt L (it L k x)).1.stp ∧ (nxt L (it L k x)).1.stp ≤ ((k + 1 : Nat) : Int)
    unfold nxt
    split
    · rw [stp_stp, IntKind.wrap_i64]; omega
    · omega
/-- The end is told once. -/
theorem end_told {L : List (Int × Int × Int)} {x : V × List Int} (h : Agr L x.1) (w : Takes L) : ((told L x.1).1 == 3) = !(nxt L x).1.goes := by
  unfold told nxt
  rw [if_pos h.goes, if_pos h.goes]
  by_cases e : (at_ L x.1.pl).1 = 25
  · rw [(w.end_ h e x.2).1]
    unfold evt
    rw [e]; rfl
  · rw [(inv_step h w x.2 e).goes]
    unfold evt
    by_cases e1 : (at_ L x.1.pl).1 = 23
    · rw [if_pos e1]; rfl
    · rw [if_neg e1]
      by_cases e2 : (at_ L x.1.pl).1 = 24
      · rw [if_pos e2]; rfl
      · rw [if_neg e2, if_neg e]; rfl
/-- The home that a stack of regions tells. -/
def hd_ : List Nat → Int
  | [] => -1
  | t :: _ => (t : Int)
theorem hm_hd (L : List (Int × Int × Int)) (i : Nat) : hm L i = hd_ (sk L i) := by
  unfold hm hd_; cases sk L i <;> rfl
/-- A loop's rounds. -/
theorem loop_rounds {L : List (Int × Int × Int)} (w : Takes L) {t : Nat} (h : t < L.length) (h1 : (at_ L t).1 = 21) : 1 ≤ (at_ L t).2.1 ∧ (at_ L t).2.1 ≤ 1000 := by
  have hA := (right_parts (w.right h)).2.1
  rw [h1] at hA
  exact of_decide_eq_true hA
theorem prd_loop {L : List (Int × Int × Int)} {t : Nat} {s : List Nat} (h : (at_ L t).1 = 21) : prd L 0 (t :: s) = (at_ L t).2.1.toNat * prd L 0 s := by
  conv => lhs; unfold prd
  rw [if_pos ⟨h, Nat.zero_le _⟩]
theorem prd_oth {L : List (Int × Int × Int)} {t : Nat} {s : List Nat} (h : (at_ L t).1 ≠ 21) : prd L 0 (t :: s) = prd L 0 s := by
  conv => lhs; unfold prd
  rw [if_neg (fun e => h e.1)]
theorem sm_succ (L : List (Int × Int × Int)) (i : Nat) : sm L 0 0 (i + 1) = sm L 0 0 i + prd L 0 (sk L i) := by
  rw [sm_split, Nat.zero_add]; rfl
/-- A place of an inner walk: the regions around a place from some on. -/
def Up (L : List (Int × Int × Int)) (i : Nat) (s : List Nat) : Prop := ∃ u, sk L i = u ++ s
theorem Up.refl (L : List (Int × Int × Int)) (i : Nat) : Up L i (sk L i) := ⟨[], rfl⟩
theorem Up.tail {L : List (Int × Int × Int)} {i t : Nat} {s : List Nat} (h : Up L i (t :: s)) : t < i ∧ s = sk L t ∧ Up L i s := by
  obtain ⟨u, hu⟩ := h
  exact ⟨sk_lt (l := L) (by rw [hu]; simp), sk_chain hu, u ++ [t], by rw [hu]; simp⟩
end Go.Proofs.YthncbnalnfbpnaaGreatDoor
