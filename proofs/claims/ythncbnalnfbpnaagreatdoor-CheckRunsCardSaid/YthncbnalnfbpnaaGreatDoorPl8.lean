/- What is proved here: which instructions change the blocks, what is retained, the outputs, the held blocks and whether a machine runs. Conditions: those each theorem states. -/
import Derived.Test.YthncbnalnfbpnaaGreatDoorGh
namespace Go.Proofs.YthncbnalnfbpnaaGreatDoor
open Go.RowKit

theorem deed_mem (i : Int × Int × Int) (v : V) (M : List Int) (h : i.1 ≠ 18) : (deed i v M).2 = M := by
  unfold deed
  by_cases c : i.1 = 1
  · rw [if_pos c] <;> first | rfl | (split <;> rfl)
  rw [if_neg c]; clear c
  by_cases c : i.1 = 2
  · rw [if_pos c] <;> first | rfl | (split <;> rfl)
  rw [if_neg c]; clear c
  by_cases c : i.1 = 3
  · rw [if_pos c] <;> first | rfl | (split <;> rfl)
  rw [if_neg c]; clear c
  by_cases c : i.1 = 4
  · rw [if_pos c] <;> first | rfl | (split <;> rfl)
  rw [if_neg c]; clear c
  by_cases c : i.1 = 5
  · rw [if_pos c] <;> first | rfl | (split <;> rfl)
  rw [if_neg c]; clear c
  by_cases c : i.1 = 6
  · rw [if_pos c] <;> first | rfl | (split <;> rfl)
  rw [if_neg c]; clear c
  by_cases c : i.1 = 7
  · rw [if_pos c] <;> first | rfl | (split <;> rfl)
  rw [if_neg c]; clear c
  by_cases c : i.1 = 8
  · rw [if_pos c] <;> first | rfl | (split <;> rfl)
  rw [if_neg c]; clear c
  by_cases c : i.1 = 9
  · rw [if_pos c] <;> first | rfl | (split <;> rfl)
  rw [if_neg c]; clear c
  by_cases c : i.1 = 10
  · rw [if_pos c] <;> first | rfl | (split <;> rfl)
  rw [if_neg c]; clear c
  by_cases c : i.1 = 11
  · rw [if_pos c] <;> first | rfl | (split <;> rfl)
  rw [if_neg c]; clear c
  by_cases c : i.1 = 12
  · rw [if_pos c] <;> first | rfl | (split <;> rfl)
  rw [if_neg c]; clear c
  by_cases c : i.1 = 13
  · rw [if_pos c] <;> first | rfl | (split <;> rfl)
  rw [if_neg c]; clear c
  by_cases c : i.1 = 14
  · rw [if_pos c] <;> first | rfl | (split <;> rfl)
  rw [if_neg c]; clear c
  by_cases c : i.1 = 15
  · rw [if_pos c] <;> first | rfl | (split <;> rfl)
  rw [if_neg c]; clear c
  by_cases c : i.1 = 16
  · rw [if_pos c] <;> first | rfl | (split <;> rfl)
  rw [if_neg c]; clear c
  by_cases c : i.1 = 17
  · rw [if_pos c] <;> first | rfl | (split <;> rfl)
  rw [if_neg c]; clear c
  by_cases c : i.1 = 18
  · rw [if_pos c]; exact absurd c h
  rw [if_neg c]; clear c
  by_cases c : i.1 = 19
  · rw [if_pos c] <;> first | rfl | (split <;> rfl)
  rw [if_neg c]; clear c
  by_cases c : i.1 = 20
  · rw [if_pos c] <;> first | rfl | (split <;> rfl)
  rw [if_neg c]; clear c
  by_cases c : i.1 = 21
  · rw [if_pos c] <;> first | rfl | (split <;> rfl)
  rw [if_neg c]; clear c
  by_cases c : i.1 = 22
  · rw [if_pos c] <;> first | rfl | (split <;> rfl)
  rw [if_neg c]; clear c
  by_cases c : i.1 = 23
  · rw [if_pos c] <;> first | rfl | (split <;> rfl)
  rw [if_neg c]; clear c
  by_cases c : i.1 = 24
  · rw [if_pos c] <;> first | rfl | (split <;> rfl)
  rw [if_neg c]
theorem deed_put (i : Int × Int × Int) (v : V) (M : List Int) (h : i.1 = 18) : (deed i v M).2 = M.set (i.2.1.toNat * 8 + i.2.2.toNat) v.top := by
  unfold deed
  rw [if_neg (by omega)]
  rw [if_neg (by omega)]
  rw [if_neg (by omega)]
  rw [if_neg (by omega)]
  rw [if_neg (by omega)]
  rw [if_neg (by omega)]
  rw [if_neg (by omega)]
  rw [if_neg (by omega)]
  rw [if_neg (by omega)]
  rw [if_neg (by omega)]
  rw [if_neg (by omega)]
  rw [if_neg (by omega)]
  rw [if_neg (by omega)]
  rw [if_neg (by omega)]
  rw [if_neg (by omega)]
  rw [if_neg (by omega)]
  rw [if_neg (by omega)]
  rw [if_pos h]
theorem deed_ret (i : Int × Int × Int) (v : V) (M : List Int) (h : i.1 ≠ 14) : (deed i v M).1.ret = v.ret := by
  unfold deed
  by_cases c : i.1 = 1
  · rw [if_pos c] <;> first | rfl | (split <;> rfl)
  rw [if_neg c]; clear c
  by_cases c : i.1 = 2
  · rw [if_pos c] <;> first | rfl | (split <;> rfl)
  rw [if_neg c]; clear c
  by_cases c : i.1 = 3
  · rw [if_pos c] <;> first | rfl | (split <;> rfl)
  rw [if_neg c]; clear c
  by_cases c : i.1 = 4
  · rw [if_pos c] <;> first | rfl | (split <;> rfl)
  rw [if_neg c]; clear c
  by_cases c : i.1 = 5
  · rw [if_pos c] <;> first | rfl | (split <;> rfl)
  rw [if_neg c]; clear c
  by_cases c : i.1 = 6
  · rw [if_pos c] <;> first | rfl | (split <;> rfl)
  rw [if_neg c]; clear c
  by_cases c : i.1 = 7
  · rw [if_pos c] <;> first | rfl | (split <;> rfl)
  rw [if_neg c]; clear c
  by_cases c : i.1 = 8
  · rw [if_pos c] <;> first | rfl | (split <;> rfl)
  rw [if_neg c]; clear c
  by_cases c : i.1 = 9
  · rw [if_pos c] <;> first | rfl | (split <;> rfl)
  rw [if_neg c]; clear c
  by_cases c : i.1 = 10
  · rw [if_pos c] <;> first | rfl | (split <;> rfl)
  rw [if_neg c]; clear c
  by_cases c : i.1 = 11
  · rw [if_pos c] <;> first | rfl | (split <;> rfl)
  rw [if_neg c]; clear c
  by_cases c : i.1 = 12
  · rw [if_pos c] <;> first | rfl | (split <;> rfl)
  rw [if_neg c]; clear c
  by_cases c : i.1 = 13
  · rw [if_pos c] <;> first | rfl | (split <;> rfl)
  rw [if_neg c]; clear c
  by_cases c : i.1 = 14
  · rw [if_pos c]; exact absurd c h
  rw [if_neg c]; clear c
  by_cases c : i.1 = 15
  · rw [if_pos c] <;> first | rfl | (split <;> rfl)
  rw [if_neg c]; clear c
  by_cases c : i.1 = 16
  · rw [if_pos c] <;> first | rfl | (split <;> rfl)
  rw [if_neg c]; clear c
  by_cases c : i.1 = 17
  · rw [if_pos c] <;> first | rfl | (split <;> rfl)
  rw [if_neg c]; clear c
  by_cases c : i.1 = 18
  · rw [if_pos c] <;> first | rfl | (split <;> rfl)
  rw [if_neg c]; clear c
  by_cases c : i.1 = 19
  · rw [if_pos c] <;> first | rfl | (split <;> rfl)
  rw [if_neg c]; clear c
  by_cases c : i.1 = 20
  · rw [if_pos c] <;> first | rfl | (split <;> rfl)
  rw [if_neg c]; clear c
  by_cases c : i.1 = 21
  · rw [if_pos c] <;> first | rfl | (split <;> rfl)
  rw [if_neg c]; clear c
  by_cases c : i.1 = 22
  · rw [if_pos c] <;> first | rfl | (split <;> rfl)
  rw [if_neg c]; clear c
  by_cases c : i.1 = 23
  · rw [if_pos c] <;> first | rfl | (split <;> rfl)
  rw [if_neg c]; clear c
  by_cases c : i.1 = 24
  · rw [if_pos c] <;> first | rfl | (split <;> rfl)
  rw [if_neg c]
theorem deed_outs (i : Int × Int × Int) (v : V) (M : List Int) (h : i.1 ≠ 16) : (deed i v M).1.outs = v.outs := by
  unfold deed
  by_cases c : i.1 = 1
  · rw [if_pos c] <;> first | rfl | (split <;> rfl)
  rw [if_neg c]; clear c
  by_cases c : i.1 = 2
  · rw [if_pos c] <;> first | rfl | (split <;> rfl)
  rw [if_neg c]; clear c
  by_cases c : i.1 = 3
  · rw [if_pos c] <;> first | rfl | (split <;> rfl)
  rw [if_neg c]; clear c
  by_cases c : i.1 = 4
  · rw [if_pos c] <;> first | rfl | (split <;> rfl)
  rw [if_neg c]; clear c
  by_cases c : i.1 = 5
  · rw [if_pos c] <;> first | rfl | (split <;> rfl)
  rw [if_neg c]; clear c
  by_cases c : i.1 = 6
  · rw [if_pos c] <;> first | rfl | (split <;> rfl)
  rw [if_neg c]; clear c
  by_cases c : i.1 = 7
  · rw [if_pos c] <;> first | rfl | (split <;> rfl)
  rw [if_neg c]; clear c
  by_cases c : i.1 = 8
  · rw [if_pos c] <;> first | rfl | (split <;> rfl)
  rw [if_neg c]; clear c
  by_cases c : i.1 = 9
  · rw [if_pos c] <;> first | rfl | (split <;> rfl)
  rw [if_neg c]; clear c
  by_cases c : i.1 = 10
  · rw [if_pos c] <;> first | rfl | (split <;> rfl)
  rw [if_neg c]; clear c
  by_cases c : i.1 = 11
  · rw [if_pos c] <;> first | rfl | (split <;> rfl)
  rw [if_neg c]; clear c
  by_cases c : i.1 = 12
  · rw [if_pos c] <;> first | rfl | (split <;> rfl)
  rw [if_neg c]; clear c
  by_cases c : i.1 = 13
  · rw [if_pos c] <;> first | rfl | (split <;> rfl)
  rw [if_neg c]; clear c
  by_cases c : i.1 = 14
  · rw [if_pos c] <;> first | rfl | (split <;> rfl)
  rw [if_neg c]; clear c
  by_cases c : i.1 = 15
  · rw [if_pos c] <;> first | rfl | (split <;> rfl)
  rw [if_neg c]; clear c
  by_cases c : i.1 = 16
  · rw [if_pos c]; exact absurd c h
  rw [if_neg c]; clear c
  by_cases c : i.1 = 17
  · rw [if_pos c] <;> first | rfl | (split <;> rfl)
  rw [if_neg c]; clear c
  by_cases c : i.1 = 18
  · rw [if_pos c] <;> first | rfl | (split <;> rfl)
  rw [if_neg c]; clear c
  by_cases c : i.1 = 19
  · rw [if_pos c] <;> first | rfl | (split <;> rfl)
  rw [if_neg c]; clear c
  by_cases c : i.1 = 20
  · rw [if_pos c] <;> first | rfl | (split <;> rfl)
  rw [if_neg c]; clear c
  by_cases c : i.1 = 21
  · rw [if_pos c] <;> first | rfl | (split <;> rfl)
  rw [if_neg c]; clear c
  by_cases c : i.1 = 22
  · rw [if_pos c] <;> first | rfl | (split <;> rfl)
  rw [if_neg c]; clear c
  by_cases c : i.1 = 23
  · rw [if_pos c] <;> first | rfl | (split <;> rfl)
  rw [if_neg c]; clear c
  by_cases c : i.1 = 24
  · rw [if_pos c] <;> first | rfl | (split <;> rfl)
  rw [if_neg c]
theorem deed_held (i : Int × Int × Int) (v : V) (M : List Int) (h : i.1 ≠ 23) (h' : i.1 ≠ 24) : (deed i v M).1.held = v.held := by
  unfold deed
  by_cases c : i.1 = 1
  · rw [if_pos c] <;> first | rfl | (split <;> rfl)
  rw [if_neg c]; clear c
  by_cases c : i.1 = 2
  · rw [if_pos c] <;> first | rfl | (split <;> rfl)
  rw [if_neg c]; clear c
  by_cases c : i.1 = 3
  · rw [if_pos c] <;> first | rfl | (split <;> rfl)
  rw [if_neg c]; clear c
  by_cases c : i.1 = 4
  · rw [if_pos c] <;> first | rfl | (split <;> rfl)
  rw [if_neg c]; clear c
  by_cases c : i.1 = 5
  · rw [if_pos c] <;> first | rfl | (split <;> rfl)
  rw [if_neg c]; clear c
  by_cases c : i.1 = 6
  · rw [if_pos c] <;> first | rfl | (split <;> rfl)
  rw [if_neg c]; clear c
  by_cases c : i.1 = 7
  · rw [if_pos c] <;> first | rfl | (split <;> rfl)
  rw [if_neg c]; clear c
  by_cases c : i.1 = 8
  · rw [if_pos c] <;> first | rfl | (split <;> rfl)
  rw [if_neg c]; clear c
  by_cases c : i.1 = 9
  · rw [if_pos c] <;> first | rfl | (split <;> rfl)
  rw [if_neg c]; clear c
  by_cases c : i.1 = 10
  · rw [if_pos c] <;> first | rfl | (split <;> rfl)
  rw [if_neg c]; clear c
  by_cases c : i.1 = 11
  · rw [if_pos c] <;> first | rfl | (split <;> rfl)
  rw [if_neg c]; clear c
  by_cases c : i.1 = 12
  · rw [if_pos c] <;> first | rfl | (split <;> rfl)
  rw [if_neg c]; clear c
  by_cases c : i.1 = 13
  · rw [if_pos c] <;> first | rfl | (split <;> rfl)
  rw [if_neg c]; clear c
  by_cases c : i.1 = 14
  · rw [if_pos c] <;> first | rfl | (split <;> rfl)
  rw [if_neg c]; clear c
  by_cases c : i.1 = 15
  · rw [if_pos c] <;> first | rfl | (split <;> rfl)
  rw [if_neg c]; clear c
  by_cases c : i.1 = 16
  · rw [if_pos c] <;> first | rfl | (split <;> rfl)
  rw [if_neg c]; clear c
  by_cases c : i.1 = 17
  · rw [if_pos c] <;> first | rfl | (split <;> rfl)
  rw [if_neg c]; clear c
  by_cases c : i.1 = 18
  · rw [if_pos c] <;> first | rfl | (split <;> rfl)
  rw [if_neg c]; clear c
  by_cases c : i.1 = 19
  · rw [if_pos c] <;> first | rfl | (split <;> rfl)
  rw [if_neg c]; clear c
  by_cases c : i.1 = 20
  · rw [if_pos c] <;> first | rfl | (split <;> rfl)
  rw [if_neg c]; clear c
  by_cases c : i.1 = 21
  · rw [if_pos c] <;> first | rfl | (split <;> rfl)
  rw [if_neg c]; clear c
  by_cases c : i.1 = 22
  · rw [if_pos c] <;> first | rfl | (split <;> rfl)
  rw [if_neg c]; clear c
  by_cases c : i.1 = 23
  · rw [if_pos c]; exact absurd c h
  rw [if_neg c]; clear c
  by_cases c : i.1 = 24
  · exact absurd c h'
  rw [if_neg c]
theorem deed_inp (i : Int × Int × Int) (v : V) (M : List Int) : (deed i v M).1.inp = v.inp := by
  unfold deed
  by_cases c : i.1 = 1
  · rw [if_pos c] <;> first | rfl | (split <;> rfl)
  rw [if_neg c]; clear c
  by_cases c : i.1 = 2
  · rw [if_pos c] <;> first | rfl | (split <;> rfl)
  rw [if_neg c]; clear c
  by_cases c : i.1 = 3
  · rw [if_pos c] <;> first | rfl | (split <;> rfl)
  rw [if_neg c]; clear c
  by_cases c : i.1 = 4
  · rw [if_pos c] <;> first | rfl | (split <;> rfl)
  rw [if_neg c]; clear c
  by_cases c : i.1 = 5
  · rw [if_pos c] <;> first | rfl | (split <;> rfl)
  rw [if_neg c]; clear c
  by_cases c : i.1 = 6
  · rw [if_pos c] <;> first | rfl | (split <;> rfl)
  rw [if_neg c]; clear c
  by_cases c : i.1 = 7
  · rw [if_pos c] <;> first | rfl | (split <;> rfl)
  rw [if_neg c]; clear c
  by_cases c : i.1 = 8
  · rw [if_pos c] <;> first | rfl | (split <;> rfl)
  rw [if_neg c]; clear c
  by_cases c : i.1 = 9
  · rw [if_pos c] <;> first | rfl | (split <;> rfl)
  rw [if_neg c]; clear c
  by_cases c : i.1 = 10
  · rw [if_pos c] <;> first | rfl | (split <;> rfl)
  rw [if_neg c]; clear c
  by_cases c : i.1 = 11
  · rw [if_pos c] <;> first | rfl | (split <;> rfl)
  rw [if_neg c]; clear c
  by_cases c : i.1 = 12
  · rw [if_pos c] <;> first | rfl | (split <;> rfl)
  rw [if_neg c]; clear c
  by_cases c : i.1 = 13
  · rw [if_pos c] <;> first | rfl | (split <;> rfl)
  rw [if_neg c]; clear c
  by_cases c : i.1 = 14
  · rw [if_pos c] <;> first | rfl | (split <;> rfl)
  rw [if_neg c]; clear c
  by_cases c : i.1 = 15
  · rw [if_pos c] <;> first | rfl | (split <;> rfl)
  rw [if_neg c]; clear c
  by_cases c : i.1 = 16
  · rw [if_pos c] <;> first | rfl | (split <;> rfl)
  rw [if_neg c]; clear c
  by_cases c : i.1 = 17
  · rw [if_pos c] <;> first | rfl | (split <;> rfl)
  rw [if_neg c]; clear c
  by_cases c : i.1 = 18
  · rw [if_pos c] <;> first | rfl | (split <;> rfl)
  rw [if_neg c]; clear c
  by_cases c : i.1 = 19
  · rw [if_pos c] <;> first | rfl | (split <;> rfl)
  rw [if_neg c]; clear c
  by_cases c : i.1 = 20
  · rw [if_pos c] <;> first | rfl | (split <;> rfl)
  rw [if_neg c]; clear c
  by_cases c : i.1 = 21
  · rw [if_pos c] <;> first | rfl | (split <;> rfl)
  rw [if_neg c]; clear c
  by_cases c : i.1 = 22
  · rw [if_pos c] <;> first | rfl | (split <;> rfl)
  rw [if_neg c]; clear c
  by_cases c : i.1 = 23
  · rw [if_pos c] <;> first | rfl | (split <;> rfl)
  rw [if_neg c]; clear c
  by_cases c : i.1 = 24
  · rw [if_pos c] <;> first | rfl | (split <;> rfl)
  rw [if_neg c]
/-- A row of eight of the blocks' 64 numbers. -/
def row8 (M : List Int) (r : Nat) : List Int := (M.drop (r * 8)).take 8
theorem row8_set (M : List Int) (a b r : Nat) (x : Int) (hb : b < 8) (h : a ≠ r) : row8 (M.set (a * 8 + b) x) r = row8 M r := by
  unfold row8
  apply List.ext_getElem?
  intro j
  rw [List.getElem?_take, List.getElem?_take]
  split
  · rw [List.getElem?_drop, List.getElem?_drop, List.getElem?_set_ne (by omega)]
  · rfl
/-- A step changes no row of the blocks but that one which a StoreL names. -/
theorem stp_row (L : List (Int × Int × Int)) (v : V) (M : List Int) (r : Nat) (h : (at_ L v.pl).1 = 18 → (at_ L v.pl).2.1.toNat ≠ r) (hb : (at_ L v.pl).1 = 18 → (at_ L v.pl).2.2.toNat < 8) : row8 (stp L v M).2 r = row8 M r := by
  unfold stp
  by_cases h18 : (at_ L v.pl).1 = 18
  · rw [deed_put _ _ _ h18]; exact row8_set M _ _ r _ (hb h18) (h h18)
  · rw [deed_mem _ _ _ h18]
theorem stp_ret (L : List (Int × Int × Int)) (v : V) (M : List Int) (h : (at_ L v.pl).1 ≠ 14) : (stp L v M).1.ret = v.ret := by
  unfold stp; rw [deed_ret _ _ _ h]
theorem stp_outs (L : List (Int × Int × Int)) (v : V) (M : List Int) (h : (at_ L v.pl).1 ≠ 16) : (stp L v M).1.outs = v.outs := by
  unfold stp; rw [deed_outs _ _ _ h]
theorem stp_held (L : List (Int × Int × Int)) (v : V) (M : List Int) (h : (at_ L v.pl).1 ≠ 23) (h' : (at_ L v.pl).1 ≠ 24) : (stp L v M).1.held = v.held := by
  unfold stp; rw [deed_held _ _ _ h h']
theorem stp_inp (L : List (Int × Int × Int)) (v : V) (M : List Int) : (stp L v M).1.inp = v.inp := by
  unfold stp; rw [deed_inp]
end Go.Proofs.YthncbnalnfbpnaaGreatDoor
