/- What is proved here: contracts of cost.Worst, cost.Best and cost.Straight. Condition: the table of names holds what its initialiser lays (Nms). -/
import Derived.Test.YtacgnofmccennaaGreatDoorCr
namespace Go.Proofs.YtacgnofmccennaaGreatDoor
open Go.ChangeShapes Go.WideShapes Go.RowKit

theorem reckon_any (m : Bool) (a : Option Addr) (n c B : Nat) (L : List (Int × Int × Int)) (w : World) (hr : RowI w a n L) (hN : Nms w) (hB : w.cell? ⟨B, 0, none⟩ = some (.bool m)) :
    Calls Tryz.prog 20 #[.slice a n c, .func (.func 63) #[] #[.pointer (some ⟨B, 0, none⟩)]] w (GotK m L w) := by
  by_cases h0 : rE L = 0
  · exact reckon_ok m a n c B L w hr hN hB h0
  · exact reckon_err m a n c B L w hr hN h0
theorem worst_any (a : Option Addr) (n c : Nat) (L : List (Int × Int × Int)) (w : World) (hr : RowI w a n L) (hN : Nms w) :
    Calls Tryz.prog 6 #[.slice a n c] w fun e w' => e = .returned (.tuple #[.int .i64 (cW true L), .int .i64 (cE true L)]) ∧ Below w.heap.size w w' := by
  have CB := Lib.hid (fun W => better_any true W)
  have CK := Lib.hid (fun W B (g : Below w.heap.size w W) (h : W.cell? ⟨B, 0, none⟩ = some (.bool true)) => reckon_any true a n c B L W (hr.below g) (hN.below g) h)
  clear hr hN
  go_enter Tryz.func6, Tryz.ntmps6
  go_wp2_with (first | (go_at_call 21; refine (CB.out _).mono ?_; rintro e w1 ⟨B, rfl, hB1, hB2, hb1⟩) | (go_at_call 20; refine (CK.out _ _ hb1 hB2).mono ?_; rintro e w2 ⟨a2, n2, c2, rfl, hr2, hb2⟩))
  go_ret2
  exact ⟨rfl, keep_below hb1 hb2⟩
theorem best_any (a : Option Addr) (n c : Nat) (L : List (Int × Int × Int)) (w : World) (hr : RowI w a n L) (hN : Nms w) :
    Calls Tryz.prog 7 #[.slice a n c] w fun e w' => e = .returned (.tuple #[.int .i64 (cW false L), .int .i64 (cE false L)]) ∧ Below w.heap.size w w' := by
  have CB := Lib.hid (fun W => better_any false W)
  have CK := Lib.hid (fun W B (g : Below w.heap.size w W) (h : W.cell? ⟨B, 0, none⟩ = some (.bool false)) => reckon_any false a n c B L W (hr.below g) (hN.below g) h)
  clear hr hN
  go_enter Tryz.func7, Tryz.ntmps7
  go_wp2_with (first | (go_at_call 21; refine (CB.out _).mono ?_; rintro e w1 ⟨B, rfl, hB1, hB2, hb1⟩) | (go_at_call 20; refine (CK.out _ _ hb1 hB2).mono ?_; rintro e w2 ⟨a2, n2, c2, rfl, hr2, hb2⟩))
  go_ret2
  exact ⟨rfl, keep_below hb1 hb2⟩
/-- The place of the first instruction that leaves something out, or -1. -/
def IsLv (L : List (Int × Int × Int)) (i : Int) : Prop :=
  (i = -1 ∧ ∀ p, p < L.length → lv (at_ L p) = false) ∨ ∃ k : Nat, i = k ∧ k < L.length ∧ lv (at_ L k) = true
theorem strt_lv {L : List (Int × Int × Int)} {i : Int} (h : IsLv L i) : (!decide (0 ≤ i)) = strt L := by
  unfold strt
  rcases h with ⟨rfl, h⟩ | ⟨k, rfl, hk, h⟩
  · have : L.any lv = false := by
      rw [List.any_eq_false]
      intro x hx
      obtain ⟨p, hp, e⟩ := List.getElem_of_mem hx
      have := h p hp
      unfold at_ at this
      rw [List.getD_eq_getElem?_getD, List.getElem?_eq_getElem hp] at this
      rw [← e]
      simp only [Option.getD_some] at this
      rw [this]; simp
    rw [this]; rfl
  · have : L.any lv = true := by
      rw [List.any_eq_true]
      refine ⟨L[k], List.getElem_mem hk, ?_⟩
      unfold at_ at h
      rw [List.getD_eq_getElem?_getD, List.getElem?_eq_getElem hk] at h
      exact h
    rw [this]; simp
set_option maxHeartbeats 1000000 in
set_option maxRecDepth 100000 in
theorem indexLv_any (a : Option Addr) (n c : Nat) (L : List (Int × Int × Int)) (w : World) (hr : RowI w a n L) (hn : n ≤ 9223372036854775807) :
    Calls Tryz.prog 64 #[.slice a n c, .func (.func 25) #[] #[]] w fun e w' => ∃ i, e = .returned (.int .i64 i) ∧ IsLv L i ∧ Below w.heap.size w w' := by
  have HL := Lib.hid hr.1
  go_enter Tryz.func64, Tryz.ntmps64
  go_wp2
  go_loopw [8] (fun i wr => ∃ k : Nat, k ≤ n ∧ i = .int .i64 k ∧ Hid (∀ p, p < k → lv (at_ L p) = false) ∧ Below w.heap.size w wr) (fun i _ => n - (intOf i).toNat)
  case atStart => exact ⟨0, by omega, rfl, fun p hp => absurd hp (by omega), Below.refl _ _⟩
  case round =>
    obtain ⟨k, hk, rfl, HA, hbl⟩ := hrel
    by_cases hlt : k < n
    · obtain ⟨b1, o1, p1, p2, p3, rfl, hB1, hx, hc1, hc2, hc3⟩ := (hr.below hbl).at_ hlt
      have HX := Lib.hid (at_some hx)
      clear hx
      have ce := fun W => leavesOut_any p1 p2 p3 W
      cases hv : lv (p1, p2, p3)
      · rw [hv] at ce
        have HA2 : Hid (∀ p, p < k + 1 → lv (at_ L p) = false) := by
          intro p hp
          by_cases e : p = k
          · rw [e, HX.out]; exact hv
          · exact HA.out p (by omega)
        have CE := Lib.hid ce
        clear ce hv HA HX
        go_wp2_with (go_at_call 25; refine (CE.out _).mono ?_; rintro e w2 ⟨rfl, hb2⟩)
        go_roundw
        case rel => exact ⟨k + 1, by omega, by go_num, HA2, keep_below hbl hb2⟩
        case measure => simp [intOf]; omega
      · rw [hv] at ce
        have HQ : Hid (IsLv L k) := Or.inr ⟨k, rfl, by rw [← HL.out]; exact hlt, by rw [HX.out]; exact hv⟩
        have CE := Lib.hid ce
        clear ce hv HA HX
        go_wp2_with (go_at_call 25; refine (CE.out _).mono ?_; rintro e w2 ⟨rfl, hb2⟩)
        go_ret
        exact ⟨_, rfl, HQ, keep_below hbl hb2⟩
    · have HQ : Hid (IsLv L (-1)) := Or.inl ⟨rfl, fun p hp => HA.out p (by rw [← HL.out] at hp; omega)⟩
      go_wp2
      go_ret
      exact ⟨_, rfl, HQ, hbl⟩
theorem contains_any (a : Option Addr) (n c : Nat) (L : List (Int × Int × Int)) (w : World) (hr : RowI w a n L) (hn : n ≤ 9223372036854775807) :
    Calls Tryz.prog 24 #[.slice a n c, .func (.func 25) #[] #[]] w fun e w' => ∃ i, e = .returned (.bool (decide (0 ≤ i))) ∧ IsLv L i ∧ Below w.heap.size w w' := by
  have C := Lib.hid (indexLv_any a n c L w hr hn)
  clear hr
  go_enter Tryz.func24, Tryz.ntmps24
  go_wp2_with (go_at_call 64; refine C.out.mono ?_; rintro e w1 ⟨i, rfl, hi, hb⟩)
  go_ret
  exact ⟨i, rfl, hi, hb⟩
theorem straight_any (a : Option Addr) (n c : Nat) (L : List (Int × Int × Int)) (w : World) (hr : RowI w a n L) (hn : n ≤ 9223372036854775807) :
    Calls Tryz.prog 13 #[.slice a n c] w fun e w' => e = .returned (.bool (strt L)) ∧ Below w.heap.size w w' := by
  have C := Lib.hid (contains_any a n c L w hr hn)
  clear hr
  go_enter Tryz.func13, Tryz.ntmps13
  go_wp2_with (go_at_call 24; refine C.out.mono ?_; rintro e w1 ⟨i, rfl, hi, hb⟩)
  go_ret
  exact ⟨by rw [← strt_lv hi]; rfl, hb⟩
end Go.Proofs.YtacgnofmccennaaGreatDoor
