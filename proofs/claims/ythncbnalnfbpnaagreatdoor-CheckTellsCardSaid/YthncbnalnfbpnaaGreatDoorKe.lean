/- What is proved here: plain facts on the locks of the document. contracts of the document's bad and Locks for layer 6. Conditions: the row is not too long. the contract of the document's Locks for layer 6. Conditions: the row is not too long. -/
import Derived.Test.YthncbnalnfbpnaaGreatDoorKd
import Derived.Test.YthncbnalnfbpnaaGreatDoorGt
section
namespace Go.Proofs.YthncbnalnfbpnaaGreatDoor
open Go.ChangeShapes Go.WideShapes Go.RowKit
/-- Is one of the first k instructions a lock of a block, in which a place stands? -/
def lkf (L : List (Int × Int × Int)) (i : Nat) (b : Int) (k : Nat) : Bool := (List.range k).any fun t => (at_ L t).1 == 23 && ((at_ L t).2.1 == b && wi L t i)
theorem lkf_succ (L : List (Int × Int × Int)) (i : Nat) (b : Int) (k : Nat) : lkf L i b (k + 1) = (lkf L i b k || ((at_ L k).1 == 23 && ((at_ L k).2.1 == b && wi L k i))) := by
  unfold lkf; rw [List.range_succ, List.any_append]; simp
theorem lkf_end (L : List (Int × Int × Int)) (i : Nat) (b : Int) : lkf L i b i = lkd L (sk L i) b := by
  rw [Bool.eq_iff_iff]
  unfold lkf lkd
  rw [List.any_eq_true, List.any_eq_true]
  constructor
  · rintro ⟨t, _, h⟩
    simp only [Bool.and_eq_true] at h
    exact ⟨t, wi_iff.1 h.2.2, by simp only [Bool.and_eq_true]; exact ⟨h.1, h.2.1⟩⟩
  · rintro ⟨t, ht, h⟩
    simp only [Bool.and_eq_true] at h
    exact ⟨t, by simpa using sk_lt ht, by simp only [Bool.and_eq_true]; exact ⟨h.1, h.2, wi_iff.2 ht⟩⟩
theorem within_any (a2 : Option Addr) (n c2 : Nat) (L : List (Int × Int × Int)) (k i : Nat) (hk : k < i) (hi : i < n) (hS : Sound L) (hL : n = L.length) (w : World) (hm : Row w a2 n (mL L)) :
    Calls Tryz.prog 113 #[.slice a2 n c2, .int .i64 k, .int .i64 i] w fun e w' => e = .returned (.bool (wi L k i)) ∧ w' = w := by
  rw [wi_eq hS (by omega) hk]
  obtain ⟨b2, o2, rfl, hB2, hcs⟩ := hm.2 (by omega)
  have d1 := hcs k (by omega)
  rw [mL_at (by omega)] at d1
  obtain ⟨x, hx⟩ : ∃ x, x = mt L L.length k := ⟨_, rfl⟩
  rw [← hx] at d1 ⊢
  have hkn : k < n := by omega
  clear hcs hm hx hS hL
  go_enter Tryz.func113, Tryz.ntmps113
  go_wp2
  go_ret
  exact ⟨rfl, rfl⟩
end Go.Proofs.YthncbnalnfbpnaaGreatDoor
end

section
namespace Go.Proofs.YthncbnalnfbpnaaGreatDoor
open Go.ChangeShapes Go.WideShapes Go.RowKit

/-- Does an instruction spoil a lock of a block behind it? -/
def bq (L : List (Int × Int × Int)) (i : Nat) (x : Int) (t : Nat) : Bool := (at_ L t).1 == 24 || (wi L t i && ((at_ L t).1 == 21 || ((at_ L t).1 == 23 && decide (x ≤ (at_ L t).2.1))))
theorem bd_bq {L : List (Int × Int × Int)} {i : Nat} (h : (at_ L i).1 = 23) : bd L i = (List.range i).any (bq L i (at_ L i).2.1) := by
  rw [bd_lock h, Bool.eq_iff_iff]
  simp only [Bool.or_eq_true, unl, ovr, inl, List.any_eq_true, List.mem_range, bq, Bool.and_eq_true]
  constructor
  · rintro (⟨t, h1, h2⟩ | ⟨t, h1, h2⟩ | ⟨t, h1, h2⟩)
    · exact ⟨t, h1, Or.inl h2⟩
    · exact ⟨t, sk_lt h1, Or.inr ⟨wi_iff.2 h1, Or.inr h2⟩⟩
    · exact ⟨t, sk_lt h1, Or.inr ⟨wi_iff.2 h1, Or.inl h2⟩⟩
  · rintro ⟨t, h1, h2 | ⟨h2, h3 | h3⟩⟩
    · exact Or.inl ⟨t, h1, h2⟩
    · exact Or.inr (Or.inr ⟨t, wi_iff.1 h2, h3⟩)
    · exact Or.inr (Or.inl ⟨t, wi_iff.1 h2, h3⟩)
theorem bd_true {L : List (Int × Int × Int)} {i t : Nat} (h : (at_ L i).1 = 23) (ht : t < i) (hb : bq L i (at_ L i).2.1 t = true) : bd L i = true := by
  rw [bd_bq h, List.any_eq_true]; exact ⟨t, by simpa using ht, hb⟩
theorem bd_false {L : List (Int × Int × Int)} {i : Nat} (h : (at_ L i).1 = 23) (hb : ∀ t, t < i → bq L i (at_ L i).2.1 t = false) : bd L i = false := by
  rw [bd_bq h, List.any_eq_false]; intro t ht
  rw [hb t (by simpa using ht)]; simp

set_option maxHeartbeats 8000000 in
set_option maxRecDepth 100000 in
theorem badR_any (a a2 : Option Addr) (n c c2 : Nat) (L : List (Int × Int × Int)) (i : Nat) (hi : i < n) (hn : n ≤ 200) (hS : Sound L) (w : World) (hr : RowI w a n L) (hm : Row w a2 n (mL L)) :
    Calls Tryz.prog 55 #[.slice a n c, .slice a2 n c2, .int .i64 i] w fun e w' => e = .returned (.bool (bd L i)) ∧ Below w.heap.size w w' := by
  have HL := Lib.hid hr.1
  have HS := Lib.hid hS
  obtain ⟨R, hR⟩ : ∃ R, R = bd L i := ⟨_, rfl⟩
  rw [← hR]
  have HR := Lib.hid hR
  obtain ⟨b0, o0, x1, x2, x3, rfl, hB0, hx0, hd1, hd2, hd3⟩ := hr.at_ hi
  have HX0 := Lib.hid (at_some hx0)
  have HM := Lib.hid hm
  clear hS hR hx0 hm
  go_enter Tryz.func55, Tryz.ntmps55
  go_wp2
  have g0 := new_block w (.cells #[.int .i64 x1, .int .i64 x2, .int .i64 x3] 70)
  have G0 := below_alloc w (.cells #[.int .i64 x1, .int .i64 x2, .int .i64 x3] 70)
  generalize hW0 : w.alloc (.cells #[.int .i64 x1, .int .i64 x2, .int .i64 x3] 70) = W0 at g0 G0 ⊢
  have gc0 := (Lib.cell_of_heap g0 0).trans (rfl : _ = some (Value.int .i64 x1))
  have gc1 := (Lib.cell_of_heap g0 1).trans (rfl : _ = some (Value.int .i64 x2))
  have hPs : w.heap.size < W0.heap.size := by rw [← hW0]; simp
  clear hW0 g0 hd1 hd2 hd3
  go_loopw [8, 9] (fun un kk wr => ∃ k : Nat, k ≤ i ∧ kk = .int .i64 k ∧ un = .bool (lkf L i x2 k) ∧ Hid (x1 = 23 → ∀ t, t < k → bq L i x2 t = false) ∧ Below W0.heap.size W0 wr) (fun _ kk _ => i - (intOf kk).toNat)
  case atStart => exact ⟨0, by omega, rfl, rfl, fun _ t ht => absurd ht (by omega), Below.refl _ _⟩
  case round =>
    obtain ⟨k, hk, rfl, rfl, HA, hbl⟩ := hrel
    have G1 := keep_below G0 hbl
    have gc0' := keep_cell hbl gc0
    have gc1' := keep_cell hbl gc1
    by_cases hki : k < i
    · have hkn : k < n := by omega
      obtain ⟨b1, o1, p1, p2, p3, he, hB1, hx, hc1, hc2, hc3⟩ := (hr.below G1).at_ hkn
      simp only [Option.some.injEq, Addr.mk.injEq] at he
      obtain ⟨rfl, rfl, _⟩ := he
      have HX := Lib.hid (at_some hx)
      have hls := lkf_succ L i x2 k
      have hbq : bq L i x2 k = (p1 == 24 || (wi L k i && (p1 == 21 || (p1 == 23 && decide (x2 ≤ p2))))) := by
        show _ = _
        unfold bq; rw [HX.out]
      rw [HX.out] at hls
      have cw := fun W h => within_any a2 n c2 L k i hki hi HS.out HL.out W (HM.out.below h)
      obtain ⟨y, hy⟩ : ∃ y, y = wi L k i := ⟨_, rfl⟩
      rw [← hy] at cw hls hbq
      have HCW := Lib.hid cw
      have CW : Hid (∀ m, Calls Tryz.prog 113 #[.slice a2 n c2, .int .i64 k, .int .i64 i] (wr.drewN m) fun e w' => e = .returned (.bool y) ∧ w' = wr.drewN m) := fun m => HCW.out (wr.drewN m) (G1.trans ⟨rfl, rfl, rfl, Nat.le_refl _, fun _ _ => rfl⟩)
      have CW2 : Hid (∀ q m, Calls Tryz.prog 113 #[.slice a2 n c2, .int .i64 k, .int .i64 i] (wr.drewN (q + m)) fun e w' => e = .returned (.bool y) ∧ ∃ r, w' = wr.drewN (q + r)) := fun q m => (HCW.out (wr.drewN (q + m)) (G1.trans ⟨rfl, rfl, rfl, Nat.le_refl _, fun _ _ => rfl⟩)).mono (fun _ _ h => ⟨h.1, m, h.2⟩)
      obtain ⟨z, hz⟩ : ∃ z, z = lkf L i x2 k := ⟨_, rfl⟩
      rw [← hz] at hls ⊢
      have HLS := Lib.hid hls
      have HBQ := Lib.hid hbq
      have HA2 : Hid (bq L i x2 k = false → x1 = 23 → ∀ t, t < k + 1 → bq L i x2 t = false) := by
        intro h1 h2 t ht
        by_cases e : t = k
        · rw [e]; exact h1
        · exact HA.out h2 t (by omega)
      have HX2 := HX0
      clear hx HX cw hy hz hls hbq HA HCW hc3
      by_cases h23 : x1 = 23
      · have ex : (x1 == 23) = true := by simpa using h23
        cases e24 : (p1 == 24)
        · cases y
          · skip
            cases z
            · skip
              cases e23 : (p1 == 23)
              · skip
                have HB : Hid (bq L i x2 k = false) := by show _ = _; rw [HBQ.out]; simp only [e24]; simp
                have HA3 : Hid (x1 = 23 → ∀ t, t < k + 1 → bq L i x2 t = false) := HA2.out HB.out
                have HZ : Hid (lkf L i x2 (k + 1) = false) := by show _ = _; rw [HLS.out]; simp only [e23]; simp
                clear HLS HBQ HA2
                go_wp2
                go_quiet (exact Calls.quiet_of_same (CW.out _))
                go_wp2
                go_quiet (exact CW2.out _ _)
                go_wp2
                go_roundw
                case rel => exact ⟨k + 1, by omega, by go_num, by rw [HZ.out], HA3, hbl.trans ⟨rfl, rfl, rfl, Nat.le_refl _, fun _ _ => rfl⟩⟩
                case measure => simp [intOf]; omega
              · cases eq : (p2 == x2)
                · skip
                  have HB : Hid (bq L i x2 k = false) := by show _ = _; rw [HBQ.out]; simp only [e24]; simp
                  have HA3 : Hid (x1 = 23 → ∀ t, t < k + 1 → bq L i x2 t = false) := HA2.out HB.out
                  have HZ : Hid (lkf L i x2 (k + 1) = false) := by show _ = _; rw [HLS.out]; simp only [e23, eq]; simp
                  clear HLS HBQ HA2
                  go_wp2
                  go_quiet (exact Calls.quiet_of_same (CW.out _))
                  go_wp2
                  go_quiet (exact CW2.out _ _)
                  go_wp2
                  go_roundw
                  case rel => exact ⟨k + 1, by omega, by go_num, by rw [HZ.out], HA3, hbl.trans ⟨rfl, rfl, rfl, Nat.le_refl _, fun _ _ => rfl⟩⟩
                  case measure => simp [intOf]; omega
                · skip
                  have HB : Hid (bq L i x2 k = false) := by show _ = _; rw [HBQ.out]; simp only [e24]; simp
                  have HA3 : Hid (x1 = 23 → ∀ t, t < k + 1 → bq L i x2 t = false) := HA2.out HB.out
                  have HZ : Hid (lkf L i x2 (k + 1) = false) := by show _ = _; rw [HLS.out]; simp only [e23, eq]; simp
                  clear HLS HBQ HA2
                  go_wp2
                  go_quiet (exact Calls.quiet_of_same (CW.out _))
                  go_wp2
                  go_quiet (exact CW2.out _ _)
                  go_wp2
                  go_roundw
                  case rel => exact ⟨k + 1, by omega, by go_num, by rw [HZ.out], HA3, hbl.trans ⟨rfl, rfl, rfl, Nat.le_refl _, fun _ _ => rfl⟩⟩
                  case measure => simp [intOf]; omega
            · skip
              have HB : Hid (bq L i x2 k = false) := by show _ = _; rw [HBQ.out]; simp only [e24]; simp
              have HA3 : Hid (x1 = 23 → ∀ t, t < k + 1 → bq L i x2 t = false) := HA2.out HB.out
              have HZ : Hid (lkf L i x2 (k + 1) = true) := by show _ = _; rw [HLS.out]; simp
              clear HLS HBQ HA2
              go_wp2
              go_quiet (exact Calls.quiet_of_same (CW.out _))
              go_wp2
              go_quiet (exact CW2.out _ _)
              go_wp2
              go_roundw
              case rel => exact ⟨k + 1, by omega, by go_num, by rw [HZ.out], HA3, hbl.trans ⟨rfl, rfl, rfl, Nat.le_refl _, fun _ _ => rfl⟩⟩
              case measure => simp [intOf]; omega
          · cases e21 : (p1 == 21)
            · cases e23 : (p1 == 23)
              · skip
                cases z
                · skip
                  have HB : Hid (bq L i x2 k = false) := by show _ = _; rw [HBQ.out]; simp only [e24, e21, e23]; simp
                  have HA3 : Hid (x1 = 23 → ∀ t, t < k + 1 → bq L i x2 t = false) := HA2.out HB.out
                  have HZ : Hid (lkf L i x2 (k + 1) = false) := by show _ = _; rw [HLS.out]; simp only [e23]; simp
                  clear HLS HBQ HA2
                  go_wp2
                  go_quiet (exact Calls.quiet_of_same (CW.out _))
                  go_wp2
                  go_quiet (exact CW2.out _ _)
                  go_wp2
                  go_roundw
                  case rel => exact ⟨k + 1, by omega, by go_num, by rw [HZ.out], HA3, hbl.trans ⟨rfl, rfl, rfl, Nat.le_refl _, fun _ _ => rfl⟩⟩
                  case measure => simp [intOf]; omega
                · skip
                  have HB : Hid (bq L i x2 k = false) := by show _ = _; rw [HBQ.out]; simp only [e24, e21, e23]; simp
                  have HA3 : Hid (x1 = 23 → ∀ t, t < k + 1 → bq L i x2 t = false) := HA2.out HB.out
                  have HZ : Hid (lkf L i x2 (k + 1) = true) := by show _ = _; rw [HLS.out]; simp
                  clear HLS HBQ HA2
                  go_wp2
                  go_quiet (exact Calls.quiet_of_same (CW.out _))
                  go_wp2
                  go_quiet (exact CW2.out _ _)
                  go_wp2
                  go_roundw
                  case rel => exact ⟨k + 1, by omega, by go_num, by rw [HZ.out], HA3, hbl.trans ⟨rfl, rfl, rfl, Nat.le_refl _, fun _ _ => rfl⟩⟩
                  case measure => simp [intOf]; omega
              · cases le : decide (x2 ≤ p2)
                · have eq : (p2 == x2) = false := by rw [beq_eq_false_iff_ne]; have := of_decide_eq_false le; omega
                  cases z
                  · skip
                    have HB : Hid (bq L i x2 k = false) := by show _ = _; rw [HBQ.out]; simp only [e24, e21, e23, le]; simp
                    have HA3 : Hid (x1 = 23 → ∀ t, t < k + 1 → bq L i x2 t = false) := HA2.out HB.out
                    have HZ : Hid (lkf L i x2 (k + 1) = false) := by show _ = _; rw [HLS.out]; simp only [e23, eq]; simp
                    clear HLS HBQ HA2
                    go_wp2
                    go_quiet (exact Calls.quiet_of_same (CW.out _))
                    go_wp2
                    go_quiet (exact CW2.out _ _)
                    go_wp2
                    go_roundw
                    case rel => exact ⟨k + 1, by omega, by go_num, by rw [HZ.out], HA3, hbl.trans ⟨rfl, rfl, rfl, Nat.le_refl _, fun _ _ => rfl⟩⟩
                    case measure => simp [intOf]; omega
                  · skip
                    have HB : Hid (bq L i x2 k = false) := by show _ = _; rw [HBQ.out]; simp only [e24, e21, e23, le]; simp
                    have HA3 : Hid (x1 = 23 → ∀ t, t < k + 1 → bq L i x2 t = false) := HA2.out HB.out
                    have HZ : Hid (lkf L i x2 (k + 1) = true) := by show _ = _; rw [HLS.out]; simp
                    clear HLS HBQ HA2
                    go_wp2
                    go_quiet (exact Calls.quiet_of_same (CW.out _))
                    go_wp2
                    go_quiet (exact CW2.out _ _)
                    go_wp2
                    go_roundw
                    case rel => exact ⟨k + 1, by omega, by go_num, by rw [HZ.out], HA3, hbl.trans ⟨rfl, rfl, rfl, Nat.le_refl _, fun _ _ => rfl⟩⟩
                    case measure => simp [intOf]; omega
                · have le2 : x2 ≤ p2 := of_decide_eq_true le
                  have HQ : Hid (bd L i = true) := bd_true (t := k) (by rw [HX0.out]; exact h23) hki (by rw [HX0.out, HBQ.out]; simp only [e24, e21, e23, le]; simp)
                  clear HLS HBQ HA2
                  go_wp2
                  go_quiet (exact Calls.quiet_of_same (CW.out _))
                  go_wp2
                  go_ret
                  exact ⟨by rw [HR.out, HQ.out]; rfl, G1.trans ⟨rfl, rfl, rfl, Nat.le_refl _, fun _ _ => rfl⟩⟩
            · skip
              have HQ : Hid (bd L i = true) := bd_true (t := k) (by rw [HX0.out]; exact h23) hki (by rw [HX0.out, HBQ.out]; simp only [e24, e21]; simp)
              clear HLS HBQ HA2
              go_wp2
              go_quiet (exact Calls.quiet_of_same (CW.out _))
              go_wp2
              go_ret
              exact ⟨by rw [HR.out, HQ.out]; rfl, G1.trans ⟨rfl, rfl, rfl, Nat.le_refl _, fun _ _ => rfl⟩⟩
        · skip
          have HQ : Hid (bd L i = true) := bd_true (t := k) (by rw [HX0.out]; exact h23) hki (by rw [HX0.out, HBQ.out]; simp only [e24]; simp)
          clear HLS HBQ HA2
          go_wp2
          go_quiet (exact Calls.quiet_of_same (CW.out _))
          go_wp2
          go_ret
          exact ⟨by rw [HR.out, HQ.out]; rfl, G1.trans ⟨rfl, rfl, rfl, Nat.le_refl _, fun _ _ => rfl⟩⟩
      · have ex : (x1 == 23) = false := by simpa using h23
        cases z
        · skip
          cases e23 : (p1 == 23)
          · skip
            have HA3 : Hid (x1 = 23 → ∀ t, t < k + 1 → bq L i x2 t = false) := fun h => absurd h h23
            have HZ : Hid (lkf L i x2 (k + 1) = false) := by show _ = _; rw [HLS.out]; simp only [e23]; simp
            clear HLS HBQ HA2
            go_wp2
            go_quiet (exact Calls.quiet_of_same (CW.out _))
            go_wp2
            go_roundw
            case rel => exact ⟨k + 1, by omega, by go_num, by rw [HZ.out], HA3, hbl.trans ⟨rfl, rfl, rfl, Nat.le_refl _, fun _ _ => rfl⟩⟩
            case measure => simp [intOf]; omega
          · cases eq : (p2 == x2)
            · skip
              have HA3 : Hid (x1 = 23 → ∀ t, t < k + 1 → bq L i x2 t = false) := fun h => absurd h h23
              have HZ : Hid (lkf L i x2 (k + 1) = false) := by show _ = _; rw [HLS.out]; simp only [e23, eq]; simp
              clear HLS HBQ HA2
              go_wp2
              go_quiet (exact Calls.quiet_of_same (CW.out _))
              go_wp2
              go_roundw
              case rel => exact ⟨k + 1, by omega, by go_num, by rw [HZ.out], HA3, hbl.trans ⟨rfl, rfl, rfl, Nat.le_refl _, fun _ _ => rfl⟩⟩
              case measure => simp [intOf]; omega
            · skip
              have HA3 : Hid (x1 = 23 → ∀ t, t < k + 1 → bq L i x2 t = false) := fun h => absurd h h23
              have HZ : Hid (lkf L i x2 (k + 1) = y) := by show _ = _; rw [HLS.out]; simp only [e23, eq]; simp
              clear HLS HBQ HA2
              go_wp2
              go_quiet (exact Calls.quiet_of_same (CW.out _))
              go_wp2
              go_roundw
              case rel => exact ⟨k + 1, by omega, by go_num, by rw [HZ.out], HA3, hbl.trans ⟨rfl, rfl, rfl, Nat.le_refl _, fun _ _ => rfl⟩⟩
              case measure => simp [intOf]; omega
        · skip
          have HA3 : Hid (x1 = 23 → ∀ t, t < k + 1 → bq L i x2 t = false) := fun h => absurd h h23
          have HZ : Hid (lkf L i x2 (k + 1) = true) := by show _ = _; rw [HLS.out]; simp
          clear HLS HBQ HA2
          go_wp2
          go_quiet (exact Calls.quiet_of_same (CW.out _))
          go_wp2
          go_roundw
          case rel => exact ⟨k + 1, by omega, by go_num, by rw [HZ.out], HA3, hbl.trans ⟨rfl, rfl, rfl, Nat.le_refl _, fun _ _ => rfl⟩⟩
          case measure => simp [intOf]; omega
    · have hkk : k = i := by omega
      subst hkk
      have he := lkf_end L k x2
      by_cases h23 : x1 = 23
      · have HQ : Hid (bd L k = false) := bd_false (by rw [HX0.out]; exact h23) (by rw [HX0.out]; exact HA.out h23)
        subst h23
        clear he HA
        go_wp2
        go_ret
        exact ⟨by rw [HR.out, HQ.out]; rfl, G1⟩
      · by_cases hg : x1 = 17 ∨ x1 = 18
        · have HQ : Hid (bd L k = !lkf L k x2 k) := by show _ = _; rw [he, bd_get (by rw [HX0.out]; exact hg), HX0.out]
          obtain ⟨z, hz⟩ : ∃ z, z = lkf L k x2 k := ⟨_, rfl⟩
          rw [← hz] at HQ ⊢
          clear he hz HA
          rcases hg with rfl | rfl
          all_goals
            go_wp2
            go_ret
            exact ⟨by rw [HR.out, HQ.out]; rfl, G1⟩
        · have HQ : Hid (bd L k = false) := bd_else (by rw [HX0.out]; exact h23) (by rw [HX0.out]; exact hg)
          have e17 : (x1 == 17) = false := by rw [beq_eq_false_iff_ne]; omega
          have e18 : (x1 == 18) = false := by rw [beq_eq_false_iff_ne]; omega
          clear he HA
          go_wp2
          go_ret
          exact ⟨by rw [HR.out, HQ.out]; rfl, G1⟩
end Go.Proofs.YthncbnalnfbpnaaGreatDoor
end

section
namespace Go.Proofs.YthncbnalnfbpnaaGreatDoor
open Go.ChangeShapes Go.WideShapes Go.RowKit

set_option maxHeartbeats 2000000 in
set_option maxRecDepth 100000 in
theorem locksR_any (a : Option Addr) (n c : Nat) (L : List (Int × Int × Int)) (w : World) (hr : RowI w a n L) (hn : n ≤ 1000000) :
    Calls Tryz.prog 32 #[.slice a n c] w (GotL (lA L) (lE L) w) := by
  obtain ⟨i0, hi0, hz0, hz1, hz2⟩ := info_parts int_info
  have cw := wholeR_any a n c L w hr hn
  by_cases h0 : wE L = 0
  · have HW := Lib.hid h0
    have HM := Lib.hid (wE_zero h0).1
    have HC := Lib.hid (mE_zero HM.out).1
    have HS := Lib.hid (mE_zero HM.out).2
    have hln := can_len HC.out
    rw [← hr.1] at hln
    obtain ⟨hn1, hn2⟩ := hln
    rw [h0] at cw
    have C := Lib.hid cw
    have HL := Lib.hid hr.1
    clear cw h0
    go_enter Tryz.func32, Tryz.ntmps32
    go_wp2_with (go_at_call 54; refine C.out.mono ?_; rintro e w0 ⟨rfl, hb0⟩)
    have cr := matchR_any a n c L w0 (hr.below hb0) hn
    unfold GotL at cr
    rw [HM.out] at cr
    refine cr.mono ?_
    rintro e w1 ⟨a2, n2, c2, rfl, h1, hb1⟩
    have h3 : Row w1 a2 n2 (mL L) := by unfold mA at h1; rw [if_pos HM.out] at h1; exact h1
    obtain rfl : n2 = n := by have := h3.1; rw [mL_len, ← HL.out] at this; exact this
    have HG := Lib.hid (keep_below hb0 hb1)
    have hr1 := hr.below HG.out
    clear h1 C hb1 hb0 hr cr
    go_wp2
    go_loopw [7, 8] (fun v i wr => ∃ k : Nat, k ≤ n2 ∧ i = .int .i64 k ∧ wr.ownsRow w1.heap.size 3 1 v (lks L k).length ((lks L k).map (Value.int .i64)) ∧ Hid (bds L k = false) ∧ Below w1.heap.size w1 wr) (fun _ i _ => n2 - (intOf i).toNat)
    case atStart => exact ⟨0, by omega, rfl, World.ownsRow_nil _ _ _ _, rfl, Below.refl _ _⟩
    case round =>
      obtain ⟨k, hk, rfl, hown, HD, hbl⟩ := hrel
      have hbs := hbl.size
      by_cases hlt : k < n2
      · have hkL : k < L.length := by rw [← HL.out]; exact hlt
        have cb := badR_any a a2 n2 c c2 L k hlt hn2 HS.out wr (hr1.below hbl) (h3.below hbl)
        have hls := lks_succ hkL
        have hll := lks_len L k
        cases hv : bd L k
        · have HD2 := Lib.hid (bds_next HD.out hv)
          rw [hv] at cb
          have CB := Lib.hid cb
          obtain ⟨b1, o1, p1, p2, p3, rfl, hB1, hx, hc1, hc2, hc3⟩ := (hr1.below hbl).at_ hlt
          have HX := Lib.hid (at_some hx)
          rw [HX.out] at hls
          clear cb hv hx HD
          by_cases h23 : p1 = 23
          · rw [if_pos h23] at hls
            have HLS := Lib.hid hls
            have e23 : (p1 == 23) = true := by simpa using h23
            clear hls h23
            go_wp2_with fail
            refine CB.out.mono ?_
            rintro e w2 ⟨rfl, hb2⟩
            have G2 := keep_below hbl hb2
            have gO := own1r_below hown hb2
            have hs2 := hb2.size
            have d1 := keep_cell hb2 hc1
            have d2 := keep_cell hb2 hc2
            clear hown hc1 hc2 hc3
            go_wp2_with (at_builtin; refine wpList_append_own _ rfl _ _ 22 rfl w1.heap.size 3 i0 (.int .i64 0) 1 8 Tryz.underlying22 hi0 hz0 hz1 hz2 rfl (by decide) _ _ _ rfl (gO.alloc _) ⟨w2.heap.size, 0, none⟩ 1 1 [.int .i64 p2] rfl rfl ?c1 ?c2 ?c3 ?c4 ?c5 ?_)
            case c1 =>
              intro j t hj
              match j, hj with
              | 0, hj => simp at hj; subst hj; simp [Addr.add]
            case c2 => intro t ht; simp at ht; subst ht; rfl
            case c3 => unfold maxLen; omega
            case c4 => omega
            case c5 => simp; omega
            · intro v' w5 hown' hgrow _
              have hb5 : Below w1.heap.size w1 w5 := (G2.alloc G2.size _).grown hgrow (by have := G2.size; simp; omega) (fun g hg => (gO.lt g hg).1)
              have hown2 : w5.ownsRow w1.heap.size 3 1 v' (lks L (k + 1)).length ((lks L (k + 1)).map (Value.int .i64)) := by
                rw [HLS.out, List.map_append, List.length_append]; exact hown'
              clear hown' hgrow gO
              go_wp2
              go_roundw
              case rel => exact ⟨k + 1, by omega, by go_num, hown2, HD2, hb5⟩
              case measure => simp [intOf]; omega
          · rw [if_neg h23] at hls
            rw [← hls] at hown
            have e23 : (p1 == 23) = false := by simpa using h23
            clear hls h23
            go_wp2_with fail
            refine CB.out.mono ?_
            rintro e w2 ⟨rfl, hb2⟩
            have G2 := keep_below hbl hb2
            have gO := own1r_below hown hb2
            have d1 := keep_cell hb2 hc1
            clear hown hc1 hc2 hc3
            go_wp2
            go_roundw
            case rel => exact ⟨k + 1, by omega, by go_num, gO, HD2, G2⟩
            case measure => simp [intOf]; omega
        · have HE := Lib.hid (lE_bad HW.out (bds_bad hkL hv))
          rw [hv] at cb
          have CB := Lib.hid cb
          clear cb hv HD hls hown
          go_wp2_with fail
          refine CB.out.mono ?_
          rintro e w2 ⟨rfl, hb2⟩
          go_wp2
          go_ret2
          refine ⟨none, 0, 0, by rw [HE.out]; rfl, ?_, keep_below HG.out (keep_below hbl hb2)⟩
          unfold lA; rw [if_neg (by rw [HE.out]; decide)]; exact Row.nil _ _
      · have hkn : k = n2 := by omega
        have HE := Lib.hid (lE_of HW.out (by rw [← HL.out, ← hkn]; exact HD.out))
        have HK : Hid (lks L k = lA L) := by show _ = _; unfold lA; rw [if_pos HE.out, ← HL.out, hkn]
        obtain ⟨a5, n5, c5, rfl, hR⟩ := Row.own hown
        rw [HK.out] at hR
        clear hown hkn
        go_wp2
        go_ret2
        exact ⟨_, _, _, by rw [HE.out]; rfl, hR, keep_below HG.out hbl⟩
  · have HQ : Hid (lA L = []) := by show _ = _; unfold lA; rw [lE_err h0, if_neg h0]
    have HE := Lib.hid (lE_err h0)
    obtain ⟨x, hx⟩ : ∃ x, x = wE L := ⟨_, rfl⟩
    rw [← hx] at cw HE
    have e1 : (x != 0) = true := by rw [hx]; simpa using h0
    have e2 : (x == 0) = false := by rw [hx]; simpa using h0
    have C := Lib.hid cw
    clear cw h0 hx hr hi0 hz0 hz1 hz2
    go_enter Tryz.func32, Tryz.ntmps32
    go_wp2_with (go_at_call 54; refine C.out.mono ?_; rintro e w1 ⟨rfl, hb⟩)
    go_ret2
    refine ⟨_, _, _, by rw [HE.out]; rfl, ?_, hb⟩
    rw [HQ.out]; exact Row.nil _ _
end Go.Proofs.YthncbnalnfbpnaaGreatDoor
end
