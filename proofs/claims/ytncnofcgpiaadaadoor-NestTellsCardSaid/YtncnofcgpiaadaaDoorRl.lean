/- What is proved here: contracts of the document's bad and Locks for layer 6. Conditions: the row is not too long. -/
import Derived.Test.YtncnofcgpiaadaaDoorRb
namespace Go.Proofs.YtncnofcgpiaadaaDoor
open Go.ChangeShapes Go.WideShapes Go.RowKit

/-- Does an instruction spoil a lock of a block behind it? -/
def bq (L : List (Int × Int × Int)) (i : Nat) (x : Int) (t : Nat) : Bool := (at_ L t).1 == 24 || (wi L t i && ((at_ L t).1 == 21 || ((at_ L t).1 == 23 && decide (x ≤ (at_ L t).2.1))))
theorem bd_bq {L : List (Int × Int × Int)} {i : Nat} (h : (at_ L i).1 = 23) : bd L i = (List.range i).any (bq L i (at_ L i).2.1) := by
  rw [bd_lock h, Bool.eq_iff_iff]
  simp only [Bool.or_eq_true, unl, ovr, inl, List.any_eq_true, List.mem_range, bq, Bool.and_eq_true]
  constructor
  · rintro (⟨t, h1, h2⟩ | ⟨t, h1, h2⟩ | ⟨t, h1, h2⟩)
    · exact ⟨t, h1, Or.inl h2⟩
    · exact ⟨t, sk_lt h1, Or.inr ⟨wi_iff.2 h1, Or.inr h2⟩⟩
    · exact ⟨t, sk_lt h1, Or.inr ⟨wi_iff.2 h1, Or.inl h2⟩⟩
  · rintro ⟨t, h1, h2 | ⟨h2, h3 | h3⟩⟩
    · exact Or.inl ⟨t, h1, h2⟩
    · exact Or.inr (Or.inr ⟨t, wi_iff.1 h2, h3⟩)
    · exact Or.inr (Or.inl ⟨t, wi_iff.1 h2, h3⟩)
theorem bd_true {L : List (Int × Int × Int)} {i t : Nat} (h : (at_ L i).1 = 23) (ht : t < i) (hb : bq L i (at_ L i).2.1 t = true) : bd L i = true := by
  rw [bd_bq h, List.any_eq_true]; exact ⟨t, by simpa using ht, hb⟩
theorem bd_false {L : List (Int × Int × Int)} {i : Nat} (h : (at_ L i).1 = 23) (hb : ∀ t, t < i → bq L i (at_ L i).2.1 t = false) : bd L i = false := by
  rw [bd_bq h, List.any_eq_false]; intro t ht
  rw [hb t (by simpa using ht)]; simp

set_option maxHeartbeats 8000000 in
set_option maxRecDepth 100000 in
theorem badR_any (a a2 : Option Addr) (n c c2 : Nat) (L : List (Int × Int × Int)) (i : Nat) (hi : i < n) (hn : n ≤ 200) (hS : Sound L) (w : World) (hr : RowI w a n L) (hm : Row w a2 n (mL L)) :
    Calls Tryd.prog 31 #[.slice a n c, .slice a2 n c2, .int .i64 i] w fun e w' => e = .returned (.bool (bd L i)) ∧ Below w.heap.size w w' := by
  have HL := Lib.hid hr.1
  have HS := Lib.hid hS
  obtain ⟨R, hR⟩ : ∃ R, R = bd L i := ⟨_, rfl⟩
  rw [← hR]
  have HR := Lib.hid hR
  obtain ⟨b0, o0, x1, x2, x3, rfl, hB0, hx0, hd1, hd2, hd3⟩ := hr.at_ hi
  have HX0 := Lib.hid (at_some hx0)
  have HM := Lib.hid hm
  clear hS hR hx0 hm
  go_enter Tryd.func31, Tryd.ntmps31
  go_wp2
  have g0 := new_block w (.cells #[.int .i64 x1, .int .i64 x2, .int .i64 x3] 32)
  have G0 := below_alloc w (.cells #[.int .i64 x1, .int .i64 x2, .int .i64 x3] 32)
  generalize hW0 : w.alloc (.cells #[.int .i64 x1, .int .i64 x2, .int .i64 x3] 32) = W0 at g0 G0 ⊢
  have gc0 := (Lib.cell_of_heap g0 0).trans (rfl : _ = some (Value.int .i64 x1))
  have gc1 := (Lib.cell_of_heap g0 1).trans (rfl : _ = some (Value.int .i64 x2))
  have hPs : w.heap.size < W0.heap.size := by rw [← hW0]; simp
  clear hW0 g0 hd1 hd2 hd3
  go_loopw [8, 9] (fun un kk wr => ∃ k : Nat, k ≤ i ∧ kk = .int .i64 k ∧ un = .bool (lkf L i x2 k) ∧ Hid (x1 = 23 → ∀ t, t < k → bq L i x2 t = false) ∧ Below W0.heap.size W0 wr) (fun _ kk _ => i - (intOf kk).toNat)
  case atStart => exact ⟨0, by omega, rfl, rfl, fun _ t ht => absurd ht (by omega), Below.refl _ _⟩
  case round =>
    obtain ⟨k, hk, rfl, rfl, HA, hbl⟩ := hrel
    have G1 := keep_below G0 hbl
    have gc0' := keep_cell hbl gc0
    have gc1' := keep_cell hbl gc1
    by_cases hki : k < i
    · have hkn : k < n := by omega
      obtain ⟨b1, o1, p1, p2, p3, he, hB1, hx, hc1, hc2, hc3⟩ := (hr.below G1).at_ hkn
      simp only [Option.some.injEq, Addr.mk.injEq] at he
      obtain ⟨rfl, rfl, _⟩ := he
      have HX := Lib.hid (at_some hx)
      have hls := lkf_succ L i x2 k
      have hbq : bq L i x2 k = (p1 == 24 || (wi L k i && (p1 == 21 || (p1 == 23 && decide (x2 ≤ p2))))) := by
        show _ = _
        unfold bq; rw [HX.out]
      rw [HX.out] at hls
      have cw := fun W h => within_any a2 n c2 L k i hki hi HS.out HL.out W (HM.out.below h)
      obtain ⟨y, hy⟩ : ∃ y, y = wi L k i := ⟨_, rfl⟩
      rw [← hy] at cw hls hbq
      have HCW := Lib.hid cw
      have CW : Hid (∀ m, Calls Tryd.prog 32 #[.slice a2 n c2, .int .i64 k, .int .i64 i] (wr.drewN m) fun e w' => e = .returned (.bool y) ∧ w' = wr.drewN m) := fun m => HCW.out (wr.drewN m) (G1.trans ⟨rfl, rfl, rfl, Nat.le_refl _, fun _ _ => rfl⟩)
      have CW2 : Hid (∀ q m, Calls Tryd.prog 32 #[.slice a2 n c2, .int .i64 k, .int .i64 i] (wr.drewN (q + m)) fun e w' => e = .returned (.bool y) ∧ ∃ r, w' = wr.drewN (q + r)) := fun q m => (HCW.out (wr.drewN (q + m)) (G1.trans ⟨rfl, rfl, rfl, Nat.le_refl _, fun _ _ => rfl⟩)).mono (fun _ _ h => ⟨h.1, m, h.2⟩)
      obtain ⟨z, hz⟩ : ∃ z, z = lkf L i x2 k := ⟨_, rfl⟩
      rw [← hz] at hls ⊢
      have HLS := Lib.hid hls
      have HBQ := Lib.hid hbq
      have HA2 : Hid (bq L i x2 k = false → x1 = 23 → ∀ t, t < k + 1 → bq L i x2 t = false) := by
        intro h1 h2 t ht
        by_cases e : t = k
        · rw [e]; exact h1
        · exact HA.out h2 t (by omega)
      have HX2 := HX0
      clear hx HX cw hy hz hls hbq HA HCW hc3
      by_cases h23 : x1 = 23
      · have ex : (x1 == 23) = true := by simpa using h23
        cases e24 : (p1 == 24)
        · cases y
          · skip
            cases z
            · skip
              cases e23 : (p1 == 23)
              · skip
                have HB : Hid (bq L i x2 k = false) := by show _ = _; rw [HBQ.out]; simp only [e24]; simp
                have HA3 : Hid (x1 = 23 → ∀ t, t < k + 1 → bq L i x2 t = false) := HA2.out HB.out
                have HZ : Hid (lkf L i x2 (k + 1) = false) := by show _ = _; rw [HLS.out]; simp only [e23]; simp
                clear HLS HBQ HA2
                go_wp2
                go_quiet (exact Calls.quiet_of_same (CW.out _))
                go_wp2
                go_quiet (exact CW2.out _ _)
                go_wp2
                go_roundw
                case rel => exact ⟨k + 1, by omega, by go_num, by rw [HZ.out], HA3, hbl.trans ⟨rfl, rfl, rfl, Nat.le_refl _, fun _ _ => rfl⟩⟩
                case measure => simp [intOf]; omega
              · cases eq : (p2 == x2)
                · skip
                  have HB : Hid (bq L i x2 k = false) := by show _ = _; rw [HBQ.out]; simp only [e24]; simp
                  have HA3 : Hid (x1 = 23 → ∀ t, t < k + 1 → bq L i x2 t = false) := HA2.out HB.out
                  have HZ : Hid (lkf L i x2 (k + 1) = false) := by show _ = _; rw [HLS.out]; simp only [e23, eq]; simp
                  clear HLS HBQ HA2
                  go_wp2
                  go_quiet (exact Calls.quiet_of_same (CW.out _))
                  go_wp2
                  go_quiet (exact CW2.out _ _)
                  go_wp2
                  go_roundw
                  case rel => exact ⟨k + 1, by omega, by go_num, by rw [HZ.out], HA3, hbl.trans ⟨rfl, rfl, rfl, Nat.le_refl _, fun _ _ => rfl⟩⟩
                  case measure => simp [intOf]; omega
                · skip
                  have HB : Hid (bq L i x2 k = false) := by show _ = _; rw [HBQ.out]; simp only [e24]; simp
                  have HA3 : Hid (x1 = 23 → ∀ t, t < k + 1 → bq L i x2 t = false) := HA2.out HB.out
                  have HZ : Hid (lkf L i x2 (k + 1) = false) := by show _ = _; rw [HLS.out]; simp only [e23, eq]; simp
                  clear HLS HBQ HA2
                  go_wp2
                  go_quiet (exact Calls.quiet_of_same (CW.out _))
                  go_wp2
                  go_quiet (exact CW2.out _ _)
                  go_wp2
                  go_roundw
                  case rel => exact ⟨k + 1, by omega, by go_num, by rw [HZ.out], HA3, hbl.trans ⟨rfl, rfl, rfl, Nat.le_refl _, fun _ _ => rfl⟩⟩
                  case measure => simp [intOf]; omega
            · skip
              have HB : Hid (bq L i x2 k = false) := by show _ = _; rw [HBQ.out]; simp only [e24]; simp
              have HA3 : Hid (x1 = 23 → ∀ t, t < k + 1 → bq L i x2 t = false) := HA2.out HB.out
              have HZ : Hid (lkf L i x2 (k + 1) = true) := by show _ = _; rw [HLS.out]; simp
              clear HLS HBQ HA2
              go_wp2
              go_quiet (exact Calls.quiet_of_same (CW.out _))
              go_wp2
              go_quiet (exact CW2.out _ _)
              go_wp2
              go_roundw
              case rel => exact ⟨k + 1, by omega, by go_num, by rw [HZ.out], HA3, hbl.trans ⟨rfl, rfl, rfl, Nat.le_refl _, fun _ _ => rfl⟩⟩
              case measure => simp [intOf]; omega
          · cases e21 : (p1 == 21)
            · cases e23 : (p1 == 23)
              · skip
                cases z
                · skip
                  have HB : Hid (bq L i x2 k = false) := by show _ = _; rw [HBQ.out]; simp only [e24, e21, e23]; simp
                  have HA3 : Hid (x1 = 23 → ∀ t, t < k + 1 → bq L i x2 t = false) := HA2.out HB.out
                  have HZ : Hid (lkf L i x2 (k + 1) = false) := by show _ = _; rw [HLS.out]; simp only [e23]; simp
                  clear HLS HBQ HA2
                  go_wp2
                  go_quiet (exact Calls.quiet_of_same (CW.out _))
                  go_wp2
                  go_quiet (exact CW2.out _ _)
                  go_wp2
                  go_roundw
                  case rel => exact ⟨k + 1, by omega, by go_num, by rw [HZ.out], HA3, hbl.trans ⟨rfl, rfl, rfl, Nat.le_refl _, fun _ _ => rfl⟩⟩
                  case measure => simp [intOf]; omega
                · skip
                  have HB : Hid (bq L i x2 k = false) := by show _ = _; rw [HBQ.out]; simp only [e24, e21, e23]; simp
                  have HA3 : Hid (x1 = 23 → ∀ t, t < k + 1 → bq L i x2 t = false) := HA2.out HB.out
                  have HZ : Hid (lkf L i x2 (k + 1) = true) := by show _ = _; rw [HLS.out]; simp
                  clear HLS HBQ HA2
                  go_wp2
                  go_quiet (exact Calls.quiet_of_same (CW.out _))
                  go_wp2
                  go_quiet (exact CW2.out _ _)
                  go_wp2
                  go_roundw
                  case rel => exact ⟨k + 1, by omega, by go_num, by rw [HZ.out], HA3, hbl.trans ⟨rfl, rfl, rfl, Nat.le_refl _, fun _ _ => rfl⟩⟩
                  case measure => simp [intOf]; omega
              · cases le : decide (x2 ≤ p2)
                · have eq : (p2 == x2) = false := by rw [beq_eq_false_iff_ne]; have := of_decide_eq_false le; omega
                  cases z
                  · skip
                    have HB : Hid (bq L i x2 k = false) := by show _ = _; rw [HBQ.out]; simp only [e24, e21, e23, le]; simp
                    have HA3 : Hid (x1 = 23 → ∀ t, t < k + 1 → bq L i x2 t = false) := HA2.out HB.out
                    have HZ : Hid (lkf L i x2 (k + 1) = false) := by show _ = _; rw [HLS.out]; simp only [e23, eq]; simp
                    clear HLS HBQ HA2
                    go_wp2
                    go_quiet (exact Calls.quiet_of_same (CW.out _))
                    go_wp2
                    go_quiet (exact CW2.out _ _)
                    go_wp2
                    go_roundw
                    case rel => exact ⟨k + 1, by omega, by go_num, by rw [HZ.out], HA3, hbl.trans ⟨rfl, rfl, rfl, Nat.le_refl _, fun _ _ => rfl⟩⟩
                    case measure => simp [intOf]; omega
                  · skip
                    have HB : Hid (bq L i x2 k = false) := by show _ = _; rw [HBQ.out]; simp only [e24, e21, e23, le]; simp
                    have HA3 : Hid (x1 = 23 → ∀ t, t < k + 1 → bq L i x2 t = false) := HA2.out HB.out
                    have HZ : Hid (lkf L i x2 (k + 1) = true) := by show _ = _; rw [HLS.out]; simp
                    clear HLS HBQ HA2
                    go_wp2
                    go_quiet (exact Calls.quiet_of_same (CW.out _))
                    go_wp2
                    go_quiet (exact CW2.out _ _)
                    go_wp2
                    go_roundw
                    case rel => exact ⟨k + 1, by omega, by go_num, by rw [HZ.out], HA3, hbl.trans ⟨rfl, rfl, rfl, Nat.le_refl _, fun _ _ => rfl⟩⟩
                    case measure => simp [intOf]; omega
                · have le2 : x2 ≤ p2 := of_decide_eq_true le
                  have HQ : Hid (bd L i = true) := bd_true (t := k) (by rw [HX0.out]; exact h23) hki (by rw [HX0.out, HBQ.out]; simp only [e24, e21, e23, le]; simp)
                  clear HLS HBQ HA2
                  go_wp2
                  go_quiet (exact Calls.quiet_of_same (CW.out _))
                  go_wp2
                  go_ret
                  exact ⟨by rw [HR.out, HQ.out]; rfl, G1.trans ⟨rfl, rfl, rfl, Nat.le_refl _, fun _ _ => rfl⟩⟩
            · skip
              have HQ : Hid (bd L i = true) := bd_true (t := k) (by rw [HX0.out]; exact h23) hki (by rw [HX0.out, HBQ.out]; simp only [e24, e21]; simp)
              clear HLS HBQ HA2
              go_wp2
              go_quiet (exact Calls.quiet_of_same (CW.out _))
              go_wp2
              go_ret
              exact ⟨by rw [HR.out, HQ.out]; rfl, G1.trans ⟨rfl, rfl, rfl, Nat.le_refl _, fun _ _ => rfl⟩⟩
        · skip
          have HQ : Hid (bd L i = true) := bd_true (t := k) (by rw [HX0.out]; exact h23) hki (by rw [HX0.out, HBQ.out]; simp only [e24]; simp)
          clear HLS HBQ HA2
          go_wp2
          go_quiet (exact Calls.quiet_of_same (CW.out _))
          go_wp2
          go_ret
          exact ⟨by rw [HR.out, HQ.out]; rfl, G1.trans ⟨rfl, rfl, rfl, Nat.le_refl _, fun _ _ => rfl⟩⟩
      · have ex : (x1 == 23) = false := by simpa using h23
        cases z
        · skip
          cases e23 : (p1 == 23)
          · skip
            have HA3 : Hid (x1 = 23 → ∀ t, t < k + 1 → bq L i x2 t = false) := fun h => absurd h h23
            have HZ : Hid (lkf L i x2 (k + 1) = false) := by show _ = _; rw [HLS.out]; simp only [e23]; simp
            clear HLS HBQ HA2
            go_wp2
            go_quiet (exact Calls.quiet_of_same (CW.out _))
            go_wp2
            go_roundw
            case rel => exact ⟨k + 1, by omega, by go_num, by rw [HZ.out], HA3, hbl.trans ⟨rfl, rfl, rfl, Nat.le_refl _, fun _ _ => rfl⟩⟩
            case measure => simp [intOf]; omega
          · cases eq : (p2 == x2)
            · skip
              have HA3 : Hid (x1 = 23 → ∀ t, t < k + 1 → bq L i x2 t = false) := fun h => absurd h h23
              have HZ : Hid (lkf L i x2 (k + 1) = false) := by show _ = _; rw [HLS.out]; simp only [e23, eq]; simp
              clear HLS HBQ HA2
              go_wp2
              go_quiet (exact Calls.quiet_of_same (CW.out _))
              go_wp2
              go_roundw
              case rel => exact ⟨k + 1, by omega, by go_num, by rw [HZ.out], HA3, hbl.trans ⟨rfl, rfl, rfl, Nat.le_refl _, fun _ _ => rfl⟩⟩
              case measure => simp [intOf]; omega
            · skip
              have HA3 : Hid (x1 = 23 → ∀ t, t < k + 1 → bq L i x2 t = false) := fun h => absurd h h23
              have HZ : Hid (lkf L i x2 (k + 1) = y) := by show _ = _; rw [HLS.out]; simp only [e23, eq]; simp
              clear HLS HBQ HA2
              go_wp2
              go_quiet (exact Calls.quiet_of_same (CW.out _))
              go_wp2
              go_roundw
              case rel => exact ⟨k + 1, by omega, by go_num, by rw [HZ.out], HA3, hbl.trans ⟨rfl, rfl, rfl, Nat.le_refl _, fun _ _ => rfl⟩⟩
              case measure => simp [intOf]; omega
        · skip
          have HA3 : Hid (x1 = 23 → ∀ t, t < k + 1 → bq L i x2 t = false) := fun h => absurd h h23
          have HZ : Hid (lkf L i x2 (k + 1) = true) := by show _ = _; rw [HLS.out]; simp
          clear HLS HBQ HA2
          go_wp2
          go_quiet (exact Calls.quiet_of_same (CW.out _))
          go_wp2
          go_roundw
          case rel => exact ⟨k + 1, by omega, by go_num, by rw [HZ.out], HA3, hbl.trans ⟨rfl, rfl, rfl, Nat.le_refl _, fun _ _ => rfl⟩⟩
          case measure => simp [intOf]; omega
    · have hkk : k = i := by omega
      subst hkk
      have he := lkf_end L k x2
      by_cases h23 : x1 = 23
      · have HQ : Hid (bd L k = false) := bd_false (by rw [HX0.out]; exact h23) (by rw [HX0.out]; exact HA.out h23)
        subst h23
        clear he HA
        go_wp2
        go_ret
        exact ⟨by rw [HR.out, HQ.out]; rfl, G1⟩
      · by_cases hg : x1 = 17 ∨ x1 = 18
        · have HQ : Hid (bd L k = !lkf L k x2 k) := by show _ = _; rw [he, bd_get (by rw [HX0.out]; exact hg), HX0.out]
          obtain ⟨z, hz⟩ : ∃ z, z = lkf L k x2 k := ⟨_, rfl⟩
          rw [← hz] at HQ ⊢
          clear he hz HA
          rcases hg with rfl | rfl
          all_goals
            go_wp2
            go_ret
            exact ⟨by rw [HR.out, HQ.out]; rfl, G1⟩
        · have HQ : Hid (bd L k = false) := bd_else (by rw [HX0.out]; exact h23) (by rw [HX0.out]; exact hg)
          have e17 : (x1 == 17) = false := by rw [beq_eq_false_iff_ne]; omega
          have e18 : (x1 == 18) = false := by rw [beq_eq_false_iff_ne]; omega
          clear he HA
          go_wp2
          go_ret
          exact ⟨by rw [HR.out, HQ.out]; rfl, G1⟩
end Go.Proofs.YtncnofcgpiaadaaDoor
