/- What is proved here: contracts of the document's Home and Whole for layer 6. Conditions: the row is not too long. -/
import Derived.Test.YtkkoekfdncoifaaDoorRh
namespace Go.Proofs.YtkkoekfdncoifaaDoor
open Go.ChangeShapes Go.WideShapes Go.RowKit

theorem take_snoc {l : List Int} {k : Nat} {x : Int} (hk : k < l.length) (h : l.getD k 0 = x) : l.take (k + 1) = l.take k ++ [x] := by
  rw [List.take_succ_eq_append_getElem hk]
  congr 2
  rw [← h, List.getD_eq_getElem?_getD, List.getElem?_eq_getElem hk]; rfl
theorem ends_bad {L : List (Int × Int × Int)} {k : Nat} (hk : k < L.length) (h : (((at_ L k).1 == 25) == (k + 1 == L.length)) = false) : ends L = false := by
  cases he : ends L
  · rfl
  · unfold ends at he
    rw [List.all_eq_true] at he
    have := he k (by simpa using hk)
    rw [this] at h; cases h
set_option maxHeartbeats 2000000 in
set_option maxRecDepth 100000 in
theorem wholeR_any (a : Option Addr) (n c : Nat) (L : List (Int × Int × Int)) (w : World) (hr : RowI w a n L) (hn : n ≤ 1000000) :
    Calls Tryd.prog 22 #[.slice a n c] w fun e w' => e = .returned (.int .i64 (wE L)) ∧ Below w.heap.size w w' := by
  have cr := matchR_any a n c L w hr hn
  unfold GotL at cr
  by_cases h0 : mE L = 0
  · have HC := Lib.hid (mE_zero h0).1
    have HS := Lib.hid (mE_zero h0).2
    have hln := can_len HC.out
    rw [← hr.1] at hln
    obtain ⟨hn1, hn2⟩ := hln
    rw [h0] at cr
    have C := Lib.hid cr
    have HL := Lib.hid hr.1
    have H0 := Lib.hid h0
    clear cr h0
    go_enter Tryd.func22, Tryd.ntmps22
    go_wp2_with (go_at_call 23; refine C.out.mono ?_; rintro e w1 ⟨a2, n2, c2, rfl, h1, hb⟩)
    have h3 : Row w1 a2 n2 (mL L) := by unfold mA at h1; rw [if_pos H0.out] at h1; exact h1
    obtain rfl : n2 = n := by have := h3.1; rw [mL_len, ← HL.out] at this; exact this
    have hr1 := hr.below hb
    have HG := Lib.hid hb
    clear h1 C hb hr
    go_loop [5] (fun i => ∃ k : Nat, k ≤ n2 ∧ i = .int .i64 k ∧ Hid (∀ j, j < k → (((at_ L j).1 == 25) == (j + 1 == L.length)) = true)) (fun i => n2 - (intOf i).toNat)
    case atStart => exact ⟨0, by omega, rfl, fun j hj => absurd hj (by omega)⟩
    case round =>
      obtain ⟨k, hk, rfl, HA⟩ := hrel
      by_cases hlt : k < n2
      · obtain ⟨b1, o1, p1, p2, p3, rfl, hB1, hx, hc1, hc2, hc3⟩ := hr1.at_ hlt
        have HX := Lib.hid (at_some hx)
        have hkL : k < L.length := by rw [← HL.out]; exact hlt
        clear hx
        have ek : (k + 1 == L.length) = ((k : Int) == (n2 : Int) - 1) := by
          rw [Bool.eq_iff_iff, beq_iff_eq, beq_iff_eq, ← HL.out]; omega
        obtain ⟨y, hy⟩ : ∃ y, ((k : Int) == (n2 : Int) - 1) = y := ⟨_, rfl⟩
        rw [hy] at ek
        obtain ⟨x, hx⟩ : ∃ x, (p1 == 25) = x := ⟨_, rfl⟩
        have hv : (((at_ L k).1 == 25) == (k + 1 == L.length)) = (x == y) := by rw [HX.out, ek]; simp only [hx]
        cases hxy : (x == y)
        · have HQ := Lib.hid (wE_ends H0.out (ends_bad hkL (by rw [hv]; exact hxy)))
          clear hv ek HA HX hr1 h3
          cases x <;> cases y <;> first | cases hxy | skip
          all_goals
            try clear hxy
            go_wp2
            go_ret
            exact ⟨by rw [HQ.out]; rfl, HG⟩
        · have HA2 : Hid (∀ j, j < k + 1 → (((at_ L j).1 == 25) == (j + 1 == L.length)) = true) := by
            intro j hj
            by_cases e : j = k
            · rw [e, hv]; exact hxy
            · exact HA.out j (by omega)
          clear hv ek HA HX hr1 h3
          cases x <;> cases y <;> first | cases hxy | skip
          all_goals
            try clear hxy
            go_wp2
            go_round
            case rel => exact ⟨k + 1, by omega, by go_num, HA2⟩
            case measure => simp [intOf]; omega
      · have HE : Hid (ends L = true) := by
          show _ = _
          unfold ends; rw [List.all_eq_true]
          intro j hj
          exact HA.out j (by rw [List.mem_range, ← HL.out] at hj; omega)
        clear HA
        go_wp2
        go_loopw [6] (fun i wr => ∃ k : Nat, k ≤ n2 ∧ i = .int .i64 k ∧ Hid (∀ p, p < k → stay L p = true) ∧ Below w1.heap.size w1 wr) (fun i _ => n2 - (intOf i).toNat)
        case atStart => exact ⟨0, by omega, rfl, fun p hp => absurd hp (by omega), Below.refl _ _⟩
        case round =>
          clear hk hlt
          obtain ⟨k, hk, rfl, HA, hbl⟩ := hrel
          by_cases hlt : k < n2
          · obtain ⟨b1, o1, p1, p2, p3, rfl, hB1, hx, hc1, hc2, hc3⟩ := (hr1.below hbl).at_ hlt
            have HX := Lib.hid (at_some hx)
            have hkL : k < L.length := by rw [← HL.out]; exact hlt
            clear hx
            have HA2 : Hid (stay L k = true → ∀ p, p < k + 1 → stay L p = true) := by
              intro hs p hp
              by_cases e : p = k
              · rw [e]; exact hs
              · exact HA.out p (by omega)
            by_cases hj : p1 = 19 ∨ p1 = 20
            · have hjj : jmp (at_ L k) = true := by rw [HX.out]; unfold jmp; simp; omega
              have h00 := right_jump (can_right HC.out (p := k) hkL) hjj
              rw [HX.out] at h00
              obtain ⟨m, rfl⟩ : ∃ m : Nat, p2 = m := ⟨p2.toNat, by simp at h00; omega⟩
              have hm200 : m < 200 := by simp at h00; omega
              have hled : led L k = k + 1 + m := by unfold led; rw [HX.out]; simp
              clear h00
              by_cases ht : k + 1 + m < n2
              · have e9 : decide ((n2 : Int) ≤ (k : Int) + 1 + (m : Int)) = false := by rw [decide_eq_false_iff_not]; omega
                have c1 := fun W h => homeR_any (some ⟨b1, o1, none⟩) a2 n2 c c2 L (k + 1 + m) ht hn2 HS.out W (hr1.below h) (h3.below h)
                have c2 := fun W h => homeR_any (some ⟨b1, o1, none⟩) a2 n2 c c2 L k hlt hn2 HS.out W (hr1.below h) (h3.below h)
                obtain ⟨x, hx⟩ : ∃ x, x = hm L (k + 1 + m) := ⟨_, rfl⟩
                obtain ⟨y, hy⟩ : ∃ y, y = hm L k := ⟨_, rfl⟩
                have hst : stay L k = (x == y) := by
                  unfold stay; rw [hjj, hled, ← hx, ← hy]
                  have : decide (k + 1 + m < L.length) = true := by rw [decide_eq_true_iff, ← HL.out]; exact ht
                  rw [this]; simp
                rw [← hx] at c1
                rw [← hy] at c2
                have ek : ((k + 1 + m : Nat) : Int) = (k : Int) + 1 + (m : Int) := by omega
                rw [ek] at c1
                have C1 := Lib.hid c1
                have C2 := Lib.hid c2
                have HB := Lib.hid hbl
                have e5 : (p1 == 20) = true ∨ (p1 == 19) = true := by rcases hj with h | h <;> simp [h]
                cases hv : (x == y)
                · have HQ := Lib.hid (wE_jmps H0.out HE.out (stay_not (k := k) hkL (by rw [hst]; exact hv)))
                  have e8 : (x != y) = true := by simp [bne, hv]
                  clear HA HA2 HX hjj hled hst hr1 h3 c1 c2 hx hy ek e5
                  rcases hj with rfl | rfl
                  all_goals
                    go_wp2_with fail
                    refine (C1.out _ HB.out).mono ?_
                    rintro e w2 ⟨rfl, hb2⟩
                    have G2 := keep_below HB.out hb2
                    go_wp2_with fail
                    refine (C2.out _ G2).mono ?_
                    rintro e w3 ⟨rfl, hb3⟩
                    go_wp2
                    go_ret
                    exact ⟨by rw [HQ.out]; rfl, keep_below HG.out (keep_below G2 hb3)⟩
                · have HA3 := Lib.hid (HA2.out (by rw [hst]; exact hv))
                  have e8 : (x != y) = false := by simp [bne, hv]
                  clear HA HA2 HX hjj hled hst hr1 h3 c1 c2 hx hy ek e5
                  rcases hj with rfl | rfl
                  all_goals
                    go_wp2_with fail
                    refine (C1.out _ HB.out).mono ?_
                    rintro e w2 ⟨rfl, hb2⟩
                    have G2 := keep_below HB.out hb2
                    go_wp2_with fail
                    refine (C2.out _ G2).mono ?_
                    rintro e w3 ⟨rfl, hb3⟩
                    go_wp2
                    go_roundw
                    case rel => exact ⟨k + 1, by omega, by go_num, HA3, keep_below G2 hb3⟩
                    case measure => simp [intOf]; omega
              · have HQ := Lib.hid (wE_jmps H0.out HE.out (stay_not (k := k) hkL (by
                  unfold stay; rw [hjj, hled]
                  have : decide (k + 1 + m < L.length) = false := by rw [decide_eq_false_iff_not, ← HL.out]; exact ht
                  rw [this]; rfl)))
                have e9 : (n2 : Int) ≤ (k : Int) + 1 + (m : Int) := by omega
                clear HA HA2 HX hjj hled hr1 h3
                rcases hj with rfl | rfl
                all_goals
                  go_wp2
                  go_ret
                  exact ⟨by rw [HQ.out]; rfl, keep_below HG.out hbl⟩
            · have hs : stay L k = true := by
                unfold stay; rw [HX.out]; unfold jmp
                have : ((p1, p2, p3).1 == 19 || (p1, p2, p3).1 == 20) = false := by simp; omega
                rw [this]; rfl
              have HA3 := Lib.hid (HA2.out hs)
              have e1 : (p1 == 19) = false := by simp; omega
              have e2 : (p1 == 20) = false := by simp; omega
              clear HA HA2 HX hs hj hr1 h3
              go_wp2
              go_roundw
              case rel => exact ⟨k + 1, by omega, by go_num, HA3, hbl⟩
              case measure => simp [intOf]; omega
          · have HQ : Hid (jmps L = true) := by
              show _ = _
              unfold jmps
              rw [List.all_eq_true]
              intro p hp
              exact HA.out p (by rw [List.mem_range, ← HL.out] at hp; omega)
            have HQ2 := Lib.hid (wE_of H0.out HE.out HQ.out)
            go_wp2
            go_ret
            exact ⟨by rw [HQ2.out]; rfl, keep_below HG.out hbl⟩
  · have HQ := Lib.hid (wE_err h0)
    obtain ⟨x, hx⟩ : ∃ x, x = mE L := ⟨_, rfl⟩
    rw [← hx] at cr
    have e1 : (x != 0) = true := by rw [hx]; simpa using h0
    have e2 : (x == 0) = false := by rw [hx]; simpa using h0
    have HX := Lib.hid hx
    have C := Lib.hid cr
    clear cr h0 hx hr
    go_enter Tryd.func22, Tryd.ntmps22
    go_wp2_with (go_at_call 23; refine C.out.mono ?_; rintro e w1 ⟨a2, n2, c2, rfl, h1, hb⟩)
    go_ret
    exact ⟨by rw [HQ.out, ← HX.out]; rfl, hb⟩
end Go.Proofs.YtkkoekfdncoifaaDoor
