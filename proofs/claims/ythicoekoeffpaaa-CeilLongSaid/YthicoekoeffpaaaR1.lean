/- What is proved here: contracts of the document's one, Right and ceiling. Conditions: rows are not too long. -/
import Derived.Test.YthicoekoeffpaaaRi
namespace Go.Proofs.Ythicoekoeffpaaa
open Go.ChangeShapes Go.WideShapes Go.RowKit

/-- What stands ahead of a place. -/
def ahead (l : List Int) (k : Nat) : Int := if k = 0 then -1 else l.getD (k - 1) 0
theorem ahead_succ (l : List Int) (k : Nat) : ahead l (k + 1) = l.getD k 0 := rfl
set_option maxHeartbeats 4000000 in
set_option maxRecDepth 100000 in
theorem oneR_any (B pr : Int) (xa : Option Addr) (xn xc : Nat) (la : Option Addr) (ln lc : Nat) (u : UsP) (w : World) (hp : pr = u.pr) (hx : Row w xa xn u.bl) (hxn : xn ≤ 140737488355328) (hl : Row w la ln u.le) (hln : ln ≤ 140737488355328) (r : Bool) (hq : okU B u = r) :
    Calls Try.prog 26 #[.int .i64 B, .agg #[.int .i64 pr, .slice xa xn xc, .slice la ln lc]] w fun e w' => e = .returned (.bool r) ∧ Below w.heap.size w w' := by
  obtain ⟨x1, e1⟩ : ∃ x, inB pr 1 100 = x := ⟨_, rfl⟩
  obtain ⟨x4, e4⟩ : ∃ x, u.le.all lenE = x := ⟨_, rfl⟩
  have HS : Hid ((x1 && (decide (ln = xn) && (riseE (ahead u.bl 0) B (u.bl.drop 0) && x4))) = r) := by
    show _ = _
    rw [← hq, ← e1, ← e4, hp]; unfold okU; rw [hx.1, hl.1]; rfl
  have HE1 := Lib.hid e1
  have HE4 : Hid ((u.le.drop 0).all lenE = x4) := e4
  have HX := Lib.hid hx
  have HL := Lib.hid hl
  have I1 := Lib.hid (One.new w #[.int .i64 pr, .slice xa xn xc, .slice la ln lc] 46)
  clear hq hp hx hl e1 e4
  go_enter Try.func26, Try.ntmps26
  go_wp2
  generalize w.alloc (.cells #[.int .i64 pr, .slice xa xn xc, .slice la ln lc] 46) = W0 at I1 ⊢
  go_loopw [5] (fun i wr => ∃ k : Nat, k ≤ xn ∧ i = .int .i64 k ∧ Hid ((x1 && (decide (ln = xn) && (riseE (ahead u.bl k) B (u.bl.drop k) && x4))) = r) ∧ -1 ≤ ahead u.bl k ∧ (0 < k → 0 ≤ ahead u.bl k) ∧ Hid (One w w.heap.size (#[.int .i64 pr, .slice xa xn xc, .slice la ln lc] : Array Value).toList wr)) (fun i _ => xn - (intOf i).toNat)
  case atStart => exact ⟨0, by omega, rfl, HS, Int.le_refl (-1), fun h => absurd h (by omega), I1⟩
  case round =>
    obtain ⟨k, hk, rfl, HA, ha1, ha2, J⟩ := hrel
    have hbl := J.out.1
    have d0 := J.out.2 0 _ rfl
    have d1 := J.out.2 1 _ rfl
    have d2 := J.out.2 2 _ rfl
    by_cases hlt : k < xn
    · obtain ⟨b1, o1, b, rfl, hB1, hx, hc1⟩ := (HX.out.below hbl).item hlt
      have i1 : (0 : Int) ≤ (k : Int) := by omega
      have i2 : (k : Int) < (xn : Int) := by omega
      have HE : Hid (riseE (ahead u.bl k) B (u.bl.drop k) = (decide (ahead u.bl k < b) && (decide (b < B) && riseE (ahead u.bl (k + 1)) B (u.bl.drop (k + 1))))) := by show _ = _; rw [take_cons_drop hx, ahead_succ, getD_of hx]; rfl
      have hah : ahead u.bl (k + 1) = b := by rw [ahead_succ, getD_of hx]
      by_cases h1 : b < 0
      · have q1 : decide (b < 0) = true := decide_eq_true h1
        have HR : Hid (r = false) := by have := HA.out; rw [HE.out, decide_eq_false (p := ahead u.bl k < b) (by omega)] at this; simp at this; exact this
        clear hx hah HA HE ha1 ha2
        go_wp2
        go_quiet (fail)
        go_wp2
        go_ret
        exact ⟨by rw [HR.out]; rfl, hbl.trans ⟨rfl, rfl, rfl, Nat.le_refl _, fun _ _ => rfl⟩⟩
      have q1 : decide (b < 0) = false := decide_eq_false h1
      by_cases h2 : B ≤ b
      · have q2 : decide (B ≤ b) = true := decide_eq_true h2
        have HR : Hid (r = false) := by have := HA.out; rw [HE.out, decide_eq_false (p := b < B) (by omega)] at this; simp at this; exact this
        clear hx hah HA HE ha1 ha2
        go_wp2
        go_quiet (fail)
        go_wp2
        go_ret
        exact ⟨by rw [HR.out]; rfl, hbl.trans ⟨rfl, rfl, rfl, Nat.le_refl _, fun _ _ => rfl⟩⟩
      have q2 : decide (B ≤ b) = false := decide_eq_false h2
      rcases k with _ | k
      · have HT : Hid ((x1 && (decide (ln = xn) && (riseE (ahead u.bl (0 + 1)) B (u.bl.drop (0 + 1)) && x4))) = r) := by
          show _ = _
          have := HA.out
          rw [HE.out, decide_eq_true (p := b < B) (by omega), decide_eq_true (p := ahead u.bl 0 < b) (by show (-1 : Int) < b; omega)] at this
          simpa using this
        have n1 : -1 ≤ ahead u.bl (0 + 1) := by rw [hah]; omega
        have n2 : 0 < 0 + 1 → 0 ≤ ahead u.bl (0 + 1) := fun _ => by rw [hah]; omega
        have n3 := Lib.hid n1
        have n4 := Lib.hid n2
        rw [Nat.add_zero] at hc1
        clear hx hah HA HE ha1 ha2 n1 n2
        go_wp2
        go_quiet (fail)
        go_wp2
        go_roundw
        case rel => exact ⟨0 + 1, by omega, by go_num, HT, n3.out, n4.out, J.out.keep ⟨rfl, rfl, rfl, Nat.le_refl _, fun _ _ => rfl⟩⟩
        case measure => simp [intOf]; omega
      · obtain ⟨b3, o3, z, e3, _, hz, hc3⟩ := (HX.out.below hbl).item (k := k) (by omega)
        cases e3
        have hah2 : ahead u.bl (k + 1) = z := by rw [ahead_succ, getD_of hz]
        have i3 : (0 : Int) ≤ ((k + 1 : Nat) : Int) - 1 := by omega
        have i4 : ((k + 1 : Nat) : Int) - 1 < (xn : Int) := by omega
        have i5 : ((k + 1 : Nat) : Int) - 1 = (k : Int) := by omega
        have i6 : (0 : Int) < ((k + 1 : Nat) : Int) := by omega
        by_cases h3 : b ≤ z
        · have q3 : decide (b ≤ z) = true := decide_eq_true h3
          have HR : Hid (r = false) := by have := HA.out; rw [HE.out, decide_eq_false (p := ahead u.bl (k + 1) < b) (by omega)] at this; simp at this; exact this
          clear hx hz hah hah2 HA HE ha1 ha2
          go_wp2
          go_quiet (fail)
          go_wp2
          go_ret
          exact ⟨by rw [HR.out]; rfl, hbl.trans ⟨rfl, rfl, rfl, Nat.le_refl _, fun _ _ => rfl⟩⟩
        · have q3 : decide (b ≤ z) = false := decide_eq_false h3
          have HT : Hid ((x1 && (decide (ln = xn) && (riseE (ahead u.bl (k + 1 + 1)) B (u.bl.drop (k + 1 + 1)) && x4))) = r) := by
            show _ = _
            have := HA.out
            rw [HE.out, decide_eq_true (p := b < B) (by omega), decide_eq_true (p := ahead u.bl (k + 1) < b) (by omega)] at this
            simpa using this
          have n3 : Hid (-1 ≤ ahead u.bl (k + 1 + 1)) := by show _ ≤ _; rw [hah]; omega
          have n4 : Hid (0 < k + 1 + 1 → 0 ≤ ahead u.bl (k + 1 + 1)) := fun _ => by rw [hah]; omega
          clear hx hz hah hah2 HA HE ha1 ha2
          go_wp2
          go_quiet (fail)
          go_wp2
          go_roundw
          case rel => exact ⟨k + 1 + 1, by omega, by go_num, HT, n3.out, n4.out, J.out.keep ⟨rfl, rfl, rfl, Nat.le_refl _, fun _ _ => rfl⟩⟩
          case measure => simp [intOf]; omega
    · obtain rfl : xn = k := by omega
      have HB : Hid ((x1 && (decide (ln = xn) && x4)) = r) := by
        show _ = _
        have := HA.out
        rw [List.drop_of_length_le (by rw [HX.out.1]; exact Nat.le_refl _)] at this
        simpa [riseE] using this
      clear HA ha1 ha2 I1 HS
      go_wp2
      clear d0 d1 d2 hbl
      generalize wr = W1 at *
      go_loopw [6] (fun i wr => ∃ j : Nat, j ≤ ln ∧ i = .int .i64 j ∧ Hid ((u.le.drop j).all lenE = x4) ∧ Hid (One w w.heap.size (#[.int .i64 pr, .slice xa xn xc, .slice la ln lc] : Array Value).toList wr)) (fun i _ => ln - (intOf i).toNat)
      case atStart => exact ⟨0, by omega, rfl, HE4, J⟩
      case round =>
        obtain ⟨j, hj, rfl, HA, J⟩ := hrel
        have hbl := J.out.1
        have d0 := J.out.2 0 _ rfl
        have d1 := J.out.2 1 _ rfl
        have d2 := J.out.2 2 _ rfl
        by_cases hlt2 : j < ln
        · obtain ⟨b1, o1, y, rfl, hB1, hx, hc1⟩ := (HL.out.below hbl).item hlt2
          have i1 : (0 : Int) ≤ (j : Int) := by omega
          have i2 : (j : Int) < (ln : Int) := by omega
          have HE := Lib.hid (all_step (f := lenE) hx)
          by_cases h1 : y < 0
          · have q1 : decide (y < 0) = true := decide_eq_true h1
            have HR : Hid (r = false) := by
              show _ = _
              have e : lenE y = false := inB_f (by omega)
              have := HA.out; rw [HE.out, e] at this
              rw [← HB.out, ← this]; simp
            clear hx HA HE
            go_wp2
            go_ret
            exact ⟨by rw [HR.out]; rfl, hbl⟩
          have q1 : decide (y < 0) = false := decide_eq_false h1
          by_cases h2 : 1099511627776 < y
          · have q2 : decide (1099511627776 < y) = true := decide_eq_true h2
            have HR : Hid (r = false) := by
              show _ = _
              have e : lenE y = false := inB_f (by omega)
              have := HA.out; rw [HE.out, e] at this
              rw [← HB.out, ← this]; simp
            clear hx HA HE
            go_wp2
            go_ret
            exact ⟨by rw [HR.out]; rfl, hbl⟩
          have q2 : decide (1099511627776 < y) = false := decide_eq_false h2
          have HT : Hid ((u.le.drop (j + 1)).all lenE = x4) := by
            have e : lenE y = true := inB_iff.2 (by omega)
            have := HA.out; rw [HE.out, e] at this; exact this
          clear hx HA HE
          go_wp2
          go_roundw
          case rel => exact ⟨j + 1, by omega, by go_num, HT, J⟩
          case measure => simp [intOf]; omega
        · obtain rfl : ln = j := by omega
          have HR : Hid ((x1 && decide (ln = xn)) = r) := by
            show _ = _
            have := HA.out
            rw [List.drop_of_length_le (by rw [HL.out.1]; exact Nat.le_refl _)] at this
            rw [← HB.out, ← this]; simp
          clear HA
          by_cases h1 : 1 ≤ pr
          · have q1 : decide (1 ≤ pr) = true := decide_eq_true h1
            by_cases h2 : pr ≤ 100
            · have q2 : decide (pr ≤ 100) = true := decide_eq_true h2
              have HR2 : Hid (decide (ln = xn) = r) := by have := HR.out; rw [← HE1.out, inB_iff.2 ⟨h1, h2⟩] at this; exact this
              by_cases h3 : ln = xn
              · have HR3 : Hid (r = true) := by show _ = _; rw [← HR2.out]; exact decide_eq_true h3
                have h3i : (xn : Int) = (ln : Int) := by omega
                clear h3
                go_wp2
                go_ret
                exact ⟨by rw [HR3.out]; simp, hbl⟩
              · have HR3 : Hid (r = false) := by show _ = _; rw [← HR2.out]; exact decide_eq_false h3
                have h3i : ¬ (xn : Int) = (ln : Int) := by omega
                clear h3
                go_wp2
                go_ret
                exact ⟨by rw [HR3.out]; simp [h3i], hbl⟩
            · have q2 : decide (pr ≤ 100) = false := decide_eq_false h2
              have HR3 : Hid (r = false) := by show _ = _; rw [← HR.out, ← HE1.out, inB_f (by omega)]; rfl
              go_wp2
              go_ret
              exact ⟨by rw [HR3.out]; rfl, hbl⟩
          · have q1 : decide (1 ≤ pr) = false := decide_eq_false h1
            have HR3 : Hid (r = false) := by show _ = _; rw [← HR.out, ← HE1.out, inB_f (by omega)]; rfl
            go_wp2
            go_ret
            exact ⟨by rw [HR3.out]; rfl, hbl⟩
end Go.Proofs.Ythicoekoeffpaaa
