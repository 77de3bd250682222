/- What is proved here: contracts of nest.canBe, nest.closes and nest.bit. Condition: the table of names holds what its initialiser lays ('Nms'). -/
import Derived.Test.YtkkoekfdncoifaaDoorOwn
import Derived.Test.YtkkoekfdncoifaaDoorNest2
namespace Go.Proofs.YtkkoekfdncoifaaDoor
open Go.ChangeShapes Go.WideShapes Go.RowKit

theorem at_some {L : List (Int × Int × Int)} {k : Nat} {x : Int × Int × Int} (h : L[k]? = some x) : at_ L k = x := by
  unfold at_; rw [List.getD_eq_getElem?_getD, h]; rfl
theorem can_none {L : List (Int × Int × Int)} (h : ¬ (1 ≤ L.length ∧ L.length ≤ 200)) : can L = false := by
  unfold can; simp only [h, decide_false, Bool.false_and]
theorem can_wrong {L : List (Int × Int × Int)} {k : Nat} (hk : k < L.length) (h : right (at_ L k) = false) : can L = false := by
  cases hc : can L
  · rfl
  · rw [can_right hc hk] at h; cases h

set_option maxHeartbeats 1000000 in
set_option maxRecDepth 100000 in
theorem canBe_any (a : Option Addr) (n c : Nat) (L : List (Int × Int × Int)) (w : World) (hr : RowI w a n L) (hN : Nms w) :
    Calls Tryd.prog 43 #[.slice a n c] w fun e w' => e = .returned (.bool (can L)) ∧ Below w.heap.size w w' := by
  obtain ⟨R, hR⟩ : ∃ R, R = can L := ⟨_, rfl⟩
  rw [← hR]
  have HR := Lib.hid hR
  have HL := Lib.hid hr.1
  have HN := Lib.hid hN
  clear hR hN
  by_cases h0 : n = 0
  · have HQ := Lib.hid (can_none (L := L) (by rw [← HL.out]; omega))
    subst h0
    clear hr
    go_enter Tryd.func43, Tryd.ntmps43
    go_wp2
    go_ret
    exact ⟨by rw [HR.out, HQ.out]; rfl, Below.refl _ _⟩
  by_cases h1 : 200 < n
  · have HQ := Lib.hid (can_none (L := L) (by rw [← HL.out]; omega))
    have e0 : (n == 0) = false := by simpa using h0
    have e1 : ((n : Int) == 0) = false := by rw [beq_eq_false_iff_ne]; omega
    clear hr
    go_enter Tryd.func43, Tryd.ntmps43
    go_wp2
    go_ret
    exact ⟨by rw [HR.out, HQ.out]; rfl, Below.refl _ _⟩
  have e0 : (n == 0) = false := by simpa using h0
  have e1 : ((n : Int) == 0) = false := by rw [beq_eq_false_iff_ne]; omega
  have e2 : decide (200 < (n : Int)) = false := by rw [decide_eq_false_iff_not]; omega
  go_enter Tryd.func43, Tryd.ntmps43
  go_wp2
  go_loopw [15] (fun i wr => ∃ k : Nat, k ≤ n ∧ i = .int .i64 k ∧ Hid (∀ p, p < k → right (at_ L p) = true) ∧ Below w.heap.size w wr) (fun i _ => n - (intOf i).toNat)
  case atStart => exact ⟨0, by omega, rfl, fun p hp => absurd hp (by omega), Below.refl _ _⟩
  case round =>
    obtain ⟨k, hk, rfl, HA, hbl⟩ := hrel
    by_cases hlt : k < n
    · obtain ⟨b1, o1, p1, p2, p3, rfl, hB1, hx, hc1, hc2, hc3⟩ := (hr.below hbl).at_ hlt
      have hbs := hbl.size
      have G1 := hbl.alloc hbs (.cells #[.int .i64 p1, .int .i64 p2, .int .i64 p3] 37)
      have ce := right_any p1 p2 p3 _ (HN.out.below G1)
      have HX := Lib.hid (at_some hx)
      clear hx
      cases hri : right (p1, p2, p3)
      · have HQ : Hid (can L = false) := can_wrong (k := k) (by rw [← HL.out]; exact hlt) (by rw [HX.out]; exact hri)
        rw [hri] at ce
        have CE := Lib.hid ce
        clear ce hri
        go_wp2_with (go_at_call 29; refine CE.out.mono ?_; rintro e w2 ⟨rfl, hb2⟩)
        go_ret
        exact ⟨by rw [HR.out, HQ.out]; rfl, G1.trans (hb2.mono (by simp; omega))⟩
      · have HA2 : Hid (∀ p, p < k + 1 → right (at_ L p) = true) := by
          intro p hp
          by_cases e : p = k
          · rw [e, HX.out]; exact hri
          · exact HA.out p (by omega)
        rw [hri] at ce
        have CE := Lib.hid ce
        clear ce hri
        go_wp2_with (go_at_call 29; refine CE.out.mono ?_; rintro e w2 ⟨rfl, hb2⟩)
        go_roundw
        case rel => exact ⟨k + 1, by omega, by go_num, HA2, G1.trans (hb2.mono (by simp; omega))⟩
        case measure => simp [intOf]; omega
    · have HQ : Hid (can L = true) := can_iff.2 ⟨by rw [← HL.out]; omega, fun p hp => HA.out p (by rw [← HL.out] at hp; omega)⟩
      go_wp2
      go_ret
      exact ⟨by rw [HR.out, HQ.out]; rfl, hbl⟩

/-- Does what closes close it? (The first one closes.) -/
def closes (o x o2 x2 : Int) : Bool := if o = 22 then o2 == 21 else o2 == 23 && x2 == x
theorem closes_clo {i t : Int × Int × Int} (h : cls i = true) : closes i.1 i.2.1 t.1 t.2.1 = clo t i := by
  unfold closes clo
  unfold cls at h
  simp only [Bool.or_eq_true, beq_iff_eq] at h
  rcases h with h | h
  · rw [if_pos h, h]; simp
  · rw [if_neg (by omega), h]; simp
set_option maxHeartbeats 1000000 in
set_option maxRecDepth 100000 in
theorem closes_any (o x y o2 x2 y2 : Int) (w : World) :
    Calls Tryd.prog 44 #[.agg #[.int .i64 o, .int .i64 x, .int .i64 y], .agg #[.int .i64 o2, .int .i64 x2, .int .i64 y2]] w fun e w' => e = .returned (.bool (closes o x o2 x2)) ∧ Below w.heap.size w w' := by
  have G := ((Below.refl w.heap.size w).alloc (Nat.le_refl _) (.cells #[.int .i64 o, .int .i64 x, .int .i64 y] 37)).alloc (by simp) (.cells #[.int .i64 o2, .int .i64 x2, .int .i64 y2] 37)
  by_cases h : o = 22
  · subst h
    have e : closes 22 x o2 x2 = (o2 == 21) := rfl
    rw [e]
    clear e
    go_enter Tryd.func44, Tryd.ntmps44
    go_wp2
    go_ret
    exact ⟨rfl, G⟩
  · have e : closes o x o2 x2 = (o2 == 23 && x2 == x) := by unfold closes; rw [if_neg h]
    have e1 : (o == 22) = false := by simpa using h
    rw [e]
    clear e
    by_cases h2 : o2 = 23
    · subst h2
      go_enter Tryd.func44, Tryd.ntmps44
      go_wp2
      go_ret
      exact ⟨rfl, G⟩
    · have e2 : (o2 == 23) = false := by simpa using h2
      rw [e2]
      go_enter Tryd.func44, Tryd.ntmps44
      go_wp2
      go_ret
      exact ⟨rfl, G⟩
end Go.Proofs.YtkkoekfdncoifaaDoor
