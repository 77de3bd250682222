/- What is proved here: contracts of nest.Match, nest.Home, slices.IndexFunc at nest's test, nest.endsLast, nest.jumpsStay and nest.Whole. Condition: the table of names holds what its initialiser lays ('Nms'). -/
import Derived.Test.YtkkoekfdncoifaaDoorReg
namespace Go.Proofs.YtkkoekfdncoifaaDoor
open Go.ChangeShapes Go.WideShapes Go.RowKit

/-- What a call that tells a row of numbers and an error leaves. -/
def GotL (l : List Int) (x : Int) (w : World) (e : Ending) (w' : World) : Prop :=
  ∃ a n c, e = .returned (.tuple #[.slice a n c, .int .i64 x]) ∧ Row w' a n l ∧ Below w.heap.size w w'
/-- Matches and homes, or nothing. -/
def mA (L : List (Int × Int × Int)) : List Int := if mE L = 0 then mL L else []
def hA (L : List (Int × Int × Int)) : List Int := if mE L = 0 then hL L else []

theorem match_any (a : Option Addr) (n c : Nat) (L : List (Int × Int × Int)) (w : World) (hr : RowI w a n L) (hN : Nms w) :
    Calls Tryd.prog 14 #[.slice a n c] w (GotL (mA L) (mE L) w) := by
  have C := Lib.hid (regions_any a n c L w hr hN)
  clear hr hN
  go_enter Tryd.func14, Tryd.ntmps14
  go_wp2_with (go_at_call 28; refine C.out.mono ?_; rintro e w1 ⟨a1, n1, c1, a2, n2, c2, rfl, h1, h2, hb⟩)
  go_ret2
  exact ⟨_, _, _, rfl, h1, hb⟩
theorem isEnd_any (o x y : Int) (w : World) : Calls Tryd.prog 59 #[.agg #[.int .i64 o, .int .i64 x, .int .i64 y]] w fun e w' => e = .returned (.bool (o == 25)) ∧ Below w.heap.size w w' := by
  go_enter Tryd.func59, Tryd.ntmps59
  go_wp2
  go_ret
  exact ⟨rfl, below_alloc _ _⟩
/-- The place of the first End, or -1. -/
def IsFst (L : List (Int × Int × Int)) (i : Int) : Prop :=
  (i = -1 ∧ ∀ p, p < L.length → (at_ L p).1 ≠ 25) ∨ ∃ k : Nat, i = k ∧ k < L.length ∧ (at_ L k).1 = 25 ∧ ∀ p, p < k → (at_ L p).1 ≠ 25
theorem ends_fst {L : List (Int × Int × Int)} {i : Int} (h : IsFst L i) (hl : 1 ≤ L.length) : (i == (L.length : Int) - 1) = ends L := by
  rw [Bool.eq_iff_iff, ends_iff, beq_iff_eq]
  rcases h with ⟨rfl, h⟩ | ⟨k, rfl, hk, he, hp⟩
  · constructor
    · intro h2; omega
    · intro h2
      exact absurd ((h2 (L.length - 1) (by omega)).2 (by omega)) (h _ (by omega))
  · constructor
    · intro h2 j hj
      constructor
      · intro h3
        by_cases e : j < k
        · exact absurd h3 (hp j e)
        · omega
      · intro h3
        obtain rfl : j = k := by omega
        exact he
    · intro h2
      have := (h2 k hk).1 he
      omega
set_option maxHeartbeats 1000000 in
set_option maxRecDepth 100000 in
theorem index_any (a : Option Addr) (n c : Nat) (L : List (Int × Int × Int)) (w : World) (hr : RowI w a n L) (hn : n ≤ 1000000) :
    Calls Tryd.prog 58 #[.slice a n c, .func (.func 59) #[] #[]] w fun e w' => ∃ i, e = .returned (.int .i64 i) ∧ IsFst L i ∧ Below w.heap.size w w' := by
  have HL := Lib.hid hr.1
  go_enter Tryd.func58, Tryd.ntmps58
  go_wp2
  go_loopw [8] (fun i wr => ∃ k : Nat, k ≤ n ∧ i = .int .i64 k ∧ Hid (∀ p, p < k → (at_ L p).1 ≠ 25) ∧ Below w.heap.size w wr) (fun i _ => n - (intOf i).toNat)
  case atStart => exact ⟨0, by omega, rfl, fun p hp => absurd hp (by omega), Below.refl _ _⟩
  case round =>
    obtain ⟨k, hk, rfl, HA, hbl⟩ := hrel
    by_cases hlt : k < n
    · obtain ⟨b1, o1, p1, p2, p3, rfl, hB1, hx, hc1, hc2, hc3⟩ := (hr.below hbl).at_ hlt
      have HX := Lib.hid (at_some hx)
      clear hx
      have ce := fun W => isEnd_any p1 p2 p3 W
      cases hv : (p1 == 25)
      · rw [hv] at ce
        have HA2 : Hid (∀ p, p < k + 1 → (at_ L p).1 ≠ 25) := by
          intro p hp
          by_cases e : p = k
          · rw [e, HX.out]; simpa using hv
          · exact HA.out p (by omega)
        have CE := Lib.hid ce
        clear ce hv HA HX
        go_wp2_with (go_at_call 59; refine (CE.out _).mono ?_; rintro e w2 ⟨rfl, hb2⟩)
        go_roundw
        case rel => exact ⟨k + 1, by omega, by go_num, HA2, keep_below hbl hb2⟩
        case measure => simp [intOf]; omega
      · rw [hv] at ce
        have HQ : Hid (IsFst L k) := Or.inr ⟨k, rfl, by rw [← HL.out]; exact hlt, by rw [HX.out]; simpa using hv, HA.out⟩
        have CE := Lib.hid ce
        clear ce hv HA HX
        go_wp2_with (go_at_call 59; refine (CE.out _).mono ?_; rintro e w2 ⟨rfl, hb2⟩)
        go_ret
        exact ⟨_, rfl, HQ, keep_below hbl hb2⟩
    · have HQ : Hid (IsFst L (-1)) := Or.inl ⟨rfl, fun p hp => HA.out p (by rw [← HL.out] at hp; omega)⟩
      go_wp2
      go_ret
      exact ⟨_, rfl, HQ, hbl⟩
theorem endsLast_any (a : Option Addr) (n c : Nat) (L : List (Int × Int × Int)) (w : World) (hr : RowI w a n L) (h1 : 1 ≤ n) (hn : n ≤ 1000000) :
    Calls Tryd.prog 49 #[.slice a n c] w fun e w' => e = .returned (.bool (ends L)) ∧ Below w.heap.size w w' := by
  have HL := Lib.hid hr.1
  have C := Lib.hid (index_any a n c L w hr hn)
  clear hr
  go_enter Tryd.func49, Tryd.ntmps49
  go_wp2_with (go_at_call 58; refine C.out.mono ?_; rintro e w1 ⟨i, rfl, hi, hb⟩)
  go_ret
  refine ⟨?_, hb⟩
  rw [← ends_fst hi (by rw [← HL.out]; exact h1), ← HL.out]
  rfl
theorem stay_not {L : List (Int × Int × Int)} {k : Nat} (hk : k < L.length) (h : stay L k = false) : jmps L = false := by
  cases hj : jmps L
  · rfl
  · unfold jmps at hj
    rw [List.all_eq_true] at hj
    rw [hj k (by simpa using hk)] at h; cases h
set_option maxHeartbeats 2000000 in
set_option maxRecDepth 100000 in
theorem stays_any (a a2 : Option Addr) (n c c2 : Nat) (L : List (Int × Int × Int)) (w : World) (hr : RowI w a n L) (hh : Row w a2 n (hL L)) (hc : can L = true) :
    Calls Tryd.prog 50 #[.slice a n c, .slice a2 n c2] w fun e w' => e = .returned (.bool (jmps L)) ∧ Below w.heap.size w w' := by
  obtain ⟨R, hR⟩ : ∃ R, R = jmps L := ⟨_, rfl⟩
  rw [← hR]
  have HR := Lib.hid hR
  have HL := Lib.hid hr.1
  have HC := Lib.hid hc
  have hln := can_len hc
  rw [← hr.1] at hln
  obtain ⟨hn1, hn2⟩ := hln
  clear hR hc
  go_enter Tryd.func50, Tryd.ntmps50
  go_wp2
  go_loopw [10] (fun i wr => ∃ k : Nat, k ≤ n ∧ i = .int .i64 k ∧ Hid (∀ p, p < k → stay L p = true) ∧ Below w.heap.size w wr) (fun i _ => n - (intOf i).toNat)
  case atStart => exact ⟨0, by omega, rfl, fun p hp => absurd hp (by omega), Below.refl _ _⟩
  case round =>
    obtain ⟨k, hk, rfl, HA, hbl⟩ := hrel
    by_cases hlt : k < n
    · obtain ⟨b1, o1, p1, p2, p3, rfl, hB1, hx, hc1, hc2, hc3⟩ := (hr.below hbl).at_ hlt
      have HX := Lib.hid (at_some hx)
      clear hx
      have G1 := hbl.alloc hbl.size (.cells #[.int .i64 p1, .int .i64 p2, .int .i64 p3] 37)
      have HA2 : Hid (stay L k = true → ∀ p, p < k + 1 → stay L p = true) := by
        intro hs p hp
        by_cases e : p = k
        · rw [e]; exact hs
        · exact HA.out p (by omega)
      by_cases hj : p1 = 19 ∨ p1 = 20
      · have hjj : jmp (at_ L k) = true := by rw [HX.out]; unfold jmp; simp; omega
        have h0 := right_jump (can_right HC.out (p := k) (by rw [← HL.out]; exact hlt)) hjj
        rw [HX.out] at h0
        obtain ⟨m, rfl⟩ : ∃ m : Nat, p2 = m := ⟨p2.toNat, by simp at h0; omega⟩
        have hm200 : m < 200 := by simp at h0; omega
        have hled : led L k = k + 1 + m := by unfold led; rw [HX.out]; simp
        clear h0
        by_cases ht : k + 1 + m < n
        · have e9 : decide ((n : Int) ≤ (k : Int) + 1 + (m : Int)) = false := by rw [decide_eq_false_iff_not]; omega
          obtain ⟨b2, o2, rfl, hB2, hcs⟩ := (hh.below G1).2 (by omega)
          obtain ⟨x, hx⟩ : ∃ x, x = hm L (k + 1 + m) := ⟨_, rfl⟩
          obtain ⟨y, hy⟩ : ∃ y, y = hm L k := ⟨_, rfl⟩
          have d1 := hcs (k + 1 + m) ht
          have d2 := hcs k hlt
          rw [hL_at (by rw [← HL.out]; exact ht), ← hx] at d1
          rw [hL_at (by rw [← HL.out]; exact hlt), ← hy] at d2
          have f1 : (0 : Int) ≤ (k : Int) + 1 + (m : Int) := by omega
          have f2 : (k : Int) + 1 + (m : Int) < (n : Int) := by omega
          have f3 : ((k : Int) + 1 + (m : Int)).toNat = k + 1 + m := by omega
          have hst : stay L k = (x == y) := by
            unfold stay; rw [hjj, hled, ← hx, ← hy]
            have : decide (k + 1 + m < L.length) = true := by rw [decide_eq_true_iff, ← HL.out]; exact ht
            rw [this]; simp
          clear hx hy hcs
          cases hv : (x == y)
          · have HQ := Lib.hid (stay_not (k := k) (by rw [← HL.out]; exact hlt) (by rw [hst]; exact hv))
            have e8 : (x != y) = true := by simp [bne, hv]
            clear HA HA2 HX hjj hled hst hr hh
            rcases hj with rfl | rfl
            all_goals
              go_wp2
              go_quiet (fail)
              go_wp2
              go_ret
              exact ⟨by rw [HR.out, HQ.out]; rfl, G1.trans ⟨rfl, rfl, rfl, Nat.le_refl _, fun _ _ => rfl⟩⟩
          · have HA3 := Lib.hid (HA2.out (by rw [hst]; exact hv))
            have e8 : (x != y) = false := by simp [bne, hv]
            clear HA HA2 HX hjj hled hst hr hh
            rcases hj with rfl | rfl
            all_goals
              go_wp2
              go_quiet (fail)
              go_wp2
              go_roundw
              case rel => exact ⟨k + 1, by omega, by go_num, HA3, G1.trans ⟨rfl, rfl, rfl, Nat.le_refl _, fun _ _ => rfl⟩⟩
              case measure => simp [intOf]; omega
        · have HQ := Lib.hid (stay_not (k := k) (by rw [← HL.out]; exact hlt) (by
            unfold stay; rw [hjj, hled]
            have : decide (k + 1 + m < L.length) = false := by rw [decide_eq_false_iff_not, ← HL.out]; exact ht
            rw [this]; rfl))
          have e9 : (n : Int) ≤ (k : Int) + 1 + (m : Int) := by omega
          clear HA HA2 HX hjj hled hr hh
          rcases hj with rfl | rfl
          all_goals
            go_wp2
            go_quiet (fail)
            go_wp2
            go_ret
            exact ⟨by rw [HR.out, HQ.out]; rfl, G1.trans ⟨rfl, rfl, rfl, Nat.le_refl _, fun _ _ => rfl⟩⟩
      · have hs : stay L k = true := by
          unfold stay; rw [HX.out]; unfold jmp
          have : ((p1, p2, p3).1 == 19 || (p1, p2, p3).1 == 20) = false := by simp; omega
          rw [this]; rfl
        have HA3 := Lib.hid (HA2.out hs)
        have e1 : (p1 != 19) = true := by simp; omega
        have e2 : (p1 != 20) = true := by simp; omega
        clear HA HA2 HX hs hj
        go_wp2
        go_roundw
        case rel => exact ⟨k + 1, by omega, by go_num, HA3, G1⟩
        case measure => simp [intOf]; omega
    · have HQ : Hid (jmps L = true) := by
        show _ = _
        unfold jmps
        rw [List.all_eq_true]
        intro p hp
        exact HA.out p (by rw [List.mem_range, ← HL.out] at hp; omega)
      go_wp2
      go_ret
      exact ⟨by rw [HR.out, HQ.out]; rfl, hbl⟩
end Go.Proofs.YtkkoekfdncoifaaDoor
