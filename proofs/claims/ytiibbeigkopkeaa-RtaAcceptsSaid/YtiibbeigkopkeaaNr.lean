/- What is proved here: contracts of the document's Right, Add, Mul, Ceil. Conditions: those each theorem states. -/
import Derived.Test.YtiibbeigkopkeaaNc
namespace Go.Proofs.Ytiibbeigkopkeaa
open Go.ChangeShapes Go.WideShapes Go.RowKit

/-! ### The document's answers -/
theorem rightR_any (n : Int) (w : World) : Calls Try.prog 24 #[.int .i64 n] w fun e w' => e = .returned (.bool (rt n)) ∧ w' = w := by
  have h : Hid (∀ x y, decide (0 ≤ n) = x → decide (n < 4611686018427387904) = y → rt n = (x && y)) := fun x y hx hy => by unfold rt; rw [hx, hy]
  cases h1 : decide (0 ≤ n) <;> cases h2 : decide (n < 4611686018427387904) <;>
  · have h3 := Lib.hid (h.out _ _ h1 h2)
    clear h
    go_enter Try.func24, Try.ntmps24
    go_wp2
    go_ret
    exact ⟨by rw [h3.out]; rfl, rfl⟩
set_option maxHeartbeats 1000000 in
set_option maxRecDepth 100000 in
theorem addR_any (a : Option Addr) (n c : Nat) (l : List Int) (w : World) (hr : Row w a n l) (hn : n ≤ 1000000000000) :
    Calls Try.prog 26 #[.slice a n c] w fun e w' => e = .returned (.tuple #[.int .i64 (addV l), .int .i64 (addE l)]) ∧ Below w.heap.size w w' := by
  have HL := Lib.hid hr.1
  go_enter Try.func26, Try.ntmps26
  go_wp2
  go_loopw [4, 5, 6] (fun s y i wr => ∃ k : Nat, ∃ S E : Int, k ≤ n ∧ i = .int .i64 k ∧ s = .int .i64 S ∧ y = .int .i64 E ∧ Hid (∀ p, p < k → rt (l.getD p 0) = true) ∧ Hid ((E = 0 ∧ S = ps l k) ∨ (E = 4 ∧ S = 0 ∧ 4611686018427387904 ≤ ps l k)) ∧ (E = 0 ∨ E = 4) ∧ 0 ≤ S ∧ S < 4611686018427387904 ∧ Below w.heap.size w wr) (fun _ _ i _ => n - (intOf i).toNat)
  case atStart => exact ⟨0, 0, 0, by omega, rfl, rfl, rfl, fun p hp => absurd hp (by omega), Or.inl ⟨rfl, (ps_zero l).symm⟩, Or.inl rfl, by omega, by omega, Below.refl _ _⟩
  case round =>
    obtain ⟨k, S, E, hk, rfl, rfl, rfl, HA, HS, hE, hS1, hS2, hbl⟩ := hrel
    by_cases hlt : k < n
    · obtain ⟨b1, o1, x, rfl, hB1, hx, hc1⟩ := (hr.below hbl).at_ hlt
      have ce := fun W => rightR_any x W
      cases hv : rt x
      · rw [hv] at ce
        have HQ : Hid (addE l = 1 ∧ addV l = 0) := by
          refine add_wrong ?_
          rw [Bool.eq_false_iff]
          intro h
          have := al_at.1 h k (by rw [← HL.out]; exact hlt)
          rw [hx, hv] at this; cases this
        have CE := Lib.hid ce
        clear ce hx hv HA HS hE
        go_wp2_with (go_at_call 24; refine (CE.out _).mono ?_; rintro e w2 ⟨rfl, rfl⟩)
        go_ret2
        exact ⟨by rw [HQ.out.1, HQ.out.2]; rfl, hbl⟩
      · rw [hv] at ce
        have HA2 : Hid (∀ p, p < k + 1 → rt (l.getD p 0) = true) := by
          intro p hp
          by_cases e : p = k
          · rw [e, hx]; exact hv
          · exact HA.out p (by omega)
        have HP : Hid (ps l (k + 1) = ps l k + x) := by
          show _ = _
          rw [ps_succ (by rw [← HL.out]; exact hlt), hx]
        obtain ⟨hx1, hx2⟩ := rt_iff.1 hv
        have CE := Lib.hid ce
        clear ce hx hv HA
        have wd : IntKind.i64.wrap (4611686018427387904 - x) = 4611686018427387904 - x := by rw [IntKind.wrap_i64]; omega
        by_cases hbig : 4611686018427387904 - x ≤ S
        · rcases HS.out with ⟨e1, e2⟩ | ⟨e1, e2, e3⟩
          · have HS2 : Hid (4611686018427387904 ≤ ps l (k + 1)) := by show _ ≤ _; rw [HP.out, ← e2]; omega
            clear HS HP e2
            subst e1
            clear hE
            go_wp2_with (go_at_call 24; refine (CE.out _).mono ?_; rintro e w2 ⟨rfl, rfl⟩)
            go_roundw
            case rel => exact ⟨k + 1, 0, 4, by omega, by go_num, rfl, rfl, HA2, Or.inr ⟨rfl, rfl, HS2.out⟩, Or.inr rfl, by omega, by omega, hbl⟩
            case measure => simp [intOf]; omega
          · exfalso; omega
        · rcases HS.out with ⟨e1, e2⟩ | ⟨e1, e2, e3⟩
          · have HS2 : Hid (S + x = ps l (k + 1)) := by show _ = _; rw [HP.out, ← e2]
            have wa : IntKind.i64.wrap (S + x) = S + x := by rw [IntKind.wrap_i64]; omega
            clear HS HP e2
            subst e1
            clear hE
            go_wp2_with (go_at_call 24; refine (CE.out _).mono ?_; rintro e w2 ⟨rfl, rfl⟩)
            go_roundw
            case rel => exact ⟨k + 1, S + x, 0, by omega, by go_num, rfl, rfl, HA2, Or.inl ⟨rfl, HS2.out⟩, Or.inl rfl, by omega, by omega, hbl⟩
            case measure => simp [intOf]; omega
          · have HS2 : Hid (4611686018427387904 ≤ ps l (k + 1)) := by show _ ≤ _; rw [HP.out]; omega
            clear HS HP e3
            subst e1
            subst e2
            clear hE
            go_wp2_with (go_at_call 24; refine (CE.out _).mono ?_; rintro e w2 ⟨rfl, rfl⟩)
            go_roundw
            case rel => exact ⟨k + 1, 0, 4, by omega, by go_num, rfl, rfl, HA2, Or.inr ⟨rfl, rfl, HS2.out⟩, Or.inr rfl, by omega, by omega, hbl⟩
            case measure => simp [intOf]; omega
    · have hkn : k = n := by omega
      subst hkn
      have HQ : Hid (addE l = E ∧ addV l = S) := by
        have ha : al l = true := al_at.2 (fun i hi => HA.out i (by rw [HL.out]; exact hi))
        have e : ps l k = l.sum := by rw [HL.out]; exact ps_all l
        rcases HS.out with ⟨e1, e2⟩ | ⟨e1, e2, e3⟩
        · obtain ⟨h1, h2⟩ := add_ok ha (by rw [← e, ← e2]; exact hS2)
          exact ⟨by rw [h1, e1], by rw [h2, e2, e]⟩
        · obtain ⟨h1, h2⟩ := add_big ha (by rw [← e]; exact e3)
          exact ⟨by rw [h1, e1], by rw [h2, e2]⟩
      go_wp2
      go_ret2
      exact ⟨by rw [HQ.out.1, HQ.out.2]; rfl, hbl⟩

theorem mul_wrong {x y : Int} (h : (rt x && rt y) = false) : mulE x y = 1 ∧ mulV x y = 0 := by unfold mulE mulV; rw [h]; exact ⟨rfl, rfl⟩
theorem mul_big {x y : Int} (h : (rt x && rt y) = true) (h2 : 4611686018427387904 ≤ x * y) : mulE x y = 4 ∧ mulV x y = 0 := by
  unfold mulE mulV; rw [if_pos h, if_pos h, if_neg (by omega), if_neg (by omega)]; exact ⟨rfl, rfl⟩
theorem mul_ok {x y : Int} (h : (rt x && rt y) = true) (h2 : x * y < 4611686018427387904) : mulE x y = 0 ∧ mulV x y = x * y := by
  unfold mulE mulV; rw [if_pos h, if_pos h, if_pos h2, if_pos h2]; exact ⟨rfl, rfl⟩
set_option maxHeartbeats 1000000 in
set_option maxRecDepth 100000 in
theorem mulR_any (x y : Int) (w : World) :
    Calls Try.prog 33 #[.int .i64 x, .int .i64 y] w fun e w' => e = .returned (.tuple #[.int .i64 (mulV x y), .int .i64 (mulE x y)]) ∧ Below w.heap.size w w' := by
  have G := Below.refl w.heap.size w
  have C1 := fun W => rightR_any x W
  have C2 := fun W => rightR_any y W
  cases h1 : rt x
  · obtain ⟨e1, e2⟩ := mul_wrong (x := x) (y := y) (by rw [h1]; rfl)
    rw [e1, e2]
    rw [h1] at C1
    have C1' := Lib.hid C1
    clear e1 e2 h1 C1 C2
    go_enter Try.func33, Try.ntmps33
    go_wp2_with fail
    refine (C1'.out _).mono ?_; rintro e w1 ⟨rfl, rfl⟩
    go_wp2
    go_ret2
    exact ⟨rfl, G⟩
  rw [h1] at C1
  have C1' := Lib.hid C1
  clear C1
  cases h2 : rt y
  · obtain ⟨e1, e2⟩ := mul_wrong (x := x) (y := y) (by rw [h2]; simp)
    rw [e1, e2]
    rw [h2] at C2
    have C2' := Lib.hid C2
    clear e1 e2 h1 h2 C2
    go_enter Try.func33, Try.ntmps33
    go_wp2_with fail
    refine (C1'.out _).mono ?_; rintro e w1 ⟨rfl, rfl⟩
    go_wp2_with fail
    refine (C2'.out _).mono ?_; rintro e w2 ⟨rfl, rfl⟩
    go_wp2
    go_ret2
    exact ⟨rfl, G⟩
  rw [h2] at C2
  have C2' := Lib.hid C2
  clear C2
  have hb : (rt x && rt y) = true := by rw [h1, h2]; rfl
  obtain ⟨x1, x2⟩ := rt_iff.1 h1
  obtain ⟨y1, y2⟩ := rt_iff.1 h2
  clear h1 h2
  by_cases hy : 0 < y
  · obtain ⟨q, hq⟩ : ∃ q, q = (4611686018427387903 : Int) / y := ⟨_, rfl⟩
    have dq : (4611686018427387903 : Int).tdiv y = q := by rw [hq]; exact Int.tdiv_eq_ediv_of_nonneg (by decide)
    have q1 : 0 ≤ q := by rw [hq]; exact Int.ediv_nonneg (by decide) y1
    have q2 : q ≤ 4611686018427387903 := by rw [hq]; exact Int.ediv_le_self y (by decide)
    have hiff : q < x ↔ 4611686018427387903 < x * y := by rw [hq]; exact Int.ediv_lt_iff_lt_mul hy
    have wq : IntKind.i64.wrap q = q := by rw [IntKind.wrap_i64]; omega
    clear hq
    by_cases hl : q < x
    · obtain ⟨e1, e2⟩ := mul_big hb (by have := hiff.1 hl; omega)
      rw [e1, e2]
      clear e1 e2 hb hiff
      go_enter Try.func33, Try.ntmps33
      go_wp2_with fail
      refine (C1'.out _).mono ?_; rintro e w1 ⟨rfl, rfl⟩
      go_wp2_with fail
      refine (C2'.out _).mono ?_; rintro e w2 ⟨rfl, rfl⟩
      go_wp2
      go_ret2
      exact ⟨rfl, G⟩
    · have hlt : x * y < 4611686018427387904 := by
        by_cases h : x * y < 4611686018427387904
        · exact h
        · exact absurd (hiff.2 (by omega)) hl
      obtain ⟨e1, e2⟩ := mul_ok hb hlt
      have hnn : 0 ≤ x * y := Int.mul_nonneg x1 y1
      rw [e1, e2]
      obtain ⟨m, hm⟩ : ∃ m, m = x * y := ⟨_, rfl⟩
      have wm : IntKind.i64.wrap (x * y) = m := by rw [IntKind.wrap_i64, hm]; omega
      rw [← hm]
      clear e1 e2 hb hiff hm hlt hnn
      go_enter Try.func33, Try.ntmps33
      go_wp2_with fail
      refine (C1'.out _).mono ?_; rintro e w1 ⟨rfl, rfl⟩
      go_wp2_with fail
      refine (C2'.out _).mono ?_; rintro e w2 ⟨rfl, rfl⟩
      go_wp2
      go_ret2
      exact ⟨rfl, G⟩
  · obtain rfl : y = 0 := by omega
    obtain ⟨e1, e2⟩ := mul_ok hb (by omega)
    rw [e1, e2]
    clear e1 e2 hb hy
    go_enter Try.func33, Try.ntmps33
    go_wp2_with fail
    refine (C1'.out _).mono ?_; rintro e w1 ⟨rfl, rfl⟩
    go_wp2_with fail
    refine (C2'.out _).mono ?_; rintro e w2 ⟨rfl, rfl⟩
    go_wp2
    go_ret2
    exact ⟨by simp, G⟩
set_option maxHeartbeats 1000000 in
set_option maxRecDepth 100000 in
theorem ceilR_any (x y : Int) (w : World) :
    Calls Try.prog 32 #[.int .i64 x, .int .i64 y] w fun e w' => e = .returned (.tuple #[.int .i64 (ceV x y), .int .i64 (ceE x y)]) ∧ Below w.heap.size w w' := by
  have G := Below.refl w.heap.size w
  have C1 := fun W => rightR_any x W
  have C2 := fun W => rightR_any y W
  cases h1 : rt x
  · obtain ⟨e1, e2⟩ := ceil_wrong (x := x) (y := y) (Or.inl (by rw [h1]; rfl))
    rw [e1, e2]
    rw [h1] at C1
    have C1' := Lib.hid C1
    clear e1 e2 h1 C1 C2
    go_enter Try.func32, Try.ntmps32
    go_wp2_with fail
    refine (C1'.out _).mono ?_; rintro e w1 ⟨rfl, rfl⟩
    go_wp2
    go_ret2
    exact ⟨rfl, G⟩
  rw [h1] at C1
  have C1' := Lib.hid C1
  clear C1
  cases h2 : rt y
  · obtain ⟨e1, e2⟩ := ceil_wrong (x := x) (y := y) (Or.inl (by rw [h2]; simp))
    rw [e1, e2]
    rw [h2] at C2
    have C2' := Lib.hid C2
    clear e1 e2 h1 h2 C2
    go_enter Try.func32, Try.ntmps32
    go_wp2_with fail
    refine (C1'.out _).mono ?_; rintro e w1 ⟨rfl, rfl⟩
    go_wp2_with fail
    refine (C2'.out _).mono ?_; rintro e w2 ⟨rfl, rfl⟩
    go_wp2
    go_ret2
    exact ⟨rfl, G⟩
  rw [h2] at C2
  have C2' := Lib.hid C2
  clear C2
  have ha : (rt x && rt y) = true := by rw [h1, h2]; rfl
  obtain ⟨x1, x2⟩ := rt_iff.1 h1
  obtain ⟨y1, y2⟩ := rt_iff.1 h2
  clear h1 h2
  by_cases hy : y = 0
  · obtain ⟨e1, e2⟩ := ceil_wrong (x := x) (Or.inr hy)
    rw [e1, e2]
    subst hy
    clear e1 e2 ha
    go_enter Try.func32, Try.ntmps32
    go_wp2_with fail
    refine (C1'.out _).mono ?_; rintro e w1 ⟨rfl, rfl⟩
    go_wp2_with fail
    refine (C2'.out _).mono ?_; rintro e w2 ⟨rfl, rfl⟩
    go_wp2
    go_ret2
    exact ⟨rfl, G⟩
  obtain ⟨e1, e2⟩ := ceil_right ha hy
  have hy1 : 1 ≤ y := by omega
  rw [e1, e2]
  have dq : x.tdiv y = x / y := Int.tdiv_eq_ediv_of_nonneg x1
  have dm : x.tmod y = x % y := Int.tmod_eq_emod_of_nonneg x1
  have q1 : 0 ≤ x / y := Int.ediv_nonneg x1 y1
  have q2 : x / y ≤ x := Int.ediv_le_self y x1
  obtain ⟨q, hq⟩ : ∃ q, q = x / y := ⟨_, rfl⟩
  obtain ⟨m, hm⟩ : ∃ m, m = x % y := ⟨_, rfl⟩
  rw [← hq, ← hm]
  rw [← hq] at dq q1 q2
  rw [← hm] at dm
  clear hq hm e1 e2
  have wq : IntKind.i64.wrap q = q := by rw [IntKind.wrap_i64]; omega
  have wq1 : IntKind.i64.wrap (q + 1) = q + 1 := by rw [IntKind.wrap_i64]; omega
  by_cases h0 : 0 < m
  · rw [if_pos h0]
    go_enter Try.func32, Try.ntmps32
    go_wp2_with fail
    refine (C1'.out _).mono ?_; rintro e w1 ⟨rfl, rfl⟩
    go_wp2_with fail
    refine (C2'.out _).mono ?_; rintro e w2 ⟨rfl, rfl⟩
    go_wp2
    go_ret2
    exact ⟨rfl, G⟩
  · rw [if_neg h0]
    go_enter Try.func32, Try.ntmps32
    go_wp2_with fail
    refine (C1'.out _).mono ?_; rintro e w1 ⟨rfl, rfl⟩
    go_wp2_with fail
    refine (C2'.out _).mono ?_; rintro e w2 ⟨rfl, rfl⟩
    go_wp2
    go_ret2
    exact ⟨rfl, G⟩
end Go.Proofs.Ytiibbeigkopkeaa
