/- What is proved here: the contract of ceil.greatest at whatever test. Conditions: rows are not too long; the test answers at each place, and changes nothing. -/
import Derived.Test.YthicoekoeffpaaaRi
namespace Go.Proofs.Ythicoekoeffpaaa
open Go.ChangeShapes Go.WideShapes Go.RowKit

set_option maxHeartbeats 1000000 in
set_option maxRecDepth 100000 in
theorem greatest_any (f : FuncId) (cap : Array Value) (p : Int) (a : Option Addr) (n c : Nat) (l : List Int) (cnt : Nat → Bool) (w : World) (hr : Row w a n l) (hn : n ≤ 140737488355328)
    (hen : ∀ (args : Array Value) (W : World), (callFunc f args).run Try.prog W = .ok (.enter f args) W)
    (hc : ∀ (W : World) (k : Nat), k < n → Below w.heap.size w W → Calls Try.prog f (#[.int .i64 k] ++ cap) W fun e w' => e = .returned (.bool (cnt k)) ∧ Below W.heap.size W w') :
    Calls Try.prog 27 #[.int .i64 p, .slice a n c, .func (.func f) #[] cap] w fun e w' => e = .returned (.int .i64 (gre p l cnt n)) ∧ Below w.heap.size w w' := by
  have HC := Lib.hid hc
  obtain ⟨G, hG⟩ : ∃ G, G = gre p l cnt := ⟨_, rfl⟩
  have HG0 : Hid (G 0 = p) := by rw [hG]; rfl
  have HGl : Hid (∀ k x, l[k]? = some x → x ≤ G k → G (k + 1) = G k) := by intro k x h1 h2; rw [hG] at h2 ⊢; exact gre_low (by rw [getD_of h1]; exact h2)
  have HGt : Hid (∀ k x, l[k]? = some x → cnt k = true → G k < x → G (k + 1) = x) := by intro k x h1 h3 h2; rw [hG] at h2 ⊢; rw [gre_take h3 (by rw [getD_of h1]; exact h2), getD_of h1]
  have HGs : Hid (∀ k, cnt k = false → G (k + 1) = G k) := by intro k h3; rw [hG]; exact gre_skip h3
  rw [← hG]
  clear hc hG
  go_enter Try.func27, Try.ntmps27
  go_wp2
  go_loopw [0, 11] (fun s i wr => ∃ k : Nat, ∃ B : Int, k ≤ n ∧ i = .int .i64 k ∧ s = .int .i64 B ∧ Hid (B = G k) ∧ Below w.heap.size w wr) (fun _ i _ => n - (intOf i).toNat)
  case atStart => exact ⟨0, p, by omega, rfl, rfl, HG0.out.symm, Below.refl _ _⟩
  case round =>
    obtain ⟨k, B, hk, rfl, rfl, HB, hbl⟩ := hrel
    by_cases hlt : k < n
    · obtain ⟨b1, o1, x, rfl, hB1, hx, hc1⟩ := (hr.below hbl).item hlt
      have HX := Lib.hid hx
      clear hx
      have i1 : (0 : Int) ≤ (k : Int) := by omega
      have i2 : (k : Int) < (n : Int) := by omega
      by_cases hgt : B < x
      · have d1 : decide (B < x) = true := decide_eq_true hgt
        obtain ⟨v, hv⟩ : ∃ v, cnt k = v := ⟨_, rfl⟩
        have CE := HC.out wr k hlt hbl
        rw [hv] at CE
        have CE := Lib.hid CE
        have HV := Lib.hid hv
        clear hv
        cases v
        · have HB2 : Hid (B = G (k + 1)) := by show _ = _; rw [HGs.out k HV.out]; exact HB.out
          go_wp2_with (refine CE.out.mono ?_; rintro e w2 ⟨rfl, hb2⟩)
          go_roundw
          case rel => exact ⟨k + 1, B, by omega, by go_num, rfl, HB2, keep_below hbl hb2⟩
          case measure => simp [intOf]; omega
        · have HB2 : Hid (x = G (k + 1)) := by show _ = _; rw [HGt.out k x HX.out HV.out (by rw [← HB.out]; exact hgt)]
          go_wp2_with (refine CE.out.mono ?_; rintro e w2 ⟨rfl, hb2⟩)
          go_roundw
          case rel => exact ⟨k + 1, x, by omega, by go_num, rfl, HB2, keep_below hbl hb2⟩
          case measure => simp [intOf]; omega
      · have d1 : decide (B < x) = false := decide_eq_false hgt
        have HB2 : Hid (B = G (k + 1)) := by show _ = _; rw [HGl.out k x HX.out (by rw [← HB.out]; omega)]; exact HB.out
        go_wp2
        go_roundw
        case rel => exact ⟨k + 1, B, by omega, by go_num, rfl, HB2, hbl⟩
        case measure => simp [intOf]; omega
    · have hkn : k = n := by omega
      subst hkn
      go_wp2
      go_ret
      exact ⟨by rw [← HB.out]; rfl, hbl⟩
end Go.Proofs.Ythicoekoeffpaaa
