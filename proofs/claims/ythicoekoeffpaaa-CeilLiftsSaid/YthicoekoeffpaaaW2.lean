/- What is proved here: the walk of the law CeilLifts. Conditions: the numbers fit 64 bits; the row is not too long. -/
import Derived.Test.YthicoekoeffpaaaKw
import Derived.Test.YthicoekoeffpaaaR5
namespace Go.Proofs.Ythicoekoeffpaaa
open Go.ChangeShapes Go.WideShapes Go.RowKit

theorem acV_or (p : Int) {h m : Int} (hh : Fit h) (hm : Fit m) (l : List Int) : acV p h l ≤ acV p (bits .or .i64 h m) l := by
  unfold acV gre
  refine maxF_sub fun x hx => ?_
  rw [grL_mem] at hx ⊢
  obtain ⟨k, h1, h2, h3⟩ := hx
  exact ⟨k, h1, by rw [bit_or hh.1 hh.2 hm.1 hm.2 (by omega), h2]; rfl, h3⟩
theorem acV_first (p h : Int) (l : List Int) : p ≤ acV p h l := gre_first _ _ _ _
theorem acV_most (p h : Int) (l : List Int) : acV p h l ≤ maxF p l := by
  unfold acV gre
  refine maxF_sub fun x hx => ?_
  rw [grL_mem] at hx
  obtain ⟨k, h1, _, h3⟩ := hx
  have hk : k < l.length := by omega
  rw [← h3, List.getD_eq_getElem?_getD, List.getElem?_eq_getElem hk]
  exact List.getElem_mem hk
theorem acV_zero (p : Int) (l : List Int) : acV p 0 l = p := by
  unfold acV gre
  refine maxF_low fun x hx => ?_
  rw [grL_mem] at hx
  obtain ⟨k, _, h2, _⟩ := hx
  unfold bitOf at h2
  rw [Int.zero_ediv] at h2
  simp at h2
theorem maxF_take {p : Int} {l : List Int} {k : Nat} {x : Int} (h : l[k]? = some x) : maxF p (l.take (k + 1)) = max (maxF p (l.take k)) x := by
  rw [take_cat h, maxF_snoc]
set_option maxHeartbeats 4000000 in
set_option maxRecDepth 100000 in
theorem lifts_walk (x y z : Int) (a : Option Addr) (n c : Nat) (l : List Int) (w : World) (hr : Row w a n l) (hn : n ≤ 140737488355328) (hnc : n ≤ c) (_ : -9223372036854775808 ≤ x ∧ x ≤ 9223372036854775807) (hy : -9223372036854775808 ≤ y ∧ y ≤ 9223372036854775807) (hz : -9223372036854775808 ≤ z ∧ z ≤ 9223372036854775807) :
    Calls Try.prog 4 #[.agg #[.int .i64 x, .int .i64 y, .int .i64 z], .slice a n c] w fun e w' => e = .returned (.bool true) ∧ Below w.heap.size w w' := by
  have CK := Lib.hid (fun W => known_any W)
  have I1 := Lib.hid (One.new w #[.int .i64 x, .int .i64 y, .int .i64 z] 33)
  have d0 := I1.out.2 0 _ rfl
  have d1 := I1.out.2 1 _ rfl
  have d2 := I1.out.2 2 _ rfl
  by_cases h100 : n ≤ 100
  · have q0 : ¬ (100 : Int) < (n : Int) := by omega
    have hyf : Fit y := hy
    have hzf : Fit z := hz
    obtain ⟨m, hm⟩ : ∃ m, bits .or .i64 y z = m := ⟨_, rfl⟩
    obtain ⟨r1, h1⟩ : ∃ r, acV x y l = r := ⟨_, rfl⟩
    obtain ⟨r2, h2⟩ : ∃ r, acV x m l = r := ⟨_, rfl⟩
    obtain ⟨mo, hmo⟩ : ∃ r, maxF x l = r := ⟨_, rfl⟩
    have f1 : r1 ≤ r2 := by rw [← h1, ← h2, ← hm]; exact acV_or x hyf hzf l
    have f2 : x ≤ r1 := by rw [← h1]; exact acV_first x y l
    have f3 : r2 ≤ mo := by rw [← h2, ← hmo]; exact acV_most x m l
    have CA1 := Lib.hid (fun W (hb : Below w.heap.size w W) => active_any x y a n c l W (hr.below hb) hn hnc r1 h1)
    have CA2 := Lib.hid (fun W (hb : Below w.heap.size w W) => active_any x m a n c l W (hr.below hb) hn hnc r2 h2)
    have CA0 := Lib.hid (fun W (hb : Below w.heap.size w W) => active_any x 0 a n c l W (hr.below hb) hn hnc x (acV_zero x l))
    have CR := Lib.hid (fun W (hb : Below w.heap.size w W) => activeR_any x y a n c l W (hr.below hb) hn hyf r1 h1)
    have HM := Lib.hid hm
    have HMO := Lib.hid hmo
    have hL := Lib.hid hr.1
    clear hm h1 h2 hmo hyf hzf hy hz
    go_enter Try.func4, Try.ntmps4
    go_wp2_with (go_at_call 20; fail)
    refine (CA1.out _ I1.out.1).mono ?_
    rintro e w1 ⟨rfl, hb1⟩
    have b1 := keep_below I1.out.1 hb1
    clear d0 d1 d2 I1 hb1
    have hm' := HM.out
    go_wp2_with (go_at_call 20; fail)
    try rw [HM.out]
    refine (CA2.out _ b1).mono ?_
    rintro e w2 ⟨rfl, hb2⟩
    have b2 := Lib.hid (keep_below b1 hb2)
    clear b1 hb2 hm'
    go_wp2
    go_loopw [10, 11] (fun s i wr => ∃ (k : Nat) (M : Int), k ≤ n ∧ i = .int .i64 k ∧ s = .int .i64 M ∧ Hid (M = maxF x (l.take k)) ∧ wr = w2) (fun _ i _ => n - (intOf i).toNat)
    case atStart => exact ⟨0, x, by omega, rfl, rfl, rfl, rfl⟩
    case round =>
      obtain ⟨k, M, hk, rfl, rfl, HA, rfl⟩ := hrel
      by_cases hlt : k < n
      · obtain ⟨b1, o1, v, rfl, hB1, hx, hc1⟩ := (hr.below b2.out).item hlt
        have HS : Hid (max M v = maxF x (l.take (k + 1))) := by show _ = _; rw [maxF_take hx, HA.out]
        have i1 : (0 : Int) ≤ (k : Int) := by omega
        have i2 : (k : Int) < (n : Int) := by omega
        clear hx HA
        go_wp2
        go_roundw
        case rel => exact ⟨k + 1, max M v, by omega, by go_num, rfl, HS, by trivial⟩
        case measure => simp [intOf]; omega
      · obtain rfl : n = k := by omega
        have HE : M = mo := by rw [HA.out, ← HMO.out, List.take_of_length_le (by rw [hL.out]; exact Nat.le_refl _)]
        subst HE
        clear HA HMO
        have g1 : decide (r1 ≤ r2) = true := decide_eq_true f1
        have g2 : decide (x ≤ r1) = true := decide_eq_true f2
        have g3 : decide (r2 ≤ M) = true := decide_eq_true f3
        have g4 : (r1 == r1) = true := by simp
        have g5 : (x == x) = true := by simp
        go_wp2_with (go_at_call 21; fail)
        refine (CR.out _ b2.out).mono ?_
        rintro e w3 ⟨rfl, rfl⟩
        go_wp2_with (go_at_call 20; fail)
        refine (CA0.out _ b2.out).mono ?_
        rintro e w4 ⟨rfl, hb4⟩
        have b4 := keep_below b2.out hb4
        go_wp2_with (go_at_call 11; fail)
        refine (CK.out _).mono ?_
        rintro e w5 ⟨rfl, hb5⟩
        go_wp2
        go_ret
        exact ⟨rfl, keep_below b4 hb5⟩
  · have q0 : (100 : Int) < (n : Int) := by omega
    clear hr
    go_enter Try.func4, Try.ntmps4
    go_wp2_with (go_at_call 11; fail)
    refine (CK.out _).mono ?_
    rintro e w1 ⟨rfl, hb1⟩
    go_wp2
    go_ret
    exact ⟨rfl, keep_below I1.out.1 hb1⟩
end Go.Proofs.Ythicoekoeffpaaa
