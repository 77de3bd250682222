/- What is proved here: contracts of the document's Right and ceiling. Conditions: rows are not too long. -/
import Derived.Test.YthicoekoeffpaaaR1
namespace Go.Proofs.Ythicoekoeffpaaa
open Go.ChangeShapes Go.WideShapes Go.RowKit

set_option maxHeartbeats 1000000 in
set_option maxRecDepth 100000 in
theorem rightR_any (B : Int) (a : Option Addr) (n c : Nat) (L : List UsP) (w : World) (hr : RowU w a n L) (hn : n ≤ 140737488355328) (r : Bool) (hq : okL B L = r) :
    Calls Try.prog 13 #[.int .i64 B, .slice a n c] w fun e w' => e = .returned (.bool r) ∧ Below w.heap.size w w' := by
  have HL := Lib.hid hr.1
  have HS : Hid ((inB B 0 8 && (decide (n ≤ 8) && (L.drop 0).all (okU B))) = r) := by
    show _ = _
    rw [← hq]; unfold okL; rw [hr.1]; rfl
  clear hq
  go_enter Try.func13, Try.ntmps13
  go_wp2
  go_loopw [5] (fun i wr => ∃ k : Nat, k ≤ n ∧ i = .int .i64 k ∧ Hid ((inB B 0 8 && (decide (n ≤ 8) && (L.drop k).all (okU B))) = r) ∧ Below w.heap.size w wr) (fun i _ => n - (intOf i).toNat)
  case atStart => exact ⟨0, by omega, rfl, HS, Below.refl _ _⟩
  case round =>
    obtain ⟨k, hk, rfl, HA, hbl⟩ := hrel
    by_cases hlt : k < n
    · obtain ⟨b1, o1, u, xa, xn, xc, la, ln, lc, rfl, hB1, hx, ⟨hX, hXm⟩, ⟨hE, hEm⟩, h0, h1, h2⟩ := hr.item hbl hlt
      have HE := Lib.hid (all_step (f := okU B) hx)
      clear hx
      have i1 : (0 : Int) ≤ (k : Int) := by omega
      have i2 : (k : Int) < (n : Int) := by omega
      obtain ⟨v, hv⟩ : ∃ v, okU B u = v := ⟨_, rfl⟩
      have CE := Lib.hid (oneR_any B u.pr xa xn xc la ln lc u wr rfl (hX.below hbl) hXm (hE.below hbl) hEm v hv)
      have HV := Lib.hid hv
      clear hv hX hE
      cases v
      · have HR : Hid (r = false) := by show _ = _; rw [← HA.out, HE.out, HV.out]; simp
        clear HA HE
        go_wp2_with (go_at_call 26; refine CE.out.mono ?_; rintro e w2 ⟨rfl, hb2⟩)
        go_ret
        exact ⟨by rw [HR.out]; rfl, keep_below hbl hb2⟩
      · have HA2 : Hid ((inB B 0 8 && (decide (n ≤ 8) && (L.drop (k + 1)).all (okU B))) = r) := by have := HA.out; rw [HE.out, HV.out] at this; exact this
        clear HA HE
        go_wp2_with (go_at_call 26; refine CE.out.mono ?_; rintro e w2 ⟨rfl, hb2⟩)
        go_roundw
        case rel => exact ⟨k + 1, by omega, by go_num, HA2, keep_below hbl hb2⟩
        case measure => simp [intOf]; omega
    · obtain rfl : n = k := by omega
      have HR : Hid ((inB B 0 8 && decide (n ≤ 8)) = r) := by
        show _ = _
        rw [← HA.out, List.drop_of_length_le (by rw [HL.out]; exact Nat.le_refl _)]; simp
      clear HA
      by_cases h1 : 0 ≤ B
      · have q1 : decide (0 ≤ B) = true := decide_eq_true h1
        by_cases h2 : B ≤ 8
        · have q2 : decide (B ≤ 8) = true := decide_eq_true h2
          by_cases h3 : n ≤ 8
          · have h3i : (n : Int) ≤ 8 := by omega
            have HR3 : Hid (r = true) := by show _ = _; rw [← HR.out, inB_iff.2 ⟨h1, h2⟩, decide_eq_true h3]; rfl
            go_wp2
            go_ret
            exact ⟨by rw [HR3.out]; simp, hbl⟩
          · have h3i : ¬ (n : Int) ≤ 8 := by omega
            have HR3 : Hid (r = false) := by show _ = _; rw [← HR.out, decide_eq_false h3, Bool.and_false]
            go_wp2
            go_ret
            exact ⟨by rw [HR3.out]; simp, hbl⟩
        · have q2 : decide (B ≤ 8) = false := decide_eq_false h2
          have HR3 : Hid (r = false) := by show _ = _; rw [← HR.out, inB_f (by omega)]; rfl
          go_wp2
          go_ret
          exact ⟨by rw [HR3.out]; rfl, hbl⟩
      · have q1 : decide (0 ≤ B) = false := decide_eq_false h1
        have HR3 : Hid (r = false) := by show _ = _; rw [← HR.out, inB_f (by omega)]; rfl
        go_wp2
        go_ret
        exact ⟨by rw [HR3.out]; rfl, hbl⟩
theorem ceB_step {L : List UsP} {k : Nat} {u : UsP} (h : L[k]? = some u) (b : Int) : ceB (L.take (k + 1)) b = if u.bl.contains b = true then max (ceB (L.take k) b) u.pr else ceB (L.take k) b := by
  rw [take_cat h, ceB_snoc]
theorem has_step {l : List Int} {k : Nat} {x : Int} (h : l[k]? = some x) (b : Int) : (l.take (k + 1)).contains b = ((l.take k).contains b || (b == x)) := by
  rw [take_cat h, List.contains_append, List.contains_cons, List.contains_nil, Bool.or_false]
set_option maxHeartbeats 1000000 in
set_option maxRecDepth 100000 in
theorem ceilingR_any (b : Int) (a : Option Addr) (n c : Nat) (L : List UsP) (w : World) (hr : RowU w a n L) (hn : n ≤ 140737488355328) (r : Int) (hq : ceB L b = r) :
    Calls Try.prog 30 #[.int .i64 b, .slice a n c] w fun e w' => e = .returned (.int .i64 r) ∧ w' = w := by
  have HL := Lib.hid hr.1
  have HQ := Lib.hid hq
  clear hq
  go_enter Try.func30, Try.ntmps30
  go_wp2
  go_loopw [5, 6] (fun s i wr => ∃ (k : Nat) (N : Int), k ≤ n ∧ i = .int .i64 k ∧ s = .int .i64 N ∧ Hid (N = ceB (L.take k) b) ∧ wr = w) (fun _ i _ => n - (intOf i).toNat)
  case atStart => exact ⟨0, 0, by omega, rfl, rfl, rfl, rfl⟩
  case round =>
    obtain ⟨k, N, hk, rfl, rfl, HA, rfl⟩ := hrel
    by_cases hlt : k < n
    · obtain ⟨b1, o1, u, xa, xn, xc, la, ln, lc, rfl, hB1, hx, ⟨hX, hXm⟩, _, h0, h1, h2⟩ := hr.item (Below.refl _ _) hlt
      have HE := Lib.hid (ceB_step hx b)
      have HXl := Lib.hid hX.1
      clear hx
      have i1 : (0 : Int) ≤ (k : Int) := by omega
      have i2 : (k : Int) < (n : Int) := by omega
      go_wp2
      go_loopw [5, 7] (fun s i wq => ∃ (j : Nat) (M : Int), j ≤ xn ∧ i = .int .i64 j ∧ s = .int .i64 M ∧ Hid (M = if (u.bl.take j).contains b = true then max N u.pr else N) ∧ wq = wr) (fun _ i _ => xn - (intOf i).toNat)
      case atStart => exact ⟨0, N, by omega, rfl, rfl, rfl, rfl⟩
      case round =>
        obtain ⟨j, M, hj, rfl, rfl, HB, rfl⟩ := hrel
        by_cases hlt2 : j < xn
        · obtain ⟨b2, o2, x, rfl, hB2, hy, hc1⟩ := hX.item hlt2
          have HS := Lib.hid (has_step hy b)
          clear hy
          have j1 : (0 : Int) ≤ (j : Int) := by omega
          have j2 : (j : Int) < (xn : Int) := by omega
          by_cases hv : x = b
          · subst hv
            have HB2 : Hid (max M u.pr = if (u.bl.take (j + 1)).contains x = true then max N u.pr else N) := by
              show _ = _
              rw [HS.out, beq_self_eq_true, Bool.or_true, if_pos rfl, HB.out]
              split <;> omega
            clear HB HS
            go_wp2
            go_roundw
            case rel => exact ⟨j + 1, max M u.pr, by omega, by go_num, rfl, HB2, by trivial⟩
            case measure => simp [intOf]; omega
          · have HB2 : Hid (M = if (u.bl.take (j + 1)).contains b = true then max N u.pr else N) := by
              show _ = _
              rw [HS.out, show (b == x) = false from beq_eq_false_iff_ne.2 (Ne.symm hv), Bool.or_false]; exact HB.out
            clear HB HS
            go_wp2
            go_roundw
            case rel => exact ⟨j + 1, M, by omega, by go_num, rfl, HB2, by trivial⟩
            case measure => simp [intOf]; omega
        · obtain rfl : xn = j := by omega
          have HA2 : Hid (M = ceB (L.take (k + 1)) b) := by
            show _ = _
            rw [HE.out, HB.out, ← HA.out, List.take_of_length_le (by rw [HXl.out]; exact Nat.le_refl _)]
          clear HB
          go_wp2
          go_roundw
          case rel => exact ⟨k + 1, M, by omega, by go_num, rfl, HA2, by trivial⟩
          case measure => simp [intOf]; omega
    · obtain rfl : n = k := by omega
      have HR : Hid (N = r) := by show _ = _; rw [HA.out, ← HQ.out, List.take_of_length_le (by rw [HL.out]; exact Nat.le_refl _)]
      clear HA
      go_wp2
      go_ret
      exact ⟨by rw [← HR.out]; rfl, rfl⟩
end Go.Proofs.Ythicoekoeffpaaa
