/- What is proved here: the walk of the law TypesDeep. Condition: the table of names holds what its initialiser lays ('Nms'). -/
import Derived.Test.YtkkoekfdncoifaaDoorKnown
namespace Go.Proofs.YtkkoekfdncoifaaDoor
open Go.ChangeShapes Go.WideShapes Go.RowKit Go.Maps

/-- Is one of the first k as deep as d? -/
def isd (P : List (List UInt8)) (d : Nat) : Nat → Bool
  | 0 => false
  | k + 1 => isd P d k || (P.getD k []).length == d
theorem isd_of {P : List (List UInt8)} {d i : Nat} (h : (P.getD i []).length = d) : ∀ k, i < k → isd P d k = true
  | 0, hk => by omega
  | k + 1, hk => by
    rw [isd]
    by_cases e : i = k
    · subst e; rw [h]; simp
    · rw [isd_of h k (by omega)]; rfl
set_option maxHeartbeats 2000000 in
set_option maxRecDepth 100000 in
theorem deeps_walk (a : Option Addr) (n c : Nat) (L : List (Int × Int × Int)) (hmx : n ≤ maxLen) (w : World) (hN : Nms w) (hr : RowI w a n L) :
    Calls Tryd.prog 7 #[.slice a n c] w fun e w' => e = .returned (.bool true) ∧ Below w.heap.size w w' := by
  have hm63 : n ≤ 9223372036854775807 := hmx
  have HNm := Lib.hid hN
  have KN := Lib.hid (fun W (h : Below w.heap.size w W) => known_any W (HNm.out.below h))
  by_cases h200 : 200 < n
  · have e1 : decide ((200 : Int) < (n : Int)) = true := by rw [decide_eq_true_iff]; omega
    clear hr hN
    go_enter Tryd.func7, Tryd.ntmps7
    go_wp2_with (go_at_call 8; refine (KN.out _ (Below.refl _ _)).mono ?_; rintro e w1 ⟨rfl, hb1⟩)
    go_ret
    exact ⟨rfl, hb1⟩
  · have e1 : decide ((200 : Int) < (n : Int)) = false := by rw [decide_eq_false_iff_not]; omega
    have cs := stacks_any a n c L w hr hN
    have cd := fun W (h : Below w.heap.size w W) => deep_any a n c L W (hr.below h) (HNm.out.below h)
    unfold GotT at cs
    by_cases h0 : tE L = 0
    · have hP : tA L = tL L := by unfold tA; rw [if_pos h0]
      have hln := can_len (mE_zero (wE_zero (tE_zero h0).1).1).1
      have hle := dp_le (tL_le h0) L.length
      have hd : dA L = dp (tL L) L.length := by unfold dA; rw [if_pos h0]
      have hge := dp_ge (tL L) L.length
      obtain ⟨i0, hi0, hi1⟩ := dp_mem (tL L) L.length hln.1
      have hl := tL_len L
      rw [h0, hP] at cs
      rw [h0, hd] at cd
      have HI := Lib.hid (isd_of hi1 L.length hi0)
      generalize dp (tL L) L.length = d at cd hle hge HI
      have HG := Lib.hid hge
      rw [← hl] at hln HI HG
      generalize tL L = P at cs hln HI HG
      have C := Lib.hid cs
      have CD := Lib.hid cd
      have e16 : decide ((d : Int) ≤ 16) = true := by rw [decide_eq_true_iff]; omega
      clear cs cd h0 hP hr hN hl hd hge hi0 hi1 h200
      go_enter Tryd.func7, Tryd.ntmps7
      go_wp2_with (first | (go_at_call 9; refine C.out.mono ?_; rintro e w1 ⟨a1, n1, c1, rfl, hr1, hb1⟩) | (go_at_call 11; refine (CD.out _ hb1).mono ?_; rintro e w2 ⟨rfl, hb2⟩))
      have HN1 := Lib.hid hr1.1
      have hn1 : n1 ≤ 200 := by rw [hr1.1]; exact hln.2
      have hr2 := hr1.below hb2
      have hbb := keep_below hb1 hb2
      clear hln hr1 C CD hb1 hb2
      go_loopw [7, 8] (fun v i wr => ∃ k : Nat, k ≤ n1 ∧ i = .int .i64 k ∧ v = .bool (isd P d k) ∧ Below w2.heap.size w2 wr) (fun _ i _ => n1 - (intOf i).toNat)
      case atStart => exact ⟨0, by omega, rfl, rfl, Below.refl _ _⟩
      case round =>
        obtain ⟨k, hk, rfl, rfl, hbl⟩ := hrel
        by_cases hlt : k < n1
        · obtain ⟨b, off, rfl, hB, hc⟩ := (hr2.below hbl).at_ hlt
          have hs := bs_size (P.getD k [])
          have hg := HG.out k (by rw [← HN1.out]; exact hlt)
          have HS : Hid (isd P d (k + 1) = (isd P d k || ((bs (P.getD k [])).size == d))) := by show _ = _; rw [isd, hs]
          have hsz : (bs (P.getD k [])).size ≤ d := by rw [hs]; exact hg
          generalize bs (P.getD k []) = S at hc HS hsz
          have e2 : decide ((d : Int) < (S.size : Int)) = false := by rw [decide_eq_false_iff_not]; omega
          clear hs hg
          cases hv : isd P d k
          · rw [hv] at HS
            have e3 : ((S.size : Int) == (d : Int)) = (S.size == d) := by rw [Bool.eq_iff_iff, beq_iff_eq, beq_iff_eq]; omega
            cases h4 : (S.size == d)
            all_goals
              rw [h4] at HS e3
              clear hv
              go_wp2
              go_roundw
              case rel => exact ⟨k + 1, by omega, by go_num, by rw [HS.out]; rfl, hbl⟩
              case measure => simp [intOf]; omega
          · rw [hv] at HS
            clear hv
            go_wp2
            go_roundw
            case rel => exact ⟨k + 1, by omega, by go_num, by rw [HS.out]; rfl, hbl⟩
            case measure => simp [intOf]; omega
        · obtain rfl : k = n1 := by omega
          have hI : isd P d k = true := by rw [HN1.out]; exact HI.out
          rw [hI]
          have h9 := keep_below hbb hbl
          go_wp2_with (go_at_call 8; refine (KN.out _ h9).mono ?_; rintro e w3 ⟨rfl, hb3⟩)
          go_ret
          exact ⟨rfl, keep_below h9 hb3⟩
    · have hd : dA L = 0 := by unfold dA; rw [if_neg h0]
      obtain ⟨x, hx⟩ : ∃ x, x = tE L := ⟨_, rfl⟩
      rw [← hx] at cs h0
      rw [← hx, hd] at cd
      have e2 : (x != 0) = true := by simpa using h0
      have e3 : (x == 0) = false := by simpa using h0
      have e4 : (x == x) = true := by simp
      have C := Lib.hid cs
      have CD := Lib.hid cd
      clear cs cd hr hN hx hd h200
      go_enter Tryd.func7, Tryd.ntmps7
      go_wp2_with (first | (go_at_call 9; refine C.out.mono ?_; rintro e w1 ⟨a1, n1, c1, rfl, hr1, hb1⟩) | (go_at_call 11; refine (CD.out _ hb1).mono ?_; rintro e w2 ⟨rfl, hb2⟩) | (go_at_call 8; refine (KN.out _ (keep_below hb1 hb2)).mono ?_; rintro e w3 ⟨rfl, hb3⟩))
      go_ret
      exact ⟨rfl, keep_below (keep_below hb1 hb2) hb3⟩
end Go.Proofs.YtkkoekfdncoifaaDoor
