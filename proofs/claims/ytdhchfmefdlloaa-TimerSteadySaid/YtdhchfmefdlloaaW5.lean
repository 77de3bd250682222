/- What is proved here: the walk of the law TimerSteady. Conditions: the row is not too long, the number is a small one. -/
import Derived.Test.YtdhchfmefdlloaaKn
namespace Go.Proofs.Ytdhchfmefdlloaa
open Go.ChangeShapes Go.WideShapes Go.RowKit Go.Maps

theorem Row.items {w W : World} {a : Option Addr} {n k : Nat} {l : List Int} (h : Row w a n l) (hb : Below w.heap.size w W) (hk : k < n) : ∃ b off x, a = some ⟨b, off, none⟩ ∧ b < w.heap.size ∧ l[k]? = some x ∧ W.cell? ⟨b, off + k, none⟩ = some (.int .i64 x) := by
  obtain ⟨b, off, x, e, hlt, hx, hc⟩ := h.item hk
  exact ⟨b, off, x, e, hlt, hx, keep_cell hb hc⟩
theorem st_step {s p : Int} {l r : List Int} {i : Int} (h : l = p :: r) : stL s l i = if s % p = 0 then (i, s) :: stL s r (i + 1) else stL s r (i + 1) := by rw [h]; rfl
set_option maxHeartbeats 8000000 in
set_option maxRecDepth 100000 in
theorem steady_walk (a : Option Addr) (n c : Nat) (l : List Int) (sl : Int) (w : World) (hr : Row w a n l) (hn : n ≤ 140737488355328) (hsl : 0 ≤ sl ∧ sl ≤ 255) :
    Calls Try.prog 7 #[.slice a n c, .int .u8 sl] w fun e w' => e = .returned (.bool true) ∧ Below w.heap.size w w' := by
  obtain rfl : n = l.length := hr.1
  have hq1 := eqp_nil
  have KN := Lib.hid known_any
  by_cases hok : okPz l = true
  · obtain ⟨⟨p1, p2⟩, p3⟩ := okPz_iff.1 hok
    have CN := Lib.hid (new_yes a l.length c l w hr hok)
    have HR := Lib.hid hr
    have HP3 := Lib.hid p3
    clear hr hok p3
    go_enter Try.func7, Try.ntmps7
    go_wp2_with (go_at_call 11; refine CN.out.mono ?_; rintro e w1 ⟨b, F0, rfl, ht, hF, hb1⟩; have HT := Lib.hid ht; have HF := Lib.hid hF; have HB1 := Lib.hid hb1; clear ht hF hb1)
    go_loopw [7] (fun s wr => ∃ (k n' : Nat) (F : Nat → Prop), (k : Int) ≤ sl ∧ s = .int .i64 k ∧ n' ≤ 8 * k ∧ Tim F wr b l k [] n' ∧ (∀ g, F g → w.heap.size ≤ g) ∧ Below w.heap.size w wr) (fun s _ => (sl.toNat) - (intOf s).toNat)
    case atStart => exact ⟨0, 0, F0, hsl.1, rfl, Nat.le_refl _, HT.out, HF.out, HB1.out⟩
    case round =>
      obtain ⟨k, n', F, hk, rfl, hn', ht, hF, hbl⟩ := hrel
      have HTK := Lib.hid ht
      have HFK := Lib.hid hF
      have HBL := Lib.hid hbl
      clear ht hF hbl
      by_cases hlt : (k : Int) < sl
      · have CT := Lib.hid (tick_v HTK.out (by omega) (by omega) (Row.nil wr none) (Nat.le_refl 0) (by omega) (fun h => absurd h (Nat.lt_irrefl 0)) (told_steady l k) rfl (tick_steady l k) (now2 := ((k + 1 : Nat) : Int)) rfl rfl)
        have hDl : (stL (k : Int) l 0).length ≤ 1000 := by
          have := told_len l (k : Int) [] []
          rw [told_steady] at this
          simp at this
          omega
        obtain ⟨D, hD⟩ : ∃ D, stL (k : Int) l 0 = D := ⟨_, rfl⟩
        rw [hD] at CT hDl
        have HD := Lib.hid hD
        clear hD
        go_wp2_with (go_at_call 14; refine CT.out.mono ?_; rintro e w2 ⟨F2, a2, c2, rfl, hr2, ht2, hF2, hx2⟩; have R2 := Lib.hid hr2; have T2 := Lib.hid ht2; have HF2 := Lib.hid hF2; have X2 := Lib.hid hx2; clear hr2 ht2 hF2 hx2)
        have HB2 : Hid (Below w.heap.size w w2) := HBL.out.trans (X2.out.below HBL.out.size HFK.out)
        go_loopw [9, 10] (fun q i wr => ∃ (kk ii : Nat), ii ≤ l.length ∧ kk ≤ D.length ∧ q = .int .i64 kk ∧ i = .int .i64 ii ∧ Hid (D.drop kk = stL (k : Int) (l.drop ii) ii) ∧ w2 = wr) (fun _ i _ => l.length - (intOf i).toNat)
        case atStart => exact ⟨0, 0, Nat.zero_le _, Nat.zero_le _, rfl, rfl, HD.out.symm, rfl⟩
        case round =>
          obtain ⟨kk, ii, hii, hkk, rfl, rfl, hdr, rfl⟩ := hrel
          by_cases hi : ii < l.length
          · obtain ⟨b1, o1, p, rfl, hB1, hx, hcp⟩ := HR.out.items HB2.out hi
            have hpp := HP3.out p (List.mem_of_getElem? hx)
            have HS := Lib.hid (st_step (s := (k : Int)) (i := (ii : Int)) (take_cons_drop hx))
            clear hx
            by_cases hq : (k : Int) % p = 0
            · have hqb : ((k : Int) % p == 0) = true := by simp [hq]
              have hd1 : D.drop kk = (((ii : Int), (k : Int))) :: stL (k : Int) (l.drop (ii + 1)) ((ii : Int) + 1) := by rw [hdr.out, HS.out, if_pos hq]
              have hkl : kk < D.length := by
                rcases Nat.lt_or_ge kk D.length with h1 | h1
                · exact h1
                · rw [List.drop_eq_nil_of_le h1] at hd1; cases hd1
              have hx2 : D[kk]? = some ((ii : Int), (k : Int)) := by
                have := congrArg (fun m => m[0]?) hd1
                simpa using this
              have HD2 : Hid (D.drop (kk + 1) = stL (k : Int) (l.drop (ii + 1)) ((ii : Int) + 1)) := by
                show _ = _
                have := congrArg List.tail hd1
                simpa using this
              obtain ⟨b2, o2, y, rfl, hB2', hy, h0, h1⟩ := R2.out.1.item (Below.refl _ _) hkl
              rw [hx2] at hy
              obtain rfl := Option.some.inj hy
              simp only at h0 h1
              have hkl2 : ¬ ((D.length : Int) ≤ (kk : Int)) := by omega
              clear hd1 hx2 hy hdr
              go_wp2
              go_roundw
              case rel => exact ⟨kk + 1, ii + 1, by omega, by omega, by go_num, by go_num, HD2, by trivial⟩
              case measure => simp [intOf]; omega
            · have hqb : ((k : Int) % p == 0) = false := by simp [hq]
              have HD2 : Hid (D.drop kk = stL (k : Int) (l.drop (ii + 1)) ((ii : Int) + 1)) := by show _ = _; rw [hdr.out, HS.out, if_neg hq]
              clear hdr
              go_wp2
              go_roundw
              case rel => exact ⟨kk, ii + 1, by omega, hkk, by go_num, by go_num, HD2, by trivial⟩
              case measure => simp [intOf]; omega
          · have hii2 : ii = l.length := by omega
            have hd0 : D.drop kk = [] := by rw [hdr.out, List.drop_eq_nil_of_le (by omega)]; rfl
            have hke : kk = D.length := by
              have := congrArg List.length hd0
              simp at this
              omega
            have CW := Lib.hid (waiting_v T2.out (by omega) wait_nil rfl)
            clear hdr hd0
            subst hke
            go_wp2_with (go_at_call 18; refine CW.out.mono ?_; rintro e w3 ⟨a3, c3, rfl, hr3, hb3⟩; have HB3 := Lib.hid hb3; clear hr3 hb3)
            have T3 := Lib.hid (T2.out.below HB3.out)
            have B3 := Lib.hid (keep_below HB2.out HB3.out)
            have hG : Hid (∀ g, F2 g → w.heap.size ≤ g) := fun g hg => by
              rcases HF2.out g hg with h1 | h1
              · exact HFK.out g h1
              · exact Nat.le_trans HBL.out.size h1
            go_roundw
            case rel => exact ⟨k + 1, n' + l.length, F2, by omega, by go_num, by omega, T3.out, hG.out, B3.out⟩
            case measure => simp [intOf]; omega
      · go_wp2_with (go_at_call 10; refine (KN.out _).mono ?_; rintro e w2 ⟨rfl, hb2⟩; have HB2 := Lib.hid (keep_below HBL.out hb2); clear hb2)
        go_ret
        exact ⟨rfl, HB2.out⟩
  · have hokf : okPz l = false := by simpa using hok
    have CN := Lib.hid (new_no a l.length c l w hr hn hokf)
    clear hr hok hokf
    go_enter Try.func7, Try.ntmps7
    go_wp2_with (first
      | (go_at_call 11; refine CN.out.mono ?_; rintro e w1 ⟨rfl, hb1⟩; have HB1 := Lib.hid hb1; clear hb1)
      | (go_at_call 10; refine (KN.out _).mono ?_; rintro e w2 ⟨rfl, hb2⟩; have HB2 := Lib.hid (keep_below HB1.out hb2); clear hb2))
    go_ret
    exact ⟨rfl, HB2.out⟩
end Go.Proofs.Ytdhchfmefdlloaa
