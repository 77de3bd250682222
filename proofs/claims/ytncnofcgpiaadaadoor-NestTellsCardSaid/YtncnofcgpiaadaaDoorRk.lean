/- What is proved here: the contract of the document's Locks for layer 6. Conditions: the row is not too long. -/
import Derived.Test.YtncnofcgpiaadaaDoorRl
namespace Go.Proofs.YtncnofcgpiaadaaDoor
open Go.ChangeShapes Go.WideShapes Go.RowKit

set_option maxHeartbeats 2000000 in
set_option maxRecDepth 100000 in
theorem locksR_any (a : Option Addr) (n c : Nat) (L : List (Int × Int × Int)) (w : World) (hr : RowI w a n L) (hn : n ≤ 1000000) :
    Calls Tryd.prog 16 #[.slice a n c] w (GotL (lA L) (lE L) w) := by
  obtain ⟨i0, hi0, hz0, hz1, hz2⟩ := info_parts int_info
  have cw := wholeR_any a n c L w hr hn
  by_cases h0 : wE L = 0
  · have HW := Lib.hid h0
    have HM := Lib.hid (wE_zero h0).1
    have HC := Lib.hid (mE_zero HM.out).1
    have HS := Lib.hid (mE_zero HM.out).2
    have hln := can_len HC.out
    rw [← hr.1] at hln
    obtain ⟨hn1, hn2⟩ := hln
    rw [h0] at cw
    have C := Lib.hid cw
    have HL := Lib.hid hr.1
    clear cw h0
    go_enter Tryd.func16, Tryd.ntmps16
    go_wp2_with (go_at_call 21; refine C.out.mono ?_; rintro e w0 ⟨rfl, hb0⟩)
    have cr := matchR_any a n c L w0 (hr.below hb0) hn
    unfold GotL at cr
    rw [HM.out] at cr
    refine cr.mono ?_
    rintro e w1 ⟨a2, n2, c2, rfl, h1, hb1⟩
    have h3 : Row w1 a2 n2 (mL L) := by unfold mA at h1; rw [if_pos HM.out] at h1; exact h1
    obtain rfl : n2 = n := by have := h3.1; rw [mL_len, ← HL.out] at this; exact this
    have HG := Lib.hid (keep_below hb0 hb1)
    have hr1 := hr.below HG.out
    clear h1 C hb1 hb0 hr cr
    go_wp2
    go_loopw [7, 8] (fun v i wr => ∃ k : Nat, k ≤ n2 ∧ i = .int .i64 k ∧ wr.ownsRow w1.heap.size 3 1 v (lks L k).length ((lks L k).map (Value.int .i64)) ∧ Hid (bds L k = false) ∧ Below w1.heap.size w1 wr) (fun _ i _ => n2 - (intOf i).toNat)
    case atStart => exact ⟨0, by omega, rfl, World.ownsRow_nil _ _ _ _, rfl, Below.refl _ _⟩
    case round =>
      obtain ⟨k, hk, rfl, hown, HD, hbl⟩ := hrel
      have hbs := hbl.size
      by_cases hlt : k < n2
      · have hkL : k < L.length := by rw [← HL.out]; exact hlt
        have cb := badR_any a a2 n2 c c2 L k hlt hn2 HS.out wr (hr1.below hbl) (h3.below hbl)
        have hls := lks_succ hkL
        have hll := lks_len L k
        cases hv : bd L k
        · have HD2 := Lib.hid (bds_next HD.out hv)
          rw [hv] at cb
          have CB := Lib.hid cb
          obtain ⟨b1, o1, p1, p2, p3, rfl, hB1, hx, hc1, hc2, hc3⟩ := (hr1.below hbl).at_ hlt
          have HX := Lib.hid (at_some hx)
          rw [HX.out] at hls
          clear cb hv hx HD
          by_cases h23 : p1 = 23
          · rw [if_pos h23] at hls
            have HLS := Lib.hid hls
            have e23 : (p1 == 23) = true := by simpa using h23
            clear hls h23
            go_wp2_with fail
            refine CB.out.mono ?_
            rintro e w2 ⟨rfl, hb2⟩
            have G2 := keep_below hbl hb2
            have gO := own1_below hown hb2
            have hs2 := hb2.size
            have d1 := keep_cell hb2 hc1
            have d2 := keep_cell hb2 hc2
            clear hown hc1 hc2 hc3
            go_wp2_with (at_builtin; refine wpList_append_own _ rfl _ _ 24 rfl w1.heap.size 3 i0 (.int .i64 0) 1 8 Tryd.underlying24 hi0 hz0 hz1 hz2 rfl (by decide) _ _ _ rfl (gO.alloc _) ⟨w2.heap.size, 0, none⟩ 1 1 [.int .i64 p2] rfl rfl ?c1 ?c2 ?c3 ?c4 ?c5 ?_)
            case c1 =>
              intro j t hj
              match j, hj with
              | 0, hj => simp at hj; subst hj; simp [Addr.add]
            case c2 => intro t ht; simp at ht; subst ht; rfl
            case c3 => unfold maxLen; omega
            case c4 => omega
            case c5 => simp; omega
            · intro v' w5 hown' hgrow _
              have hb5 : Below w1.heap.size w1 w5 := (G2.alloc G2.size _).grown hgrow (by have := G2.size; simp; omega) (fun g hg => (gO.lt g hg).1)
              have hown2 : w5.ownsRow w1.heap.size 3 1 v' (lks L (k + 1)).length ((lks L (k + 1)).map (Value.int .i64)) := by
                rw [HLS.out, List.map_append, List.length_append]; exact hown'
              clear hown' hgrow gO
              go_wp2
              go_roundw
              case rel => exact ⟨k + 1, by omega, by go_num, hown2, HD2, hb5⟩
              case measure => simp [intOf]; omega
          · rw [if_neg h23] at hls
            rw [← hls] at hown
            have e23 : (p1 == 23) = false := by simpa using h23
            clear hls h23
            go_wp2_with fail
            refine CB.out.mono ?_
            rintro e w2 ⟨rfl, hb2⟩
            have G2 := keep_below hbl hb2
            have gO := own1_below hown hb2
            have d1 := keep_cell hb2 hc1
            clear hown hc1 hc2 hc3
            go_wp2
            go_roundw
            case rel => exact ⟨k + 1, by omega, by go_num, gO, HD2, G2⟩
            case measure => simp [intOf]; omega
        · have HE := Lib.hid (lE_bad HW.out (bds_bad hkL hv))
          rw [hv] at cb
          have CB := Lib.hid cb
          clear cb hv HD hls hown
          go_wp2_with fail
          refine CB.out.mono ?_
          rintro e w2 ⟨rfl, hb2⟩
          go_wp2
          go_ret2
          refine ⟨none, 0, 0, by rw [HE.out]; rfl, ?_, keep_below HG.out (keep_below hbl hb2)⟩
          unfold lA; rw [if_neg (by rw [HE.out]; decide)]; exact Row.nil _ _
      · have hkn : k = n2 := by omega
        have HE := Lib.hid (lE_of HW.out (by rw [← HL.out, ← hkn]; exact HD.out))
        have HK : Hid (lks L k = lA L) := by show _ = _; unfold lA; rw [if_pos HE.out, ← HL.out, hkn]
        obtain ⟨a5, n5, c5, rfl, hR⟩ := Row.own hown
        rw [HK.out] at hR
        clear hown hkn
        go_wp2
        go_ret2
        exact ⟨_, _, _, by rw [HE.out]; rfl, hR, keep_below HG.out hbl⟩
  · have HQ : Hid (lA L = []) := by show _ = _; unfold lA; rw [lE_err h0, if_neg h0]
    have HE := Lib.hid (lE_err h0)
    obtain ⟨x, hx⟩ : ∃ x, x = wE L := ⟨_, rfl⟩
    rw [← hx] at cw HE
    have e1 : (x != 0) = true := by rw [hx]; simpa using h0
    have e2 : (x == 0) = false := by rw [hx]; simpa using h0
    have C := Lib.hid cw
    clear cw h0 hx hr hi0 hz0 hz1 hz2
    go_enter Tryd.func16, Tryd.ntmps16
    go_wp2_with (go_at_call 21; refine C.out.mono ?_; rintro e w1 ⟨rfl, hb⟩)
    go_ret2
    refine ⟨_, _, _, by rw [HE.out]; rfl, ?_, hb⟩
    rw [HQ.out]; exact Row.nil _ _
end Go.Proofs.YtncnofcgpiaadaaDoor
