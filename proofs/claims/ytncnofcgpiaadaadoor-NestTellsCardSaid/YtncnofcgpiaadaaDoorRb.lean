/- What is proved here: the contract of the document's Held for layer 6. Conditions: the row is not too long. -/
import Derived.Test.YtncnofcgpiaadaaDoorRw
namespace Go.Proofs.YtncnofcgpiaadaaDoor
open Go.ChangeShapes Go.WideShapes Go.RowKit

/-- Is one of the first k instructions a lock of a block, in which a place stands? -/
def lkf (L : List (Int × Int × Int)) (i : Nat) (b : Int) (k : Nat) : Bool := (List.range k).any fun t => (at_ L t).1 == 23 && ((at_ L t).2.1 == b && wi L t i)
theorem lkf_succ (L : List (Int × Int × Int)) (i : Nat) (b : Int) (k : Nat) : lkf L i b (k + 1) = (lkf L i b k || ((at_ L k).1 == 23 && ((at_ L k).2.1 == b && wi L k i))) := by
  unfold lkf; rw [List.range_succ, List.any_append]; simp
theorem lkf_end (L : List (Int × Int × Int)) (i : Nat) (b : Int) : lkf L i b i = lkd L (sk L i) b := by
  rw [Bool.eq_iff_iff]
  unfold lkf lkd
  rw [List.any_eq_true, List.any_eq_true]
  constructor
  · rintro ⟨t, _, h⟩
    simp only [Bool.and_eq_true] at h
    exact ⟨t, wi_iff.1 h.2.2, by simp only [Bool.and_eq_true]; exact ⟨h.1, h.2.1⟩⟩
  · rintro ⟨t, ht, h⟩
    simp only [Bool.and_eq_true] at h
    exact ⟨t, by simpa using sk_lt ht, by simp only [Bool.and_eq_true]; exact ⟨h.1, h.2, wi_iff.2 ht⟩⟩
theorem lkd_test {L : List (Int × Int × Int)} (h : Blk8 L) (s : List Nat) (b : Nat) : lkd L s b = (hb L s).testBit b := by
  rw [hb_test]
  unfold lkd
  congr 1; funext t
  by_cases e : (at_ L t).1 = 23
  · have := h t e
    have h2 : ((at_ L t).1 == 23) = true := by simpa using e
    rw [h2, Bool.true_and, Bool.true_and, Bool.eq_iff_iff, beq_iff_eq, beq_iff_eq]; omega
  · have h2 : ((at_ L t).1 == 23) = false := by simpa using e
    rw [h2]; rfl
theorem mod_next {L : List (Int × Int × Int)} (h : Blk8 L) (i b : Nat) : hb L (sk L i) % 2 ^ (b + 1) = hb L (sk L i) % 2 ^ b + if lkf L i b i = true then 2 ^ b else 0 := by
  rw [lkf_end, lkd_test h, Nat.mod_pow_succ, Nat.testBit_eq_decide_div_mod_eq]
  have h2 := Nat.mod_two_eq_zero_or_one (hb L (sk L i) / 2 ^ b)
  rcases h2 with h2 | h2
  · rw [h2]; simp
  · rw [h2]; simp
theorem mod_end {L : List (Int × Int × Int)} (h : Blk8 L) (i : Nat) : hb L (sk L i) % 2 ^ 8 = hb L (sk L i) := Nat.mod_eq_of_lt (hb_lt h _)

set_option maxHeartbeats 4000000 in
set_option maxRecDepth 100000 in
theorem heldR_any (a : Option Addr) (n c : Nat) (L : List (Int × Int × Int)) (w : World) (hr : RowI w a n L) (hn : n ≤ 1000000) :
    Calls Tryd.prog 18 #[.slice a n c] w (GotL (hdA L) (mE L) w) := by
  obtain ⟨i0, hi0, hz0, hz1, hz2⟩ := info_parts int_info
  have cr := matchR_any a n c L w hr hn
  unfold GotL at cr
  by_cases h0 : mE L = 0
  · have HC := Lib.hid (mE_zero h0).1
    have HS := Lib.hid (mE_zero h0).2
    have HB8 := Lib.hid (can_blk HC.out)
    have hln := can_len HC.out
    rw [← hr.1] at hln
    obtain ⟨hn1, hn2⟩ := hln
    rw [h0] at cr
    have C := Lib.hid cr
    have HL := Lib.hid hr.1
    have H0 := Lib.hid h0
    clear cr h0
    go_enter Tryd.func18, Tryd.ntmps18
    go_wp2_with (go_at_call 12; refine C.out.mono ?_; rintro e w1 ⟨a2, n2, c2, rfl, h1, hb1⟩)
    have h3 : Row w1 a2 n2 (mL L) := by unfold mA at h1; rw [if_pos H0.out] at h1; exact h1
    obtain rfl : n2 = n := by have := h3.1; rw [mL_len, ← HL.out] at this; exact this
    have HG := Lib.hid hb1
    have hr1 := hr.below hb1
    clear h1 C hb1 hr
    go_loopw [6, 7] (fun v i wr => ∃ k : Nat, k ≤ n2 ∧ i = .int .i64 k ∧ wr.ownsRow w1.heap.size 3 1 v ((hdL L).take k).length (((hdL L).take k).map (Value.int .i64)) ∧ Below w1.heap.size w1 wr) (fun _ i _ => n2 - (intOf i).toNat)
    case atStart => exact ⟨0, by omega, rfl, World.ownsRow_nil _ _ _ _, Below.refl _ _⟩
    case round =>
      obtain ⟨i, hi, rfl, hown, hbl⟩ := hrel
      have hbs := hbl.size
      by_cases hlt : i < n2
      · have htk : Hid ((hdL L).take (i + 1) = (hdL L).take i ++ [((hb L (sk L i) : Nat) : Int)]) := take_snoc (by rw [hdL_len, ← HL.out]; exact hlt) (hdL_at (by rw [← HL.out]; exact hlt))
        have hll : ((hdL L).take i).length ≤ i := List.length_take_le _ _
        obtain ⟨T, hT⟩ : ∃ T, T = (hdL L).take i := ⟨_, rfl⟩
        rw [← hT] at hown htk hll
        have hr2 := hr1.below hbl
        have h4 := h3.below hbl
        clear hT
        go_wp2
        go_loop [8, 9, 10] (fun nn bt b => ∃ b' N B : Nat, b' ≤ 8 ∧ b = .int .i64 b' ∧ bt = .int .i64 B ∧ nn = .int .i64 N ∧ Hid (B = 2 ^ b') ∧ Hid (N = hb L (sk L i) % 2 ^ b') ∧ B ≤ 256 ∧ N < 256) (fun _ _ b => 8 - (intOf b).toNat)
        case atStart => exact ⟨0, 0, 1, by omega, rfl, rfl, rfl, rfl, (Nat.mod_one _).symm, by omega, by omega⟩
        case round =>
          obtain ⟨b, N, B, hb8, rfl, rfl, rfl, HBB, HNN, hB256, hN256⟩ := hrel
          by_cases hlb : b < 8
          · have hB128 : B ≤ 128 := by
              have := Nat.pow_le_pow_right (n := 2) (by decide) (show b ≤ 7 by omega)
              rw [HBB.out]; exact this
            go_wp2
            go_loop [11, 12] (fun z kk => ∃ k : Nat, k ≤ i ∧ kk = .int .i64 k ∧ z = .bool (lkf L i b k)) (fun _ kk => i - (intOf kk).toNat)
            case atStart => exact ⟨0, by omega, rfl, rfl⟩
            case round =>
              obtain ⟨k, hk, rfl, rfl⟩ := hrel
              by_cases hki : k < i
              · have hkn : k < n2 := by omega
                obtain ⟨b1, o1, p1, p2, p3, rfl, hB1, hx, hc1, hc2, hc3⟩ := hr2.at_ hkn
                have HX := Lib.hid (at_some hx)
                have hls := lkf_succ L i b k
                rw [HX.out] at hls
                have cw := within_any a2 n2 c2 L k i hki hlt HS.out HL.out wr h4
                obtain ⟨y, hy⟩ : ∃ y, y = wi L k i := ⟨_, rfl⟩
                rw [← hy] at cw hls
                have CW := Lib.hid cw
                obtain ⟨z, hz⟩ : ∃ z, z = lkf L i b k := ⟨_, rfl⟩
                rw [← hz] at hls ⊢
                clear hx HX cw hy hz
                cases z
                · cases e1 : (p1 == 23)
                  · have HZ : Hid (lkf L i b (k + 1) = false) := by show _ = _; rw [hls]; simp only [e1]; rfl
                    clear hls CW
                    go_wp2
                    go_round
                    case rel => exact ⟨k + 1, by omega, by go_num, by rw [HZ.out]⟩
                    case measure => simp [intOf]; omega
                  · cases e2 : (p2 == (b : Int))
                    · have HZ : Hid (lkf L i b (k + 1) = false) := by show _ = _; rw [hls]; simp only [e1, e2]; rfl
                      clear hls CW
                      go_wp2
                      go_round
                      case rel => exact ⟨k + 1, by omega, by go_num, by rw [HZ.out]⟩
                      case measure => simp [intOf]; omega
                    · have HZ : Hid (lkf L i b (k + 1) = y) := by show _ = _; rw [hls]; simp only [e1, e2]; simp
                      clear hls
                      go_wp2_with fail
                      refine CW.out.mono ?_
                      rintro e w9 ⟨rfl, rfl⟩
                      go_wp2
                      go_round
                      case rel => exact ⟨k + 1, by omega, by go_num, by rw [HZ.out]⟩
                      case measure => simp [intOf]; omega
                · have HZ : Hid (lkf L i b (k + 1) = true) := by show _ = _; rw [hls]; rfl
                  clear hls CW
                  go_wp2
                  go_round
                  case rel => exact ⟨k + 1, by omega, by go_num, by rw [HZ.out]⟩
                  case measure => simp [intOf]; omega
              · have hkk : k = i := by omega
                subst hkk
                have hmn := mod_next HB8.out k b
                rw [← HNN.out, ← HBB.out] at hmn
                have HB2 : Hid (2 * B = 2 ^ (b + 1)) := by show _ = _; rw [HBB.out, Nat.pow_succ]; omega
                obtain ⟨z, hz⟩ : ∃ z, z = lkf L k b k := ⟨_, rfl⟩
                rw [← hz] at hmn ⊢
                have hlt2 : hb L (sk L k) % 2 ^ (b + 1) < 256 := Nat.lt_of_le_of_lt (Nat.mod_le _ _) (hb_lt HB8.out _)
                have HM := Lib.hid hmn
                clear hz hmn
                cases z
                · have HN2 : Hid (N = hb L (sk L k) % 2 ^ (b + 1)) := by show _ = _; rw [HM.out]; simp
                  clear hlt2
                  go_wp2
                  go_round
                  case rel => exact ⟨b + 1, N, 2 * B, by omega, by go_num, by go_num, rfl, HB2, HN2, by omega, hN256⟩
                  case measure => simp [intOf]; omega
                · have HN2 : Hid (N + B = hb L (sk L k) % 2 ^ (b + 1)) := by show _ = _; rw [HM.out]; simp
                  have hNB : N + B < 256 := by rw [HN2.out]; exact hlt2
                  clear hlt2
                  go_wp2
                  go_round
                  case rel => exact ⟨b + 1, N + B, 2 * B, by omega, by go_num, by go_num, by go_num, HB2, HN2, by omega, hNB⟩
                  case measure => simp [intOf]; omega
          · have hbb : b = 8 := by omega
            have HN8 : Hid (N = hb L (sk L i)) := by show _ = _; rw [HNN.out, hbb]; exact mod_end HB8.out i
            clear hbb HNN HBB
            rw [← HN8.out] at htk
            go_wp2_with (at_builtin; refine wpList_append_own _ rfl _ _ 24 rfl w1.heap.size 3 i0 (.int .i64 0) 1 8 Tryd.underlying24 hi0 hz0 hz1 hz2 rfl (by decide) _ _ _ rfl (hown.alloc _) ⟨wr.heap.size, 0, none⟩ 1 1 [.int .i64 (N : Int)] rfl rfl ?c1 ?c2 ?c3 ?c4 ?c5 ?_)
            case c2 => rfl
            case c3 => unfold maxLen; omega
            case c4 => omega
            case c5 => omega
            · intro v' w5 hown' hgrow _
              have hb5 : Below w1.heap.size w1 w5 := (hbl.alloc hbl.size _).grown hgrow (by have := hbl.size; simp; omega) (fun g hg => (hown.lt g hg).1)
              have hown2 : w5.ownsRow w1.heap.size 3 1 v' ((hdL L).take (i + 1)).length (((hdL L).take (i + 1)).map (Value.int .i64)) := by
                rw [htk.out, List.map_append, List.length_append]; exact hown'
              clear hown' hgrow hown
              go_wp2
              go_roundw
              case rel => exact ⟨i + 1, by omega, by go_num, hown2, hb5⟩
              case measure => simp [intOf]; omega
      · have hkn : i = n2 := by omega
        have HK : Hid ((hdL L).take i = hdA L) := by show _ = _; unfold hdA; rw [if_pos H0.out, List.take_of_length_le (by rw [hdL_len, ← HL.out]; omega)]
        obtain ⟨a5, n5, c5, rfl, hR⟩ := Row.own hown
        rw [HK.out] at hR
        clear hown hkn
        go_wp2
        go_ret2
        exact ⟨_, _, _, by rw [H0.out]; rfl, hR, keep_below HG.out hbl⟩
  · have HQ : Hid (hdA L = []) := by show _ = _; unfold hdA; rw [if_neg h0]
    obtain ⟨x, hx⟩ : ∃ x, x = mE L := ⟨_, rfl⟩
    rw [← hx] at cr
    have e1 : (x != 0) = true := by rw [hx]; simpa using h0
    have e2 : (x == 0) = false := by rw [hx]; simpa using h0
    have HX := Lib.hid hx
    have C := Lib.hid cr
    clear cr h0 hx hr hi0 hz0 hz1 hz2
    go_enter Tryd.func18, Tryd.ntmps18
    go_wp2_with (go_at_call 12; refine C.out.mono ?_; rintro e w1 ⟨a2, n2, c2, rfl, h1, hb⟩)
    go_ret2
    refine ⟨_, _, _, by rw [← HX.out]; rfl, ?_, hb⟩
    rw [HQ.out]; exact Row.nil _ _
end Go.Proofs.YtncnofcgpiaadaaDoor
