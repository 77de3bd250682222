/- What is proved here: the walk of the law CeilOrders. Conditions: the row is not too long. -/
import Derived.Test.YthicoekoeffpaaaKw
import Derived.Test.YthicoekoeffpaaaPl
import Derived.Test.YthicoekoeffpaaaW1
namespace Go.Proofs.Ythicoekoeffpaaa
open Go.ChangeShapes Go.WideShapes Go.RowKit

theorem okL_turn (B : Int) (L : List UsP) : okL B L.reverse = okL B L := by unfold okL; rw [List.length_reverse, List.all_reverse]
theorem ceilL_turn (B : Int) (L : List UsP) : ceilL B L.reverse = ceilL B L := by
  unfold ceilL
  refine List.map_congr_left fun b _ => ceB_same (fun u => by rw [List.mem_reverse]) _
theorem waitL_turn (L : List UsP) : waitL L.reverse = (waitL L).reverse := by
  unfold waitL
  rw [List.map_reverse]
  congr 1
  exact List.map_congr_left fun u _ => waB_same (fun u => by rw [List.mem_reverse]) _
theorem turn_at {L : List UsP} {k : Nat} (hk : k < L.length) : (waitL L.reverse)[L.length - 1 - k]? = (waitL L)[k]? := by
  rw [waitL_turn, List.getElem?_reverse (by rw [waitL_len]; omega), waitL_len]
  congr 1
  omega
theorem drop_turn {L : List UsP} {k : Nat} {u : UsP} (h : L[k]? = some u) : (L.drop k).reverse = (L.drop (k + 1)).reverse ++ [u] := by
  rw [take_cons_drop h, List.reverse_cons]
set_option maxHeartbeats 4000000 in
set_option maxRecDepth 100000 in
theorem orders_walk (B : Int) (a : Option Addr) (n c : Nat) (L : List UsP) (w : World) (hr : RowU w a n L) (hn : n ≤ 140737488355328) :
    Calls Try.prog 7 #[.int .i64 B, .slice a n c] w fun e w' => e = .returned (.bool true) ∧ Below w.heap.size w w' := by
  obtain ⟨lt, hlt⟩ : ∃ r, litE L = r := ⟨_, rfl⟩
  have CL := Lib.hid (light_any a n c L w hr hn lt hlt)
  have CK := Lib.hid (fun W => known_any W)
  cases lt
  · go_enter Try.func7, Try.ntmps7
    go_wp2_with (first
      | (go_at_call 10; refine CL.out.mono ?_; rintro e w1 ⟨rfl, rfl⟩)
      | (go_at_call 11; refine (CK.out _).mono ?_; rintro e w2 ⟨rfl, hb2⟩))
    go_ret
    exact ⟨rfl, hb2⟩
  obtain ⟨r, hq⟩ : ∃ r, okL B L = r := ⟨_, rfl⟩
  have CR := Lib.hid (right_any B a n c L w hr hn r hq)
  cases r
  · go_enter Try.func7, Try.ntmps7
    go_wp2_with (first
      | (go_at_call 10; refine CL.out.mono ?_; rintro e w1 ⟨rfl, rfl⟩)
      | (go_at_call 12; refine CR.out.mono ?_; rintro e w2 ⟨rfl, hb2⟩)
      | (go_at_call 11; refine (CK.out _).mono ?_; rintro e w3 ⟨rfl, hb3⟩))
    go_ret
    exact ⟨rfl, keep_below hb2 hb3⟩
  have hqt : okL B L.reverse = true := by rw [okL_turn]; exact hq
  have hn8 : n ≤ 8 := by rw [hr.1]; exact (okL_of hq).len
  have HL := Lib.hid hr.1
  have CC := Lib.hid (fun W (hb : Below w.heap.size w W) => ceilings_any B a n c L W (hr.below hb) hn _ (cL_yes hq))
  have CT := Lib.hid (fun W a' c' (h : RowU W a' n L.reverse) => ceilings_any B a' n c' L.reverse W h hn (ceilL B L) (by rw [cL_yes hqt]; exact ceilL_turn B L))
  have CW := Lib.hid (fun W (hb : Below w.heap.size w W) => waits_any B a n c L W (hr.below hb) hn _ (wL_yes hq))
  have CV := Lib.hid (fun W a' c' (h : RowU W a' n L.reverse) => waits_any B a' n c' L.reverse W h hn _ (wL_yes hqt))
  have hcl : (ceilL B L).length ≤ 8 := by have := cL_len B L; rw [cL_yes hq] at this; exact this
  have HCL := Lib.hid hcl
  unfold GotN at CC CT CW CV
  obtain ⟨i0, hi0, hz0, hz1, hz2⟩ := info_parts us_info
  clear hq hqt hlt hcl
  have wn : IntKind.i64.wrap ((n : Int) - 1) = (n : Int) - 1 := IntWalk.i64_in _ (by omega)
  go_enter Try.func7, Try.ntmps7
  go_wp2_with (first
    | (go_at_call 10; refine CL.out.mono ?_; rintro e w1 ⟨rfl, hw1⟩; have hw1 := hw1.symm; subst hw1)
    | (go_at_call 12; refine CR.out.mono ?_; rintro e w2 ⟨rfl, hb2⟩))
  have b2 := Lib.hid hb2
  clear hb2 CL CR
  go_loopw [5, 6] (fun s x wr => ∃ (k : Nat) (VV : List UsV), k ≤ n ∧ x = .int .i64 ((k : Int) - 1) ∧ Hid (UssIs w VV (L.drop k).reverse) ∧ wr.ownsRow w2.heap.size 37 3 s (n - k) (usC VV) ∧ Below w2.heap.size w2 wr) (fun _ x _ => (intOf x + 1).toNat)
  case atStart =>
    refine ⟨n, [], Nat.le_refl _, by first | rfl | simp [wn], ?_, ?_, Below.refl _ _⟩
    · show UssIs _ _ _
      rw [List.drop_of_length_le (by rw [HL.out]; exact Nat.le_refl _)]
      exact UssIs.nil w
    · rw [Nat.sub_self]; exact World.ownsRow_nil _ _ _ _
  case round =>
    obtain ⟨k, VV, hk, rfl, HV, hown, hbl⟩ := hrel
    have hbs := hbl.size
    rcases k with _ | k
    · have hx0 : ((0 : Nat) : Int) - 1 = -1 := by decide
      have hV := HV.out
      rw [List.drop_zero] at hV
      obtain ⟨a5, c5, rfl, hm5, hR⟩ := RowU.own hown ((hV.below b2.out).below hbl)
      rw [Nat.sub_zero] at hR
      have HR := Lib.hid hR
      have BB := Lib.hid (keep_below b2.out hbl)
      clear hown hR hV HV hbl hm5
      go_wp2_with (go_at_call 18; fail)
      refine (CW.out _ BB.out).mono ?_
      rintro e w3 ⟨a3, n3, c3, rfl, hr3, -, hb3, -⟩
      have B3 := Lib.hid (keep_below BB.out hb3)
      have R5 := Lib.hid (HR.out.below hb3)
      have e3 : n3 = n := by rw [hr3.1, waitL_len]; exact HL.out.symm
      subst e3
      go_wp2_with (go_at_call 18; fail)
      refine (CV.out _ _ _ R5.out).mono ?_
      rintro e w4 ⟨a4, n4, c4, rfl, hr4, -, hb4, -⟩
      have B4 := Lib.hid (keep_below B3.out hb4)
      have R6 := Lib.hid (R5.out.below hb4)
      have R3 := Lib.hid (hr3.below hb4)
      have R4 := Lib.hid hr4
      have e4 : n4 = n3 := by rw [hr4.1, waitL_len, List.length_reverse]; exact HL.out.symm
      subst e4
      clear hb3 hb4 hr3 hr4 B3 R5 HR BB
      go_wp2
      go_loopw [9] (fun x wr => ∃ k : Nat, k ≤ n4 ∧ x = .int .i64 k ∧ Below w4.heap.size w4 wr) (fun x _ => n4 - (intOf x).toNat)
      case atStart => exact ⟨0, by omega, rfl, Below.refl _ _⟩
      case round =>
        obtain ⟨k, hk, rfl, hbl⟩ := hrel
        by_cases hlt : k < n4
        · obtain ⟨b7, o7, x, rfl, hB7, hx, hc7⟩ := (R3.out.below hbl).item hlt
          obtain ⟨b8, o8, y, rfl, hB8, hy, hc8⟩ := (R4.out.below hbl).item (k := n4 - 1 - k) (by omega)
          have hxy : x = y := by
            have h1 := turn_at (L := L) (k := k) (by rw [← HL.out]; exact hlt)
            rw [← HL.out] at h1
            rw [h1, hx] at hy
            exact Option.some.inj hy
          subst hxy
          have i1 : (0 : Int) ≤ (k : Int) := by omega
          have i2 : (k : Int) < (n4 : Int) := by omega
          have w2' : IntKind.i64.wrap ((n4 : Int) - 1 - (k : Int)) = (n4 : Int) - 1 - (k : Int) := IntWalk.i64_in _ (by omega)
          have i5 : (n4 : Int) - 1 - (k : Int) = ((n4 - 1 - k : Nat) : Int) := by omega
          have i3 : (0 : Int) ≤ ((n4 - 1 - k : Nat) : Int) := by omega
          have i4 : ((n4 - 1 - k : Nat) : Int) < (n4 : Int) := by omega
          obtain ⟨q, hq⟩ : ∃ q, q = n4 - 1 - k := ⟨_, rfl⟩
          rw [← hq] at hc8 i3 i4 i5
          clear hx hy hq
          go_wp2
          go_quiet (fail)
          go_wp2
          go_roundw
          case rel => exact ⟨k + 1, by omega, by go_num, hbl.trans ⟨rfl, rfl, rfl, Nat.le_refl _, fun _ _ => rfl⟩⟩
          case measure => simp [intOf]; omega
        · obtain rfl : n4 = k := by omega
          have BB := keep_below B4.out hbl
          have R7 := R6.out.below hbl
          go_wp2_with (go_at_call 16; fail)
          refine (CC.out _ BB).mono ?_
          rintro e w5 ⟨a9, n9, c9, rfl, hr9, -, hb9, -⟩
          have B9 := keep_below BB hb9
          have R9 := R7.below hb9
          go_wp2_with (go_at_call 16; fail)
          refine (CT.out _ _ _ R9).mono ?_
          rintro e w6 ⟨aa, na, ca, rfl, hra, -, hba, -⟩
          have Ba := keep_below B9 hba
          have R10 := hr9.below hba
          go_wp2_with (go_at_call 15; fail)
          refine (same_any _ _ _ _ _ _ (ceilL B L) _ R10 hra (by have := R10.1; have := HCL.out; omega)).mono ?_
          rintro e w7 ⟨rfl, hb7⟩
          have Bb := keep_below Ba hb7
          go_wp2_with (go_at_call 11; fail)
          refine (CK.out _).mono ?_
          rintro e w8 ⟨rfl, hb8⟩
          go_wp2
          go_ret
          exact ⟨rfl, keep_below Bb hb8⟩
    · obtain ⟨b1, o1, u, xa, xn, xc, la, ln, lc, rfl, hB1, hx, hX, hE, f0, f1, f2⟩ := hr.item (Below.refl _ _) (k := k) (by omega)
      have BB := Lib.hid (keep_below b2.out hbl)
      have h0 := keep_cell BB.out f0
      have h1 := keep_cell BB.out f1
      have h2 := keep_cell BB.out f2
      have hx1 : ((k + 1 : Nat) : Int) - 1 = (k : Int) := by omega
      have i1 : (0 : Int) ≤ (k : Int) := by omega
      have i2 : (k : Int) < (n : Int) := by omega
      have hwk : IntKind.i64.wrap ((k : Int) - 1) = (k : Int) - 1 := IntWalk.i64_in _ (by omega)
      have HV2 : Hid (UssIs w (VV ++ [⟨u.pr, ⟨xa, xn, xc⟩, ⟨la, ln, lc⟩⟩]) (L.drop k).reverse) := by
        show UssIs _ _ _
        rw [drop_turn hx]
        exact HV.out.snoc ⟨rfl, hX, hE⟩
      rw [hx1]
      clear hx hX hE f0 f1 f2 HV
      go_wp2_with (at_builtin; refine wpList_append_own _ rfl _ _ 22 rfl w2.heap.size 37 i0 (.agg #[.int .i64 0, .slice none 0 0, .slice none 0 0]) 3 56 Try.underlying22 hi0 hz0 hz1 hz2 rfl (by decide) _ _ _ rfl (hown.alloc _) ⟨wr.heap.size, 0, none⟩ 1 1 (⟨u.pr, ⟨xa, xn, xc⟩, ⟨la, ln, lc⟩⟩ : UsV).cells rfl rfl ?c1 (usV_one _) ?c3 ?c4 ?c5 ?_)
      case c1 =>
        intro j t hj
        rw [add_plain', Nat.zero_add]
        exact cells_new wr _ _ j t hj
      case c3 => unfold maxLen; omega
      case c4 => omega
      case c5 => simp; omega
      · intro v' w5 hown' hgrow _
        have hb5 : Below w2.heap.size w2 w5 := (hbl.alloc hbl.size _).grown hgrow (by simp; omega) (fun g hg => (hown.lt g hg).1)
        have hown3 : w5.ownsRow w2.heap.size 37 3 v' (n - k) (usC (VV ++ [⟨u.pr, ⟨xa, xn, xc⟩, ⟨la, ln, lc⟩⟩])) := by
          rw [usC_snoc, show n - k = n - (k + 1) + 1 by omega]; exact hown'
        clear hown' hgrow hown
        go_wp2
        go_roundw
        case rel => exact ⟨k, _, by omega, by first | rfl | simp [hwk], HV2, hown3, hb5⟩
        case measure => simp [intOf, hwk]
end Go.Proofs.Ythicoekoeffpaaa
