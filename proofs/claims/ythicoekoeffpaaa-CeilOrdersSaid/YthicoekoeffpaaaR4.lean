/- What is proved here: the contract of the document's Waits. Conditions: rows are not too long. -/
import Derived.Test.YthicoekoeffpaaaR3
namespace Go.Proofs.Ythicoekoeffpaaa
open Go.ChangeShapes Go.WideShapes Go.RowKit

set_option maxHeartbeats 4000000 in
set_option maxRecDepth 100000 in
theorem waitsR_any (B : Int) (a : Option Addr) (n c : Nat) (L : List UsP) (w : World) (hr : RowU w a n L) (hn : n ≤ 140737488355328) (l : List Int) (hq : wL B L = l) :
    Calls Try.prog 19 #[.int .i64 B, .slice a n c] w (GotI l w) := by
  unfold GotI
  obtain ⟨i0, hi0, hz0, hz1, hz2⟩ := info_parts int_info
  obtain ⟨ok, hok⟩ : ∃ ok, okL B L = ok := ⟨_, rfl⟩
  have CR := Lib.hid (fun W (hb : Below w.heap.size w W) => rightR_any B a n c L W (hr.below hb) hn ok hok)
  have CC := Lib.hid (fun (b : Int) W (hb : Below w.heap.size w W) => ceilingR_any b a n c L W (hr.below hb) hn _ rfl)
  have HO := Lib.hid hok
  have HQ := Lib.hid hq
  have HLn := Lib.hid hr.1
  clear hq hok
  go_enter Try.func19, Try.ntmps19
  go_wp2
  go_loopw [5, 6] (fun s i wr => ∃ q : Nat, q ≤ n ∧ (ok = false → q = 0) ∧ i = .int .i64 q ∧ wr.ownsRow w.heap.size 3 1 s q ((l.take q).map (Value.int .i64)) ∧ Below w.heap.size w wr) (fun _ i _ => n - (intOf i).toNat)
  case atStart => exact ⟨0, by omega, fun _ => rfl, rfl, World.ownsRow_nil _ _ _ _, Below.refl _ _⟩
  case round =>
    obtain ⟨q, hqn, hq0, rfl, hown, hbl⟩ := hrel
    have hbs := hbl.size
    by_cases hlt : q < n
    · have d1 : decide ((q : Int) < (n : Int)) = true := decide_eq_true (by omega)
      cases ok
      · obtain rfl : q = 0 := hq0 rfl
        have HL : Hid (l = []) := by show _ = _; rw [← HQ.out, wL_no HO.out]
        obtain ⟨a5, n5, c5, rfl, hR⟩ := Row.own hown
        have HRW := Lib.hid hR
        clear hown hR
        go_wp2_with (go_at_call 13; refine (CR.out _ hbl).mono ?_; rintro e w2 ⟨rfl, hb2⟩)
        go_ret
        exact ⟨_, _, _, rfl, by have := HRW.out.below hb2; rw [HL.out] at this ⊢; exact this, keep_below hbl hb2⟩
      · have O := Lib.hid (okL_of HO.out)
        have hn8 : n ≤ 8 := by have := O.out.len; have := HLn.out; omega
        obtain ⟨b1, o1, o, ya, yn, yc, ma, mn, mc, rfl, hB1, hx, _, _, f0, f1, f2⟩ := hr.item (Below.refl _ _) hlt
        obtain ⟨p, hp⟩ : ∃ p, o.pr = p := ⟨_, rfl⟩
        rw [hp] at f0
        have hlq : l[q]? = some (waB L p) := by rw [← HQ.out, wL_yes HO.out, ← hp]; exact waitL_at hx
        have HTK := Lib.hid (take_cat hlq)
        have HTA : Hid (waT L p n = waB L p) := by show _ = _; rw [HLn.out]; exact waT_all L p
        have F0 := Lib.hid f0
        clear hlq hx hp f0 f1 f2
        go_wp2_with (go_at_call 13; refine (CR.out _ hbl).mono ?_; rintro e w2 ⟨rfl, hb2⟩)
        have HB2 := Lib.hid (keep_below hbl hb2)
        have hown2 := Lib.hid (own_keep hown hb2)
        clear hown hbl hb2 hbs
        go_loopw [7, 8] (fun s i wr => ∃ (j : Nat) (M : Int), j ≤ n ∧ i = .int .i64 j ∧ s = .int .i64 M ∧ Hid (M = waT L p j) ∧ Hid (Below w2.heap.size w2 wr)) (fun _ i _ => n - (intOf i).toNat)
        case atStart => exact ⟨0, 0, by omega, rfl, rfl, (waT_zero L p).symm, Below.refl _ _⟩
        case round =>
          obtain ⟨j, M, hj, rfl, rfl, HM, hbl2⟩ := hrel
          by_cases hlt2 : j < n
          · obtain ⟨b2, o2, u, xa, xn, xc, la, ln, lc, e2, hB2, hx, ⟨hX, hXm⟩, ⟨hE, hEm⟩, h0, h1, h2⟩ := hr.item (keep_below HB2.out hbl2.out) hlt2
            cases e2
            have f0 := keep_cell (keep_below HB2.out hbl2.out) F0.out
            have hlen : ln = xn := by rw [hE.1, hX.1]; exact (O.out.all u (List.mem_of_getElem? hx)).len
            have HW := Lib.hid (waT_gre (p := p) hx (O.out.all u (List.mem_of_getElem? hx)).len)
            have HM0 : Hid (M = gre (waT L p j) u.le (kee (ceB L) p u) 0) := HM.out
            have HXl := Lib.hid hX
            have HEl := Lib.hid hE
            subst hlen
            have j1 : (0 : Int) ≤ (j : Int) := by omega
            have j2 : (j : Int) < (n : Int) := by omega
            have q1 : (0 : Int) ≤ (q : Int) := by omega
            have q2 : (q : Int) < (n : Int) := by omega
            clear hx hX hE HM
            go_wp2
            generalize wr = W3 at *
            go_loopw [7, 9] (fun s i wr => ∃ (k : Nat) (N : Int), k ≤ ln ∧ i = .int .i64 k ∧ s = .int .i64 N ∧ Hid (N = gre (waT L p j) u.le (kee (ceB L) p u) k) ∧ Hid (Below W3.heap.size W3 wr)) (fun _ i _ => ln - (intOf i).toNat)
            case atStart => exact ⟨0, M, by omega, rfl, rfl, HM0, Below.refl _ _⟩
            case round =>
              obtain ⟨k, N, hk, rfl, rfl, HN, hbl3⟩ := hrel
              have g0 := keep_cell hbl3.out h0
              have g1 := keep_cell hbl3.out h1
              have g2 := keep_cell hbl3.out h2
              have e0 := keep_cell hbl3.out f0
              have HB3 := Lib.hid (keep_below HB2.out (keep_below hbl2.out hbl3.out))
              by_cases hlt3 : k < ln
              · obtain ⟨b4, o4, x, rfl, hB4, hy, hc1⟩ := (HXl.out.below HB3.out).item hlt3
                obtain ⟨b5, o5, y, rfl, hB5, hz, hc2⟩ := (HEl.out.below HB3.out).item hlt3
                have k1 : (0 : Int) ≤ (k : Int) := by omega
                have k2 : (k : Int) < (ln : Int) := by omega
                have HK : Hid (kee (ceB L) p u k = (decide (u.pr < p) && decide (p ≤ ceB L x))) := by show _ = _; unfold kee; rw [getD_of hy]
                have HG1 : Hid (kee (ceB L) p u k = true → max N y = gre (waT L p j) u.le (kee (ceB L) p u) (k + 1)) := fun h => by rw [gre_max h, ← HN.out, getD_of hz]
                have HG0 : Hid (kee (ceB L) p u k = false → N = gre (waT L p j) u.le (kee (ceB L) p u) (k + 1)) := fun h => by rw [gre_skip h, ← HN.out]
                obtain ⟨cx, hcx⟩ : ∃ cx, ceB L x = cx := ⟨_, rfl⟩
                rw [hcx] at HK
                have CX := Lib.hid (fun W (hb : Below w.heap.size w W) => (by have := CC.out x W hb; rw [hcx] at this; exact this : Calls Try.prog 30 #[.int .i64 x, .slice (some ⟨b1, o1, none⟩) n c] W fun e w' => e = .returned (.int .i64 cx) ∧ w' = W))
                clear hy hz HN hcx
                by_cases h7 : u.pr < p
                · have d7 : decide (u.pr < p) = true := decide_eq_true h7
                  by_cases h8 : p ≤ cx
                  · have d8 : decide (p ≤ cx) = true := decide_eq_true h8
                    have HN2 : Hid (max N y = gre (waT L p j) u.le (kee (ceB L) p u) (k + 1)) := HG1.out (by rw [HK.out, d7, d8]; rfl)
                    clear HG1 HG0 HK
                    go_wp2
                    go_quiet (exact Calls.quiet_of_same (CX.out _ (keep_below HB3.out ⟨rfl, rfl, rfl, Nat.le_refl _, fun _ _ => rfl⟩)))
                    go_wp2
                    go_roundw
                    case rel => exact ⟨k + 1, max N y, by omega, by go_num, rfl, HN2, hbl3.out.trans ⟨rfl, rfl, rfl, Nat.le_refl _, fun _ _ => rfl⟩⟩
                    case measure => simp [intOf]; omega
                  · have d8 : decide (p ≤ cx) = false := decide_eq_false h8
                    have HN2 : Hid (N = gre (waT L p j) u.le (kee (ceB L) p u) (k + 1)) := HG0.out (by rw [HK.out, d8, Bool.and_false])
                    clear HG1 HG0 HK
                    go_wp2
                    go_quiet (exact Calls.quiet_of_same (CX.out _ (keep_below HB3.out ⟨rfl, rfl, rfl, Nat.le_refl _, fun _ _ => rfl⟩)))
                    go_wp2
                    go_roundw
                    case rel => exact ⟨k + 1, N, by omega, by go_num, rfl, HN2, hbl3.out.trans ⟨rfl, rfl, rfl, Nat.le_refl _, fun _ _ => rfl⟩⟩
                    case measure => simp [intOf]; omega
                · have d7 : decide (u.pr < p) = false := decide_eq_false h7
                  have HN2 : Hid (N = gre (waT L p j) u.le (kee (ceB L) p u) (k + 1)) := HG0.out (by rw [HK.out, d7]; rfl)
                  clear HG1 HG0 HK
                  go_wp2
                  go_quiet (fail)
                  go_wp2
                  go_roundw
                  case rel => exact ⟨k + 1, N, by omega, by go_num, rfl, HN2, hbl3.out.trans ⟨rfl, rfl, rfl, Nat.le_refl _, fun _ _ => rfl⟩⟩
                  case measure => simp [intOf]; omega
              · obtain rfl : ln = k := by omega
                have HN2 : Hid (N = waT L p (j + 1)) := by show _ = _; rw [HN.out, ← HW.out, ← HEl.out.1]
                have HB4 := Lib.hid (keep_below hbl2.out hbl3.out)
                clear HN
                go_wp2
                go_roundw
                case rel => exact ⟨j + 1, N, by omega, by go_num, rfl, HN2, HB4⟩
                case measure => simp [intOf]; omega
          · obtain rfl : n = j := by omega
            have HMW : Hid (M = waB L p) := by show _ = _; rw [HM.out]; exact HTA.out
            have hown3 := own_keep hown2.out hbl2.out
            have hbl4 := keep_below HB2.out hbl2.out
            have hbs4 := hbl4.size
            rw [← HMW.out] at HTK
            clear HM hown2 hbl2
            go_wp2_with (at_builtin; refine wpList_append_own _ rfl _ _ 30 rfl w.heap.size 3 i0 (.int .i64 0) 1 8 Try.underlying30 hi0 hz0 hz1 hz2 rfl (by decide) _ _ _ rfl (hown3.alloc _) ⟨wr.heap.size, 0, none⟩ 1 1 [.int .i64 M] rfl rfl ?c1 ?c2 ?c3 ?c4 ?c5 ?_)
            case c1 =>
              intro j t hj
              match j, hj with
              | 0, hj => simp at hj; subst hj; simp [Addr.add]
            case c2 => intro t ht; simp at ht; subst ht; rfl
            case c3 => unfold maxLen; omega
            case c4 => omega
            case c5 => simp; omega
            · intro v' w5 hown' hgrow _
              have hb5 : Below w.heap.size w w5 := (hbl4.alloc hbl4.size _).grown hgrow (by simp; omega) (fun g hg => (hown3.lt g hg).1)
              have hown4 : w5.ownsRow w.heap.size 3 1 v' (q + 1) ((l.take (q + 1)).map (Value.int .i64)) := by
                rw [HTK.out, List.map_append, List.map_take]; exact hown'
              clear hown' hgrow hown3
              go_wp2
              go_roundw
              case rel => exact ⟨q + 1, by omega, (fun h => by cases h), by go_num, hown4, hb5⟩
              case measure => simp [intOf]; omega
    · have d1 : decide ((q : Int) < (n : Int)) = false := decide_eq_false (by omega)
      have hlen : l.length ≤ q := by
        rw [← HQ.out]
        cases ok
        · rw [wL_no HO.out]; exact Nat.zero_le _
        · rw [wL_yes HO.out, waitL_len, ← HLn.out]; omega
      rw [List.take_of_length_le hlen] at hown
      obtain ⟨a5, n5, c5, rfl, hR⟩ := Row.own hown
      have HRW := Lib.hid hR
      clear hown hR
      go_wp2
      go_ret
      first | exact ⟨_, _, ⟨_, rfl⟩, HRW.out, hbl⟩ | exact ⟨_, _, _, rfl, HRW.out, hbl⟩
end Go.Proofs.Ythicoekoeffpaaa
