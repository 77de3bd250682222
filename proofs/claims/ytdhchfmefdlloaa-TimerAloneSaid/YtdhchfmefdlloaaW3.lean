/- What is proved here: the walk of the law TimerAlone. Conditions: the row is not too long. -/
import Derived.Test.YtdhchfmefdlloaaTx
import Derived.Test.YtdhchfmefdlloaaW7
import Derived.Test.YtdhchfmefdlloaaPa
namespace Go.Proofs.Ytdhchfmefdlloaa
open Go.ChangeShapes Go.WideShapes Go.RowKit Go.Maps

set_option maxHeartbeats 8000000 in
set_option maxRecDepth 100000 in
theorem alone_walk (x y : Int) (a2 : Option Addr) (n2 c2 : Nat) (l2 : List Int) (w : World) (hr : RowB w a2 n2 l2) (hn2 : n2 ≤ 140737488355328) :
    Calls Try.prog 5 #[.int .i64 x, .int .i64 y, .slice a2 n2 c2] w fun e w' => e = .returned (.bool true) ∧ Below w.heap.size w w' := by
  have hq1 := eqp_nil
  have KN := Lib.hid known_any
  have tk1 : True := trivial
  have tk2 : True := trivial
  have HR := Lib.hid hr
  clear hr
  by_cases hok : okPz [x, y] = true
  · have hp := (okPz_iff.1 hok).2
    have hx := hp x (by simp)
    have hy := hp y (by simp)
    have HO := Lib.hid hok
    have HO2 : Hid (okPz [y] = true) := okPz_iff.2 ⟨⟨by simp, by simp⟩, fun p hp => by simp at hp; rw [hp]; exact hy⟩
    clear hp hok
    obtain ⟨i1, hi1, ii0, ii1, ii2⟩ := info_parts int_info
    go_enter Try.func5, Try.ntmps5
    go_wp2_with (first
      | (go_at_call 11; have _t := tk1; refine (new_yes _ 2 2 [x, y] _ (lit_ints w #[.int .i64 x, .int .i64 y] [x, y] 2 rfl rfl (by simp)) HO.out).mono ?_; rintro e w1 ⟨b1, F1, rfl, ht1, hF1, hb1⟩; have T1 := Lib.hid ht1; have HF1 := Lib.hid hF1; have B1 := Lib.hid hb1; clear ht1 hF1 hb1 tk1)
      | (go_at_call 11; have _t := tk2; refine (new_yes _ 1 1 [y] _ (lit_ints w1 #[.int .i64 y] [y] 1 rfl rfl (by simp)) HO2.out).mono ?_; rintro e w2 ⟨b2, F2, rfl, ht2, hF2, hb2⟩; have TW := Lib.hid (Two.news (below_alloc w _) T1.out HF1.out B1.out (below_alloc w1 _) ht2 hF2 hb2); clear ht2 hF2 hb2 tk2))
    go_loopw [11] (fun s wr => ∃ (k n : Nat) (Fa Fb : Nat → Prop) (L : List Wt), k ≤ n2 ∧ k ≤ 200 ∧ s = .int .i64 k ∧ n ≤ 8 * k ∧ Hid (Two w wr b1 b2 [x, y] [y] k L (alW L) n Fa Fb)) (fun s _ => 200 - (intOf s).toNat)
    case atStart => exact ⟨0, 0, F1, F2, [], Nat.zero_le _, by omega, rfl, Nat.le_refl _, TW⟩
    case round =>
      obtain ⟨k, n, Fa, Fb, L, hk, hk200, rfl, hn, hTW⟩ := hrel
      by_cases hlt : k < n2
      · by_cases hlt2 : k < 200
        · obtain ⟨bj, oj, jv, rfl, hbj, hj, hcj, j0, j1⟩ := HR.out.item hTW.out.bel hlt
          have k1 : (k : Int) < (n2 : Int) := by omega
          have k2 : (k : Int) < 200 := by omega
          clear hj
          go_upto_if 68 with fail
          go_cut [13] from 65 to 72 (fun v wx => ∃ zs : List Int, Hid (wx.ownsRow wr.heap.size 3 1 v zs.length (zs.map (Value.int .i64))) ∧ Hid (Below wr.heap.size wr wx) ∧ Hid (zs ++ [jv] = if (k : Int) % x = 0 then [jv, jv] else [jv]) ∧ zs.length ≤ 1)
          case first =>
            by_cases hq : (k : Int) % x = 0
            · have hqb : ((k : Int) % x == 0) = true := by simp [hq]
              have HZ : Hid ([jv] ++ [jv] = if (k : Int) % x = 0 then [jv, jv] else [jv]) := by show _ = _; rw [if_pos hq]; rfl
              go_wp2_with (first
                | (at_builtin; refine wpList_append_own_at _ rfl _ _ 22 rfl wr.heap.size 3 i1 (.int .i64 0) 1 8 Try.underlying22 hi1 ii0 ii1 ii2 rfl (by decide) (.slice none 0 0) 0 [] rfl (World.ownsRow_nil _ _ _ _) ⟨wr.heap.size, 0, none⟩ 1 1 [.int .i64 jv] rfl rfl (cell_one_new _ _ _) (ints_oneCell .i64 [jv]) (by unfold maxLen; omega) (by omega) (by simp) ?_; intro v' w3 ho3 hg3 _ _; have O3 := Lib.hid ho3; have G3 := Lib.hid ((below_alloc wr (.cells #[.int .i64 jv] 3)).grown hg3 (by simp) (fun j e => by cases e)); clear ho3 hg3; go_frame)
                | go_in)
              go_meet
              exact ⟨[jv], O3, G3, HZ, Nat.le_refl 1⟩
            · have hqb : ((k : Int) % x == 0) = false := by simp [hq]
              have HZ : Hid ([] ++ [jv] = if (k : Int) % x = 0 then [jv, jv] else [jv]) := by show _ = _; rw [if_neg hq]; rfl
              have O3 : Hid (wr.ownsRow wr.heap.size 3 1 (.slice none 0 0) ([] : List Int).length (([] : List Int).map (Value.int .i64))) := World.ownsRow_nil _ _ _ _
              have G3 : Hid (Below wr.heap.size wr wr) := Below.refl _ _
              go_wp2
              go_meet
              exact ⟨[], O3, G3, HZ, Nat.zero_le 1⟩
          case rest =>
            obtain ⟨zs, HOz, HBz, HZ, hzl⟩ := hcut
            have hbz := HBz.out.size
            have tk3 : True := trivial
            have tk4 : True := trivial
            have OZ2 := Lib.hid (own_keep HOz.out (below_alloc wc (.cells #[.int .i64 jv] 3)))
            obtain ⟨D1, hD1⟩ : ∃ D, toldL [x, y] (k : Int) L (if (k : Int) % x = 0 then [jv, jv] else [jv]) = D := ⟨_, rfl⟩
            obtain ⟨D2, hD2⟩ : ∃ D, (D1.filter is1).map dnD = D := ⟨_, rfl⟩
            have HD12 : Hid (toldL [y] (k : Int) (alW L) [jv] = D2) := by show _ = _; rw [← hD2, ← hD1, told_alone]
            have HTA := Lib.hid (tick_alone x y jv (k : Int) L)
            have HD1 : Hid (toldL [x, y] (k : Int) L (zs ++ [jv]) = D1) := by show _ = _; rw [HZ.out]; exact hD1
            have HD2 := Lib.hid hD2
            have l1 : D1.length ≤ 2000 := by
              have h1 := told_len [x, y] (k : Int) L (if (k : Int) % x = 0 then [jv, jv] else [jv])
              have h2 := hTW.out.t1.len
              rw [hD1] at h1
              simp at h1
              omega
            have l2' : D2.length ≤ D1.length := by rw [← hD2, List.length_map]; exact List.length_filter_le _ _
            have HTK : Hid (tickL [x, y] (k : Int) L (zs ++ [jv]) = tickL [x, y] (k : Int) L (if (k : Int) % x = 0 then [jv, jv] else [jv])) := by show _ = _; rw [HZ.out]
            generalize tickL [x, y] (k : Int) L (if (k : Int) % x = 0 then [jv, jv] else [jv]) = L' at HTA HTK
            have CT1 := Lib.hid (fun (V : World) (hb : Below wr.heap.size wr V) (a : Option Addr) (c : Nat) (hrw : Row V a (zs.length + 1) (zs ++ [jv])) (h1 : zs.length + 1 ≤ c) (h2 : c ≤ 9223372036854775807) (h3 : ∀ g off, a = some ⟨g, off, none⟩ → wr.heap.size ≤ g) =>
              tick_w (hTW.out.t1.below hb) (by omega) (by omega) hrw h1 h2 (fun _ bb off e hc => by have := h3 bb off e; have := hTW.out.t1.lt bb hc; omega) HD1.out rfl HTK.out (now2 := ((k + 1 : Nat) : Int)) rfl rfl)
            have CT2 := Lib.hid (fun (W : World) (h : Tim Fb W b2 [y] k (alW L) n) => tick_w (h.below (below_alloc W (.cells #[.int .i64 jv] 3))) (by omega) (by omega) (lit_ints W #[.int .i64 jv] [jv] 1 rfl rfl (by simp)) (Nat.le_refl 1) (by omega) (fun _ bb off e hc => by cases e; exact absurd (h.lt _ hc) (Nat.lt_irrefl _)) HD12.out rfl HTA.out.symm (now2 := ((k + 1 : Nat) : Int)) rfl rfl)
            clear hD1 hD2
            go_wp2_with (first
              | (at_builtin; refine wpList_append_own_at _ rfl _ _ 22 rfl wr.heap.size 3 i1 (.int .i64 0) 1 8 Try.underlying22 hi1 ii0 ii1 ii2 rfl (by decide) u13 zs.length (zs.map (Value.int .i64)) rfl OZ2.out ⟨wc.heap.size, 0, none⟩ 1 1 [.int .i64 jv] rfl rfl (cell_one_new _ _ _) (ints_oneCell .i64 [jv]) (by unfold maxLen; omega) (by omega) (by simp; omega) ?_; intro v' w3 ho3 hg3 _ _; obtain ⟨av, cv, rfl, hrw, hc1, hc2, hc3⟩ := own_caps (l := zs ++ [jv]) (by rw [List.map_append]; exact ho3); have RW := Lib.hid hrw; have HC3 := Lib.hid hc3; have G3 := Lib.hid ((keep_below HBz.out (below_alloc wc (.cells #[.int .i64 jv] 3))).grown hg3 (by simp; omega) (fun j e => (OZ2.out.lt j e).1)); clear ho3 hg3 hrw hc3; go_frame)
              | (go_at_call 14; have _t := tk3; refine (CT1.out w3 G3.out av cv RW.out hc1 hc2 HC3.out).mono ?_; rintro e w4 ⟨F3, a3, c3, rfl, hr3, hl3, ht3, hF3, hx3⟩; have R3 := Lib.hid hr3; have L3 := Lib.hid hl3; have T3 := Lib.hid ht3; have HF3 := Lib.hid hF3; have X3 := Lib.hid hx3; have M3 := Lib.hid (hTW.out.mid G3.out hx3); clear hr3 hl3 ht3 hF3 hx3 tk3)
              | (go_at_call 14; have _t := tk4; refine (CT2.out w4 M3.out).mono ?_; rintro e w5 ⟨F4, a4, c4, rfl, hr4, hl4, ht4, hF4, hx4⟩; have R4 := Lib.hid hr4; have X4 := Lib.hid hx4; have TW2 := Lib.hid (hTW.out.ticks (n' := n + 2) G3.out X3.out T3.out HF3.out (below_alloc w4 _) hx4 ht4 hF4 (Nat.le_refl _) (by simp)); clear hr4 hl4 ht4 hF4 hx4 tk4)
              | go_in)
            have R35 : Hid (RowP w5 a3 D1.length D1) := ((R3.out.1.below (below_alloc w4 (.cells #[.int .i64 jv] 3))).trn X4.out fun h0 bb off e hc => by
              rcases L3.out bb off e with h1 | h1
              · exact hTW.out.off bb h1 hc
              · have := hTW.out.t2.lt bb hc; have := G3.out.size; omega)
            go_loopw [16, 17] (fun q i wz => ∃ kk ii : Nat, ii ≤ D1.length ∧ kk ≤ D2.length ∧ q = .int .i64 kk ∧ i = .int .i64 ii ∧ Hid (D2.drop kk = ((D1.drop ii).filter is1).map dnD) ∧ Hid (Below w5.heap.size w5 wz)) (fun _ i _ => D1.length - (intOf i).toNat)
            case atStart => exact ⟨0, 0, Nat.zero_le _, Nat.zero_le _, rfl, rfl, HD2.out.symm, Below.refl _ _⟩
            case round =>
              obtain ⟨kk, ii, hii, hkk, rfl, rfl, hdr, hbz5⟩ := hrel
              by_cases hi : ii < D1.length
              · obtain ⟨b3, o3, e1, rfl, hb3, hx1, h0, h1⟩ := R35.out.item hbz5.out hi
                obtain ⟨t1, m1⟩ := e1
                simp only at h0 h1
                have HS := Lib.hid (take_cons_drop hx1)
                clear hx1
                by_cases ht : t1 = 1
                · have htb : (t1 == 1) = true := by simp [ht]
                  have hd1 : D2.drop kk = (0, m1) :: ((D1.drop (ii + 1)).filter is1).map dnD := by
                    rw [hdr.out, HS.out, List.filter_cons, if_pos (by show (t1 == 1) = true; exact htb)]
                    rfl
                  have hkl : kk < D2.length := by
                    rcases Nat.lt_or_ge kk D2.length with h9 | h9
                    · exact h9
                    · rw [List.drop_eq_nil_of_le h9] at hd1; cases hd1
                  have hx2 : D2[kk]? = some (0, m1) := by
                    have := congrArg (fun m => m[0]?) hd1
                    simpa using this
                  have HDR : Hid (D2.drop (kk + 1) = ((D1.drop (ii + 1)).filter is1).map dnD) := by
                    show _ = _
                    have := congrArg List.tail hd1
                    simpa using this
                  obtain ⟨b4, o4, e2, rfl, hb4, hy2, g0, g1⟩ := R4.out.1.item hbz5.out hkl
                  rw [hx2] at hy2
                  obtain rfl := Option.some.inj hy2
                  simp only at g0 g1
                  have d1 : decide ((D2.length : Int) ≤ (kk : Int)) = false := decide_eq_false (by omega)
                  clear hd1 hx2 hy2 hdr
                  go_wp2
                  go_quiet (fail)
                  go_wp2
                  go_roundw
                  case rel => exact ⟨kk + 1, ii + 1, by omega, by omega, by go_num, by go_num, HDR, hbz5.out.trans ⟨rfl, rfl, rfl, Nat.le_refl _, fun _ _ => rfl⟩⟩
                  case measure => simp [intOf]; omega
                · have htb : (t1 == 1) = false := by simp [ht]
                  have HDR : Hid (D2.drop kk = ((D1.drop (ii + 1)).filter is1).map dnD) := by
                    show _ = _
                    rw [hdr.out, HS.out, List.filter_cons, if_neg (by show ¬ ((t1 == 1) = true); simp [ht])]
                  clear hdr
                  go_wp2
                  go_roundw
                  case rel => exact ⟨kk, ii + 1, by omega, hkk, by go_num, by go_num, HDR, hbz5⟩
                  case measure => simp [intOf]; omega
              · obtain rfl : ii = D1.length := by omega
                have hd0 : D2.drop kk = [] := by rw [hdr.out, List.drop_eq_nil_of_le (Nat.le_refl _)]; rfl
                have hke : kk = D2.length := by
                  have := congrArg List.length hd0
                  simp at this
                  omega
                have HT9 : Hid (Two w wr b1 b2 [x, y] [y] ((k + 1 : Nat) : Int) L' (alW L') (n + 2) F3 F4) := ⟨TW2.out.t1.below hbz5.out, TW2.out.t2.below hbz5.out, TW2.out.f1, TW2.out.f2, TW2.out.off, keep_below TW2.out.bel hbz5.out⟩
                clear hdr hd0
                subst hke
                go_wp2
                go_roundw
                case rel => exact ⟨k + 1, n + 2, F3, F4, L', by omega, by omega, by go_num, by omega, HT9⟩
                case measure => simp [intOf]; omega
        · obtain rfl : k = 200 := by omega
          have k1 : (200 : Int) < (n2 : Int) := by omega
          go_wp2_with (go_at_call 10; refine (KN.out wr).mono ?_; rintro e w5 ⟨rfl, hb5⟩; have HB5 := Lib.hid hb5; clear hb5)
          go_ret
          exact ⟨rfl, keep_below hTW.out.bel HB5.out⟩
      · have k1 : ¬ ((k : Int) < (n2 : Int)) := by omega
        go_wp2_with (go_at_call 10; refine (KN.out wr).mono ?_; rintro e w5 ⟨rfl, hb5⟩; have HB5 := Lib.hid hb5; clear hb5)
        go_ret
        exact ⟨rfl, keep_below hTW.out.bel HB5.out⟩
  · have HO : Hid (okPz [x, y] = false) := by show _ = _; simpa using hok
    clear hok
    by_cases hok2 : okPz [y] = true
    · have HO2 := Lib.hid hok2
      clear hok2
      go_enter Try.func5, Try.ntmps5
      go_wp2_with (first
        | (go_at_call 11; have _t := tk1; refine (new_no _ 2 2 [x, y] _ (lit_ints w #[.int .i64 x, .int .i64 y] [x, y] 2 rfl rfl (by simp)) (by decide) HO.out).mono ?_; rintro e w1 ⟨rfl, hb1⟩; have B1 := Lib.hid (keep_below (below_alloc w _) hb1); clear hb1 tk1)
        | (go_at_call 11; have _t := tk2; refine (new_yes _ 1 1 [y] _ (lit_ints w1 #[.int .i64 y] [y] 1 rfl rfl (by simp)) HO2.out).mono ?_; rintro e w2 ⟨b2, F2, rfl, ht2, hF2, hb2⟩; have B2 := Lib.hid (keep_below (keep_below B1.out (below_alloc w1 _)) hb2); clear ht2 hF2 hb2 tk2)
        | (go_at_call 10; refine (KN.out w2).mono ?_; rintro e w5 ⟨rfl, hb5⟩; have HB5 := Lib.hid (keep_below B2.out hb5); clear hb5))
      go_ret
      exact ⟨rfl, HB5.out⟩
    · have HO2 : Hid (okPz [y] = false) := by show _ = _; simpa using hok2
      clear hok2
      go_enter Try.func5, Try.ntmps5
      go_wp2_with (first
        | (go_at_call 11; have _t := tk1; refine (new_no _ 2 2 [x, y] _ (lit_ints w #[.int .i64 x, .int .i64 y] [x, y] 2 rfl rfl (by simp)) (by decide) HO.out).mono ?_; rintro e w1 ⟨rfl, hb1⟩; have B1 := Lib.hid (keep_below (below_alloc w _) hb1); clear hb1 tk1)
        | (go_at_call 11; have _t := tk2; refine (new_no _ 1 1 [y] _ (lit_ints w1 #[.int .i64 y] [y] 1 rfl rfl (by simp)) (by decide) HO2.out).mono ?_; rintro e w2 ⟨rfl, hb2⟩; have B2 := Lib.hid (keep_below (keep_below B1.out (below_alloc w1 _)) hb2); clear hb2 tk2)
        | (go_at_call 10; refine (KN.out w2).mono ?_; rintro e w5 ⟨rfl, hb5⟩; have HB5 := Lib.hid (keep_below B2.out hb5); clear hb5))
      go_ret
      exact ⟨rfl, HB5.out⟩
end Go.Proofs.Ytdhchfmefdlloaa
