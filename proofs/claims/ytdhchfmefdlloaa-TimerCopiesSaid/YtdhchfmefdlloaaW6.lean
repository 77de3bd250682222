/- What is proved here: the walk of the law TimerCopies. Conditions: rows are not too long. -/
import Derived.Test.YtdhchfmefdlloaaCw
namespace Go.Proofs.Ytdhchfmefdlloaa
open Go.ChangeShapes Go.WideShapes Go.RowKit Go.Maps

set_option maxHeartbeats 8000000 in
set_option maxRecDepth 100000 in
theorem copies_walk (a : Option Addr) (n c : Nat) (l : List Int) (a1 : Option Addr) (n1 c1 : Nat) (LL : List (List Int)) (w : World) (hr : Row w a n l) (hn : n ≤ 140737488355328) (hr1 : RowR w a1 n1 LL) (hn1 : n1 ≤ 140737488355328) :
    Calls Try.prog 8 #[.slice a n c, .slice a1 n1 c1] w fun e w' => e = .returned (.bool true) ∧ Below w.heap.size w w' := by
  have hq1 := eqp_nil
  have KN := Lib.hid known_any
  obtain rfl : n = l.length := hr.1
  by_cases hok : okPz l = true
  · have hl8 := (okPz_iff.1 hok).1
    have CN := Lib.hid (new_yes a l.length c l w hr hok)
    have HR1 := Lib.hid hr1
    have HLL : Hid (n1 = LL.length) := hr1.1
    clear hr hr1
    by_cases h100 : n1 ≤ 100
    · have h100i : ¬ ((100 : Int) < (n1 : Int)) := by omega
      obtain ⟨hf, hhf⟩ : ∃ hf : Nat, n1 / 2 = hf := ⟨_, rfl⟩
      have hfd : (n1 : Int) / 2 = (hf : Int) := by omega
      have hft : (n1 : Int).tdiv 2 = (hf : Int) := by rw [Int.tdiv_eq_ediv_of_nonneg (by omega)]; exact hfd
      have hfle : hf ≤ n1 := by omega
      clear hok hhf
      go_enter Try.func8, Try.ntmps8
      go_wp2_with (go_at_call 11; refine CN.out.mono ?_; rintro e w1 ⟨b, F0, rfl, ht, hF, hb1⟩; have HT := Lib.hid ht; have HF := Lib.hid hF; have HB1 := Lib.hid hb1; clear ht hF hb1)
      go_loopw [7] (fun s wr => ∃ (k n' : Nat) (F : Nat → Prop) (L : List Wt), k ≤ hf ∧ s = .int .i64 k ∧ n' ≤ 8 * k ∧ Hid (Tim F wr b l k L n') ∧ Hid (∀ g, F g → w.heap.size ≤ g) ∧ Hid (Below w.heap.size w wr)) (fun s _ => hf - (intOf s).toNat)
      case atStart => exact ⟨0, 0, F0, [], Nat.zero_le _, rfl, Nat.le_refl _, HT, HF, HB1⟩
      case round =>
        obtain ⟨k, n', F, L, hk, rfl, hn', HTK, HFK, HBL⟩ := hrel
        by_cases hlt : k < hf
        · obtain ⟨b1, o1, sa, sn, sc, z, rfl, hB1, hz, hcell, hrow0, hrow, hs1, hs2⟩ := HR1.out.item HBL.out (show k < n1 by omega)
          have hsl : ∀ bb off, 0 < sn → sa = some ⟨bb, off, none⟩ → bb < w.heap.size := fun bb off h0 e => by
            obtain ⟨b9, o9, e9, hl9, _⟩ := hrow0.2 h0
            rw [e] at e9; cases e9; exact hl9
          have CT := Lib.hid (tick_v HTK.out (by omega) (by omega) hrow hs1 hs2 (fun h0 bb off e hc => by have := hsl bb off h0 e; have := HFK.out bb hc; omega) rfl rfl rfl (now2 := ((k + 1 : Nat) : Int)) rfl rfl)
          clear hrow hrow0 hz hsl
          go_wp2_with (go_at_call 14; refine CT.out.mono ?_; rintro e w2 ⟨F2, a2, c2, rfl, hr2, ht2, hF2, hx2⟩; have T2 := Lib.hid ht2; have HF2 := Lib.hid hF2; have X2 := Lib.hid hx2; clear hr2 ht2 hF2 hx2)
          have HB2 : Hid (Below w.heap.size w w2) := HBL.out.trans (X2.out.below HBL.out.size HFK.out)
          have hG : Hid (∀ g, F2 g → w.heap.size ≤ g) := fun g hg => by
            rcases HF2.out g hg with h1 | h1
            · exact HFK.out g h1
            · exact Nat.le_trans HBL.out.size h1
          go_roundw
          case rel => exact ⟨k + 1, n' + l.length, F2, _, by omega, by go_num, by omega, T2, hG, HB2⟩
          case measure => simp [intOf]; omega
        · obtain rfl : hf = k := by omega
          have CC := Lib.hid (copy_any HTK.out (by omega))
          have CW := Lib.hid (fun (V : World) (hb : Below wr.heap.size wr V) => waiting_w (HTK.out.below hb) (by omega) rfl rfl)
          have CNw := Lib.hid (fun (V : World) (hb : Below wr.heap.size wr V) => now_any (HTK.out.below hb))
          go_wp2_with (first
            | (go_at_call 13; refine CC.out.mono ?_; rintro e w3 ⟨bc, Fc, rfl, htc, hFc, hb3⟩; have TC := Lib.hid htc; have HFC := Lib.hid hFc; have HB3 := Lib.hid hb3; clear htc hFc hb3)
            | (go_at_call 18; refine (CW.out w3 HB3.out).mono ?_; rintro e w4 ⟨a4, c4, rfl, hr4, hl4, hb4⟩; have R4 := Lib.hid hr4; have HL4 := Lib.hid hl4; have HB4 := Lib.hid hb4; have HB34 := Lib.hid (keep_below HB3.out hb4); clear hr4 hl4 hb4)
            | (go_at_call 20; refine (CNw.out w4 HB34.out).mono ?_; rintro e w9 ⟨rfl, hw9⟩; have hw9 := hw9.symm; subst hw9))
          have CP0 : Hid (Cp w w4 w4.heap.size l bc (hf : Int) L n' Fc b (hf : Int) L n' F a4 (waitL L).length (waitL L) (.slice none 0 0) []) := by
            have g1 := HBL.out.size
            have g2 := HB3.out.size
            have g3 := HB4.out.size
            exact ⟨TC.out.below HB4.out, HTK.out.below HB34.out, R4.out, World.ownsRow_nil _ _ _ _, fun g e => (by cases e), fun g hg => Nat.le_trans g1 (HFC.out g hg), fun g h1 h2 => by have := HFC.out g h1; have := HTK.out.lt g h2; omega,
              fun g hg => by have := HTK.out.lt g hg; omega, fun h0 bb off e => ⟨by obtain ⟨b9, o9, e9, hl9, _⟩ := R4.out.2 h0; rw [e] at e9; cases e9; exact hl9, fun hc => by have := HL4.out bb off e; have := TC.out.lt bb hc; omega⟩, ⟨by omega, Nat.le_refl _⟩, keep_below HBL.out HB34.out⟩
          go_loopw [11, 12] (fun q s wr => ∃ (k : Nat) (T : List (Int × Int)) (v : Value) (Fk : Nat → Prop) (Lk : List Wt) (nk : Nat), hf ≤ k ∧ k ≤ n1 ∧ q = v ∧ s = .int .i64 k ∧ nk ≤ 8 * k ∧ T.length ≤ 2000 * k ∧
              Hid (T ++ runT l (LL.drop k) (k : Int) Lk = runT l (LL.drop hf) (hf : Int) L) ∧ Hid (Cp w wr w4.heap.size l bc (k : Int) Lk nk Fk b (hf : Int) L n' F a4 (waitL L).length (waitL L) v T)) (fun _ s _ => n1 - (intOf s).toNat)
          case atStart => exact ⟨hf, [], _, _, _, _, Nat.le_refl _, hfle, rfl, rfl, by omega, Nat.zero_le _, rfl, CP0⟩
          case round =>
            obtain ⟨k, T, v, Fk, Lk, nk, hk0, hk, hv9, rfl, hnk, hTl, hTE, hCP⟩ := hrel
            have hv9 := hv9.symm
            subst hv9
            by_cases hlt : k < n1
            · obtain ⟨b1, o1, sa, sn, sc, z, rfl, hB1, hz, hcell, hrow0, hrow, hs1, hs2⟩ := HR1.out.item hCP.out.bel hlt
              have hsl : ∀ bb off, 0 < sn → sa = some ⟨bb, off, none⟩ → bb < w.heap.size := fun bb off h0 e => by
                obtain ⟨b9, o9, e9, hl9, _⟩ := hrow0.2 h0
                rw [e] at e9; cases e9; exact hl9
              obtain ⟨D, hD⟩ : ∃ D, toldL l (k : Int) Lk z = D := ⟨_, rfl⟩
              have HTE2 : Hid ((T ++ D) ++ runT l (LL.drop (k + 1)) ((k : Int) + 1) (tickL l (k : Int) Lk z) = runT l (LL.drop hf) (hf : Int) L) := by
                show _ = _
                rw [← hTE.out, runT_step hz, hD, List.append_assoc]
              have hDl : D.length ≤ 1000 := by
                have h1 := told_len l (k : Int) Lk z
                have h2 := hCP.out.x.len
                rw [hD] at h1
                omega
              have CT := Lib.hid (tick_v hCP.out.x (by omega) (by omega) hrow hs1 hs2 (fun h0 bb off e hc => by have := hsl bb off h0 e; have := hCP.out.fx bb hc; omega) hD rfl rfl (now2 := ((k + 1 : Nat) : Int)) rfl rfl)
              obtain ⟨i0, hi0, hz0, hz1, hz2⟩ := info_parts due_info
              clear hrow hrow0 hz hsl hD
              have hbsz := hCP.out.bs.2
              go_wp2_with (first
                | (go_at_call 14; refine CT.out.mono ?_; rintro e w2 ⟨F2, a2, c2, rfl, hr2, ht2, hF2, hx2⟩; have R2 := Lib.hid hr2; have T2 := Lib.hid ht2; have HF2 := Lib.hid hF2; have X2 := Lib.hid hx2; have O2 := Lib.hid (hCP.out.own1 hx2); have hsz2 := Nat.le_trans hbsz hx2.size; clear hr2 ht2 hF2 hx2)
                | (at_builtin; refine wpList_append_p _ rfl _ _ 33 rfl w4.heap.size 48 i0 (.agg #[.int .i64 0, .int .i64 0]) Try.underlying33 hi0 hz0 hz1 hz2 rfl v T.length (duC T) rfl O2.out a2 D.length c2 D rfl R2.out.1 (by omega) hsz2 ?_; intro v' w5 ho5 hg5 hl5; have O5 := Lib.hid ho5; have G5 := Lib.hid hg5; have L5 := Lib.hid hl5; clear ho5 hg5 hl5; go_frame)
                | go_in)
              have CP2 := Lib.hid (hCP.out.step X2.out T2.out HF2.out O5.out rfl G5.out L5.out)
              have hll : (T ++ D).length ≤ 2000 * (k + 1) := by rw [List.length_append]; omega
              go_roundw
              case rel => exact ⟨k + 1, T ++ D, v', F2, _, nk + l.length, by omega, by omega, rfl, by go_num, by omega, hll, HTE2, CP2⟩
              case measure => simp [intOf]; omega
            · obtain rfl : k = n1 := by omega
              have HTT : Hid (T = runT l (LL.drop hf) (hf : Int) L) := by
                show _ = _
                rw [← hTE.out, List.drop_eq_nil_of_le (by have := HLL.out; omega)]
                show T = T ++ []
                rw [List.append_nil]
              obtain ⟨av, cv, rfl, -, hRT⟩ := RowP.own hCP.out.own
              have CW2 := Lib.hid (waiting_w hCP.out.y (by omega) rfl rfl)
              have CN2 := Lib.hid (fun (V : World) (hb : Below wr.heap.size wr V) => now_any (hCP.out.y.below hb))
              have PL2 := Lib.hid (fun (V : World) (hb : Below wr.heap.size wr V) => plain_any a4 (waitL L).length c4 (waitL L) V (hCP.out.r.below hb) (by rw [wait_len]; have := HTK.out.len; omega))
              have hwl : (waitL L).length ≤ 100000 := by rw [wait_len]; have := HTK.out.len; omega
              have tk1 : True := trivial
              clear hTE
              go_wp2_with (first
                | (go_at_call 18; refine CW2.out.mono ?_; rintro e w5 ⟨a5, c5, rfl, hr5, -, hb5⟩; have R5 := Lib.hid hr5; have HB5 := Lib.hid hb5; clear hr5 hb5)
                | (go_at_call 17; have _t := tk1; refine (plain_any a5 _ c5 _ w5 R5.out (by omega)).mono ?_; rintro e w6 ⟨a6, c6, rfl, hr6, hb6⟩; have R6 := Lib.hid hr6; have HB6 := Lib.hid (keep_below HB5.out hb6); clear hr6 hb6 tk1)
                | (go_at_call 17; refine (PL2.out w6 HB6.out).mono ?_; rintro e w7 ⟨a7, c7, rfl, hr7, hb7⟩; have R7 := Lib.hid hr7; have R67 := Lib.hid (R6.out.below hb7); have HB7 := Lib.hid (keep_below HB6.out hb7); clear hr7 hb7)
                | (go_at_call 16; refine (same_any _ _ _ _ _ _ (waitL L) w7 R67.out R7.out (by omega)).mono ?_; rintro e w8 ⟨rfl, hb8⟩; have HB8 := Lib.hid (keep_below HB7.out hb8); clear hb8)
                | (go_at_call 20; refine (CN2.out w8 HB8.out).mono ?_; rintro e w9 ⟨rfl, hw9⟩; have hw9 := hw9.symm; subst hw9))
              have CP1 : Hid (Cp w w8 w8.heap.size l b (hf : Int) L n' F bc (k : Int) Lk nk Fk av T.length T (.slice none 0 0) []) := by
                have hcp := hCP.out
                have g1 := hcp.bel.size
                have g2 := HB8.out.size
                exact ⟨hcp.y.below HB8.out, hcp.x.below HB8.out, hRT.below HB8.out, World.ownsRow_nil _ _ _ _, fun g e => (by cases e), HFK.out, fun g h1 h2 => hcp.off g h2 h1,
                  fun g hg => Nat.lt_of_lt_of_le (hcp.x.lt g hg) g2, fun h0 bb off e => ⟨by obtain ⟨b9, o9, e9, hl9, _⟩ := hRT.2 h0; rw [e] at e9; cases e9; omega, fun hc => by
                    have h1 := (hcp.own.lt bb (by rw [e]; rfl)).1
                    have := hcp.ylow bb hc
                    omega⟩, ⟨by omega, Nat.le_refl _⟩, keep_below hcp.bel HB8.out⟩
              have HTl := Lib.hid hTl
              have HNK := Lib.hid hnk
              clear hCP hTl hnk hk0
              have HTT0 := Lib.hid HTT.out
              clear HTT
              go_loopw [13, 14] (fun q s wr => ∃ (k2 : Nat) (T2 : List (Int × Int)) (v2 : Value) (Fk2 : Nat → Prop) (Lk2 : List Wt) (nk2 : Nat), hf ≤ k2 ∧ k2 ≤ k ∧ q = v2 ∧ s = .int .i64 k2 ∧ nk2 ≤ 8 * k2 ∧ T2.length ≤ 2000 * k2 ∧
                  Hid (T2 ++ runT l (LL.drop k2) (k2 : Int) Lk2 = runT l (LL.drop hf) (hf : Int) L) ∧ Hid (Cp w wr w8.heap.size l b (k2 : Int) Lk2 nk2 Fk2 bc (k : Int) Lk nk Fk av T.length T v2 T2)) (fun _ s _ => k - (intOf s).toNat)
              case atStart => exact ⟨hf, [], _, _, _, _, Nat.le_refl _, hfle, rfl, rfl, by omega, Nat.zero_le _, rfl, CP1⟩
              case round =>
                obtain ⟨k2, T2, v2, Fk2, Lk2, nk2, hk0, hk', hv9, rfl, hnk, hTl, hTE, hCP⟩ := hrel
                have hv9 := hv9.symm
                subst hv9
                by_cases hlt : k2 < k
                · obtain ⟨b1, o1, sa, sn, sc, z, rfl, hB1, hz, hcell, hrow0, hrow, hs1, hs2⟩ := HR1.out.item hCP.out.bel hlt
                  have hsl : ∀ bb off, 0 < sn → sa = some ⟨bb, off, none⟩ → bb < w.heap.size := fun bb off h0 e => by
                    obtain ⟨b9, o9, e9, hl9, _⟩ := hrow0.2 h0
                    rw [e] at e9; cases e9; exact hl9
                  obtain ⟨D, hD⟩ : ∃ D, toldL l (k2 : Int) Lk2 z = D := ⟨_, rfl⟩
                  have HTE2 : Hid ((T2 ++ D) ++ runT l (LL.drop (k2 + 1)) ((k2 : Int) + 1) (tickL l (k2 : Int) Lk2 z) = runT l (LL.drop hf) (hf : Int) L) := by
                    show _ = _
                    rw [← hTE.out, runT_step hz, hD, List.append_assoc]
                  have hDl : D.length ≤ 1000 := by
                    have h1 := told_len l (k2 : Int) Lk2 z
                    have h2 := hCP.out.x.len
                    rw [hD] at h1
                    omega
                  have CT := Lib.hid (tick_v hCP.out.x (by omega) (by omega) hrow hs1 hs2 (fun h0 bb off e hc => by have := hsl bb off h0 e; have := hCP.out.fx bb hc; omega) hD rfl rfl (now2 := ((k2 + 1 : Nat) : Int)) rfl rfl)
                  obtain ⟨i0, hi0, hz0, hz1, hz2⟩ := info_parts due_info
                  clear hrow hrow0 hz hsl hD
                  have hbsz := hCP.out.bs.2
                  go_wp2_with (first
                    | (go_at_call 14; refine CT.out.mono ?_; rintro e w2 ⟨F2, a2, c2, rfl, hr2, ht2, hF2, hx2⟩; have R2 := Lib.hid hr2; have TT2 := Lib.hid ht2; have HF2 := Lib.hid hF2; have X2 := Lib.hid hx2; have O2 := Lib.hid (hCP.out.own1 hx2); have hsz2 := Nat.le_trans hbsz hx2.size; clear hr2 ht2 hF2 hx2)
                    | (at_builtin; refine wpList_append_p _ rfl _ _ 33 rfl w8.heap.size 48 i0 (.agg #[.int .i64 0, .int .i64 0]) Try.underlying33 hi0 hz0 hz1 hz2 rfl v2 T2.length (duC T2) rfl O2.out a2 D.length c2 D rfl R2.out.1 (by omega) hsz2 ?_; intro v' w5 ho5 hg5 hl5; have O5 := Lib.hid ho5; have G5 := Lib.hid hg5; have L5 := Lib.hid hl5; clear ho5 hg5 hl5; go_frame)
                    | go_in)
                  have CP2 := Lib.hid (hCP.out.step X2.out TT2.out HF2.out O5.out rfl G5.out L5.out)
                  have hll : (T2 ++ D).length ≤ 2000 * (k2 + 1) := by rw [List.length_append]; omega
                  go_roundw
                  case rel => exact ⟨k2 + 1, T2 ++ D, v', F2, _, nk2 + l.length, by omega, by omega, rfl, by go_num, by omega, hll, HTE2, CP2⟩
                  case measure => simp [intOf]; omega
                · obtain rfl : k2 = k := by omega
                  have HTT : Hid (T2 = runT l (LL.drop hf) (hf : Int) L) := by
                    show _ = _
                    rw [← hTE.out, List.drop_eq_nil_of_le (by have := HLL.out; omega)]
                    show T2 = T2 ++ []
                    rw [List.append_nil]
                  obtain ⟨aw, cw, rfl, -, hRT2⟩ := RowP.own hCP.out.own
                  have HEQ : Hid (T2 = T) := HTT.out.trans HTT0.out.symm
                  have RP1 := Lib.hid hCP.out.r
                  have RP2 : Hid (RowP wr aw T.length T) := by rw [← HEQ.out]; exact hRT2
                  have hTl9 : T.length ≤ 200000 := by have := HTl.out; omega
                  have hTe : T2.length = T.length := by rw [HEQ.out]
                  rw [hTe]
                  have CN3 := Lib.hid (fun (V : World) (hb : Below wr.heap.size wr V) => now_any (hCP.out.x.below hb))
                  have CN4 := Lib.hid (fun (V : World) (hb : Below wr.heap.size wr V) => now_any (hCP.out.y.below hb))
                  have tk2 : True := trivial
                  have tk3 : True := trivial
                  clear hTE hRT2
                  go_wp2_with (first
                    | (go_at_call 17; have _t := tk2; refine (plain_any av T.length cv T wr RP1.out (by omega)).mono ?_; rintro e wa ⟨aa, ca, rfl, hra, hba⟩; have RA := Lib.hid hra; have BA := Lib.hid hba; clear hra hba tk2)
                    | (go_at_call 17; refine (plain_any aw T.length cw T wa (RP2.out.below BA.out) (by omega)).mono ?_; rintro e wb ⟨ab, cb, rfl, hrb, hbb⟩; have RB := Lib.hid hrb; have RAB := Lib.hid (RA.out.below hbb); have BB := Lib.hid (keep_below BA.out hbb); clear hrb hbb)
                    | (go_at_call 16; refine (same_any _ _ _ _ _ _ T wb RAB.out RB.out (by omega)).mono ?_; rintro e wc ⟨rfl, hbc⟩; have BC := Lib.hid (keep_below BB.out hbc); clear hbc)
                    | (go_at_call 20; have _t := tk3; refine (CN3.out wc BC.out).mono ?_; rintro e w9 ⟨rfl, hw9⟩; have hw9 := hw9.symm; subst hw9; clear tk3)
                    | (go_at_call 20; refine (CN4.out wc BC.out).mono ?_; rintro e w9 ⟨rfl, hw9⟩; have hw9 := hw9.symm; subst hw9)
                    | (go_at_call 10; refine (KN.out wc).mono ?_; rintro e wd ⟨rfl, hbd⟩; have BD := Lib.hid (keep_below BC.out hbd); clear hbd))
                  go_ret
                  exact ⟨rfl, keep_below hCP.out.bel BD.out⟩
    · have h100i : (100 : Int) < (n1 : Int) := by omega
      clear hok
      go_enter Try.func8, Try.ntmps8
      go_wp2_with (first
        | (go_at_call 11; refine CN.out.mono ?_; rintro e w1 ⟨b, F0, rfl, ht, hF, hb1⟩; have HB1 := Lib.hid hb1; clear ht hF hb1)
        | (go_at_call 10; refine (KN.out w1).mono ?_; rintro e w2 ⟨rfl, hb2⟩; have HB2 := Lib.hid (keep_below HB1.out hb2); clear hb2))
      go_ret
      exact ⟨rfl, HB2.out⟩
  · have hokf : okPz l = false := by simpa using hok
    have CN := Lib.hid (new_no a l.length c l w hr hn hokf)
    clear hr hok hokf hr1
    go_enter Try.func8, Try.ntmps8
    go_wp2_with (first
      | (go_at_call 11; refine CN.out.mono ?_; rintro e w1 ⟨rfl, hb1⟩; have HB1 := Lib.hid hb1; clear hb1)
      | (go_at_call 10; refine (KN.out w1).mono ?_; rintro e w2 ⟨rfl, hb2⟩; have HB2 := Lib.hid (keep_below HB1.out hb2); clear hb2))
    go_ret
    exact ⟨rfl, HB2.out⟩
end Go.Proofs.Ytdhchfmefdlloaa
