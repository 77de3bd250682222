/- What is proved here: the walk of the law TimerOnce. Conditions: rows are not too long, the number is a small one. -/
import Derived.Test.YtdhchfmefdlloaaOn
import Derived.Deep.CutBlock
import Derived.Deep.CutRange
import Derived.Outline
namespace Go.Proofs.Ytdhchfmefdlloaa
open Go.ChangeShapes Go.WideShapes Go.RowKit Go.Maps

abbrev rwT (v : Value) (T : List Wt) : Rw := ⟨48, 2, v, (T.map (·.1)).length, duC (T.map (·.1))⟩
abbrev rwI (v : Value) (l : List Int) : Rw := ⟨3, 1, v, l.length, l.map (Value.int .i64)⟩
theorem own_rwI {w : World} {B : Nat} {v : Value} {P Q : List Int} {m : Nat} (ho : w.ownsRow B 3 1 v (P.length + m) (P.map (Value.int .i64) ++ Q.map (Value.int .i64))) (hm : m = Q.length) :
    w.ownsRow B (rwI v (P ++ Q)).e (rwI v (P ++ Q)).s (rwI v (P ++ Q)).v (rwI v (P ++ Q)).n (rwI v (P ++ Q)).xs := by
  show w.ownsRow B 3 1 v (P ++ Q).length ((P ++ Q).map (Value.int .i64))
  rw [List.length_append, List.map_append, ← hm]
  exact ho
theorem own_rwW {w : World} {B : Nat} {v : Value} {P Q : List Wt} {m : Nat} (ho : w.ownsRow B 3 1 v ((wtC P).length + m) ((wtC P).map (Value.int .i64) ++ (wtC Q).map (Value.int .i64))) (hm : m = (wtC Q).length) :
    w.ownsRow B (rwI v (wtC (P ++ Q))).e (rwI v (wtC (P ++ Q))).s (rwI v (wtC (P ++ Q))).v (rwI v (wtC (P ++ Q))).n (rwI v (wtC (P ++ Q))).xs := by
  rw [wtC_append]
  exact own_rwI ho hm
theorem own_rwT {w : World} {B : Nat} {v : Value} {P Q : List Wt} {m : Nat} (ho : w.ownsRow B 48 2 v ((P.map (·.1)).length + m) (duC (P.map (·.1)) ++ duC (Q.map (·.1)))) (hm : m = Q.length) :
    w.ownsRow B (rwT v (P ++ Q)).e (rwT v (P ++ Q)).s (rwT v (P ++ Q)).v (rwT v (P ++ Q)).n (rwT v (P ++ Q)).xs := by
  show w.ownsRow B 48 2 v ((P ++ Q).map (·.1)).length (duC ((P ++ Q).map (·.1)))
  rw [List.map_append, List.length_append, duC_append, show (Q.map (fun x : Wt => x.1)).length = m by rw [List.length_map, hm]]
  exact ho
theorem items' {w W : World} {a : Option Addr} {n k : Nat} {l : List Int} (h : Row w a n l) (hb : Below w.heap.size w W) (hk : k < n) : ∃ b off x, a = some ⟨b, off, none⟩ ∧ b < w.heap.size ∧ l[k]? = some x ∧ W.cell? ⟨b, off + k, none⟩ = some (.int .i64 x) := by
  obtain ⟨b, off, x, e, hlt, hx, hc⟩ := h.item hk
  exact ⟨b, off, x, e, hlt, hx, keep_cell hb hc⟩
def OffR (a : Option Addr) (n : Nat) (rs : List Rw) : Prop := 0 < n → ∀ g off, a = some ⟨g, off, none⟩ → ∀ (i : Nat) (r : Rw), rs[i]? = some r → r.v.ownBlock ≠ some g
theorem OffR.set {a : Option Addr} {n : Nat} {rs : List Rw} (h : OffR a n rs) {w : World} {D : List (Int × Int)} (hr : RowP w a n D) {i : Nat} {r r' : Rw} (hi : rs[i]? = some r) (hl : r'.v.ownBlock = r.v.ownBlock ∨ r'.v.ownBlock = some w.heap.size) : OffR a n (rs.set i r') := by
  intro h0 g off e j q hq hc
  have hil : i < rs.length := (List.getElem?_eq_some_iff.1 hi).1
  by_cases hj : j = i
  · subst hj
    rw [List.getElem?_set_self hil] at hq
    obtain rfl := Option.some.inj hq
    rcases hl with e1 | e1
    · rw [e1] at hc; exact h h0 g off e _ r hi hc
    · rw [e1] at hc
      cases hc
      obtain ⟨b1, o1, e2, hlt, _⟩ := hr.2 h0
      rw [e] at e2
      cases e2
      exact Nat.lt_irrefl _ hlt
  · rw [List.getElem?_set_ne (Ne.symm hj)] at hq
    exact h h0 g off e j q hq hc
theorem OffR.row {a : Option Addr} {n : Nat} {rs : List Rw} (h : OffR a n rs) {w w' : World} {D : List (Int × Int)} (hr : RowP w a n D) {i : Nat} {r : Rw} (hi : rs[i]? = some r) (hg : w.grownBy w' r.v.ownBlock) : RowP w' a n D :=
  hr.trn (Trn.of_grown hg (F := fun g => r.v.ownBlock = some g) (fun _ e => e)) fun h0 b off e hc => h h0 b off e i r hi hc
theorem cut_small {j : Int} (h : 0 ≤ j ∧ j ≤ 255) : cutJ j = j := by unfold cutJ; omega
set_option maxHeartbeats 16000000 in
set_option maxRecDepth 100000 in
theorem once_walk (a : Option Addr) (n c : Nat) (l : List Int) (a1 : Option Addr) (n1 c1 : Nat) (l1 : List Int) (sl : Int) (w : World) (hr : Row w a n l) (hn : n ≤ 140737488355328) (hr1 : RowB w a1 n1 l1) (_hn1 : n1 ≤ 140737488355328) (hsl : 0 ≤ sl ∧ sl ≤ 255) :
    Calls Try.prog 4 #[.slice a n c, .slice a1 n1 c1, .int .u8 sl] w fun e w' => e = .returned (.bool true) ∧ Below w.heap.size w w' := by
  have hq1 := eqp_nil
  have KN := Lib.hid known_any
  obtain rfl : n = l.length := hr.1
  by_cases h8 : l.length ≤ 8
  · have h8i : ¬ ((8 : Int) < (l.length : Int)) := by omega
    by_cases hok : okPz l = true
    · have HP3 := Lib.hid (okPz_iff.1 hok).2
      have CN := Lib.hid (new_yes a l.length c l w hr hok)
      have HR := Lib.hid hr
      have HR1 := Lib.hid hr1
      obtain ⟨i1, hi1, ii0, ii1, ii2⟩ := info_parts int_info
      clear hr hr1 hok
      go_enter Try.func4, Try.ntmps4
      go_wp2_with (go_at_call 11; refine CN.out.mono ?_; rintro e w1 ⟨b, F0, rfl, ht, hF, hb1⟩; have HT := Lib.hid ht; have HF := Lib.hid hF; have HB1 := Lib.hid hb1; clear ht hF hb1)
      go_loopw [9, 10, 11, 12, 14] (fun q9 q10 q11 q12 q14 wr => ∃ (k jc n' : Nat) (F : Nat → Prop) (L W T : List Wt) (vT vA vW : Value), (k : Int) ≤ sl ∧ q9 = vT ∧ q10 = vA ∧ q11 = .int .i64 jc ∧ q12 = vW ∧ q14 = .int .i64 k ∧ jc ≤ 8 * k ∧ n' ≤ 8 * k ∧ W.length ≤ 8 * k ∧
        Hid (OnceI l k W L T) ∧ Hid (Tim F wr b l k L n') ∧ Hid (∀ g, F g → w.heap.size ≤ g) ∧ Hid (Rws wr w.heap.size F [rwT vT T, rwI vA (T.map (·.2)), rwI vW (wtC W)]) ∧ Hid (Below w.heap.size w wr)) (fun _ _ _ _ s _ => sl.toNat - (intOf s).toNat)
      case atStart => exact ⟨0, 0, 0, F0, [], [], [], _, _, _, hsl.1, rfl, rfl, rfl, rfl, rfl, Nat.le_refl _, Nat.le_refl _, Nat.le_refl _, OnceI.start l, HT, HF, (((Rws.none w1 w.heap.size F0).more 48 2).more 3 1).more 3 1, HB1⟩
      case round =>
        obtain ⟨k, jc, n', F, L, W, T, vT, vA, vW, hk, e9, e10, rfl, e12, rfl, hjc, hn', hWl, hO, hT, hF, hRS, hB⟩ := hrel
        have e9 := e9.symm
        have e10 := e10.symm
        have e12 := e12.symm
        subst e9; subst e10; subst e12
        by_cases hlt : (k : Int) < sl
        · have hk255 : k ≤ 255 := by omega
          go_wp2
          go_loopw [11, 12, 15, 16] (fun q11 q12 q15 q16 wr2 => ∃ (ii jc2 : Nat) (Wi : List Wt) (P : List Int) (vW2 vP : Value), ii ≤ l.length ∧ q11 = .int .i64 jc2 ∧ q12 = vW2 ∧ q15 = vP ∧ q16 = .int .i64 ii ∧ jc2 ≤ 8 * k + ii ∧ Wi.length ≤ 8 * k + ii ∧ P.length ≤ ii ∧
            Hid (Wi = W ++ rel (k : Int) (l.take ii) 0 P) ∧ Hid (P.length = cntR (k : Int) (l.take ii)) ∧ Hid (Tim F wr2 b l k L n') ∧ Hid (Rws wr2 w.heap.size F [rwT vT T, rwI vA (T.map (·.2)), rwI vW2 (wtC Wi), rwI vP P]) ∧ Hid (Below w.heap.size w wr2)) (fun _ _ _ i _ => l.length - (intOf i).toNat)
          case atStart => exact ⟨0, jc, W, [], _, _, Nat.zero_le _, rfl, rfl, rfl, rfl, by omega, by omega, Nat.le_refl _, (List.append_nil W).symm, rfl, hT, hRS.out.more 3 1, hB⟩
          case round =>
            obtain ⟨ii, jc2, Wi, P, vW2, vP, hii, rfl, f12, f15, rfl, hjc2, hWil, hPl, hWi, hPc, hT2, hRS2, hB2⟩ := hrel
            have f12 := f12.symm
            have f15 := f15.symm
            subst f12; subst f15
            by_cases hi : ii < l.length
            · obtain ⟨b1, o1, p, rfl, hbb, hx, hcp⟩ := items' HR.out hB2.out hi
              have hpp := HP3.out p (List.mem_of_getElem? hx)
              have HTK := Lib.hid (take_cat hx)
              have HLT : Hid ((l.take ii).length = ii) := by show _ = _; rw [List.length_take]; omega
              clear hx
              by_cases hq : (k : Int) % p = 0
              · have hqb : ((k : Int) % p == 0) = true := by simp [hq]
                go_upto_if 68 with fail
                go_cut [17] from 63 to 73 (fun v wx => ∃ jv : Int, v = .int .i64 jv ∧ (0 ≤ jv ∧ jv ≤ 255) ∧ wx = wr)
                case first =>
                  by_cases hj : jc2 < n1
                  · obtain ⟨bj, oj, jv, rfl, hbj, hjx, hcj, j0, j1⟩ := HR1.out.item hB2.out hj
                    have k1 : (jc2 : Int) < (n1 : Int) := by omega
                    clear hjx
                    go_wp2
                    go_meet
                    exact ⟨jv, rfl, ⟨j0, j1⟩, rfl⟩
                  · have k1 : ¬ ((jc2 : Int) < (n1 : Int)) := by omega
                    go_wp2
                    go_meet
                    exact ⟨0, rfl, ⟨by omega, by omega⟩, rfl⟩
                case rest =>
                  obtain ⟨jv, rfl, hjr, rfl⟩ := hcut
                  have tkA : True := trivial
                  have tkB : True := trivial
                  have HWI : Hid (Wi ++ [(((ii : Int), (k : Int)), (k : Int) + jv)] = W ++ rel (k : Int) (l.take (ii + 1)) 0 (P ++ [jv])) := by
                    show _ = _
                    rw [HTK.out, rel_snoc (k : Int) (l.take ii) 0 P p jv hPc.out hq, ← List.append_assoc, ← hWi.out, HLT.out, cut_small hjr, Int.zero_add]
                  have HPC : Hid ((P ++ [jv]).length = cntR (k : Int) (l.take (ii + 1))) := by
                    show _ = _
                    rw [HTK.out, cntR_snoc, if_pos hq, List.length_append, ← hPc.out]; rfl
                  have hwc : (wtC Wi).length ≤ 10000 := by rw [wtC_len]; omega
                  have RA := Lib.hid (hRS2.out.below (below_alloc wc (.cells #[.int .i64 jv] 3)))
                  have TA := Lib.hid (hT2.out.below (below_alloc wc (.cells #[.int .i64 jv] 3)))
                  have BA := Lib.hid (keep_below hB2.out (below_alloc wc (.cells #[.int .i64 jv] 3)))
                  have hbw := hB2.out.size
                  go_wp2_with (first
                    | (at_builtin; have _t := tkA; refine wpList_append_own_at _ rfl _ _ 22 rfl w.heap.size 3 i1 (.int .i64 0) 1 8 Try.underlying22 hi1 ii0 ii1 ii2 rfl (by decide) vP P.length (P.map (Value.int .i64)) rfl (RA.out.own 3 _ rfl) ⟨wc.heap.size, 0, none⟩ 1 1 [.int .i64 jv] rfl rfl (cell_one_new _ _ _) (ints_oneCell .i64 [jv]) (by unfold maxLen; omega) (by omega) (by simp; omega) ?_; intro v' w3 ho3 hg3 _ hl3; have R3 := Lib.hid (RA.out.set (i := 3) (r' := rwI v' (P ++ [jv])) rfl hg3 (own_rwI (Q := [jv]) ho3 rfl) hl3 TA.out.lt); have T3 := Lib.hid (TA.out.rowed hg3 (fun g e => RA.out.off 3 _ g rfl e)); have B3 := Lib.hid (BA.out.grown hg3 BA.out.size (fun j e => ((RA.out.own 3 _ rfl).lt j e).1)); have R4 := Lib.hid (R3.out.below (below_alloc w3 (.cells #[.int .i64 ii, .int .i64 k, .int .i64 ((k : Int) + jv)] 3))); have T4 := Lib.hid (T3.out.below (below_alloc w3 (.cells #[.int .i64 ii, .int .i64 k, .int .i64 ((k : Int) + jv)] 3))); have B4 := Lib.hid (keep_below B3.out (below_alloc w3 (.cells #[.int .i64 ii, .int .i64 k, .int .i64 ((k : Int) + jv)] 3))); have hb3 := B3.out.size; clear ho3 hg3 hl3 tkA; go_frame)
                    | (at_builtin; have _t := tkB; refine wpList_append_own_at _ rfl _ _ 22 rfl w.heap.size 3 i1 (.int .i64 0) 1 8 Try.underlying22 hi1 ii0 ii1 ii2 rfl (by decide) vW2 (wtC Wi).length ((wtC Wi).map (Value.int .i64)) rfl (R4.out.own 2 _ rfl) ⟨w3.heap.size, 0, none⟩ 3 3 [.int .i64 ii, .int .i64 k, .int .i64 ((k : Int) + jv)] rfl rfl (fun j0 x0 hj0 => by rw [add_plain', Nat.zero_add]; exact cells_new w3 #[.int .i64 ii, .int .i64 k, .int .i64 ((k : Int) + jv)] 3 j0 x0 hj0) (ints_oneCell .i64 [(ii : Int), (k : Int), (k : Int) + jv]) (by unfold maxLen; omega) (by omega) (by simp; omega) ?_; intro v2 w5 ho5 hg5 _ hl5; have R5 := Lib.hid (R4.out.set (i := 2) (r' := rwI v2 (wtC (Wi ++ [(((ii : Int), (k : Int)), (k : Int) + jv)]))) rfl hg5 (own_rwW (Q := [(((ii : Int), (k : Int)), (k : Int) + jv)]) ho5 rfl) hl5 T4.out.lt); have T5 := Lib.hid (T4.out.rowed hg5 (fun g e => R4.out.off 2 _ g rfl e)); have B5 := Lib.hid (B4.out.grown hg5 B4.out.size (fun j e => ((R4.out.own 2 _ rfl).lt j e).1)); clear ho5 hg5 hl5 tkB; go_frame)
                    | go_in)
                  have hWl2 : (Wi ++ [(((ii : Int), (k : Int)), (k : Int) + jv)]).length ≤ 8 * k + (ii + 1) := by rw [List.length_append]; simp; omega
                  have hPl2 : (P ++ [jv]).length ≤ ii + 1 := by rw [List.length_append]; simp; omega
                  go_roundw
                  case rel => exact ⟨ii + 1, jc2 + 1, _, P ++ [jv], v2, v', by omega, by go_num, rfl, rfl, by go_num, by omega, hWl2, hPl2, HWI, HPC, T5, R5, B5⟩
                  case measure => simp [intOf]; omega
              · have hqb : ((k : Int) % p == 0) = false := by simp [hq]
                have HWI : Hid (Wi = W ++ rel (k : Int) (l.take (ii + 1)) 0 P) := by
                  show _ = _
                  rw [HTK.out, rel_snoc_no (k : Int) (l.take ii) 0 P p hq]
                  exact hWi.out
                have HPC : Hid (P.length = cntR (k : Int) (l.take (ii + 1))) := by
                  show _ = _
                  rw [HTK.out, cntR_snoc, if_neg hq]; exact hPc.out
                go_wp2
                go_roundw
                case rel => exact ⟨ii + 1, jc2, Wi, P, _, _, by omega, rfl, rfl, rfl, by go_num, by omega, by omega, by omega, HWI, HPC, hT2, hRS2, hB2⟩
                case measure => simp [intOf]; omega
            · obtain rfl : ii = l.length := by omega
              have HWI9 : Hid (Wi = W ++ rel (k : Int) l 0 P) := by show _ = _; rw [hWi.out, List.take_length]
              have hown3 : wr.ownsRow w.heap.size 3 1 vP P.length (P.map (Value.int .i64)) := hRS2.out.own 3 _ rfl
              obtain ⟨av, cv, hvP, hrw, hc1, hc2, hc3⟩ := own_caps hown3
              have hoff : 0 < P.length → ∀ g off, av = some ⟨g, off, none⟩ → ¬ F g := fun _ g off e => hRS2.out.off 3 _ g rfl (by show vP.ownBlock = some g; rw [hvP, e]; rfl)
              clear hown3
              subst hvP
              obtain ⟨D, hD⟩ : ∃ D, toldL l (k : Int) L P = D := ⟨_, rfl⟩
              have hDl : D.length ≤ 4000 := by
                have h1 := told_len l (k : Int) L P
                have h2 := hT2.out.len
                rw [hD] at h1
                omega
              have HO2 : Hid (OnceI l (k + 1) Wi (tickL l (k : Int) L P) (T ++ D.map (fun x => (x, (k : Int))))) := by
                have h1 := hO.out.step P
                rw [hD, ← HWI9.out] at h1
                exact h1
              have CT := Lib.hid (tick_w hT2.out (by omega) (by omega) hrw hc1 hc2 hoff hD rfl rfl (now2 := ((k + 1 : Nat) : Int)) rfl rfl)
              generalize tickL l (k : Int) L P = L' at HO2 CT
              have hTl : T.length ≤ 8 * k := by have := hO.out.1; omega
              clear hrw hc3 hoff hD hWi hPc
              go_wp2_with (go_at_call 14; refine CT.out.mono ?_; rintro e w4 ⟨F2, a4, c4, rfl, hr4, hl4, ht4, hF4, hx4⟩; have R4 := Lib.hid hr4.1; have T4 := Lib.hid ht4; have HF4 := Lib.hid hF4; have RS4 := Lib.hid ((hRS2.out.trn hx4 hF4).take 3); have B4 := Lib.hid (hB2.out.trans (hx4.below hB2.out.size hF.out)); have O4 : Hid (OffR a4 D.length [rwT vT T, rwI vA (T.map (·.2)), rwI vW2 (wtC Wi)]) := (fun _ g off e i r hi hc => (by
                have hi4 : [rwT vT T, rwI vA (T.map (·.2)), rwI vW2 (wtC Wi), rwI (.slice av P.length cv) P][i]? = some r := by
                  match i, hi with
                  | 0, hi => exact hi
                  | 1, hi => exact hi
                  | 2, hi => exact hi
                  | q + 3, hi => simp at hi
                rcases hl4 g off e with h1 | h1
                · exact hRS2.out.off i r g hi4 hc h1
                · have := ((hRS2.out.own i r hi4).lt g hc).2; omega)); clear hr4 hl4 ht4 hF4 hx4)
              have HG4 : Hid (∀ g, F2 g → w.heap.size ≤ g) := fun g hg => by
                rcases HF4.out g hg with h1 | h1
                · exact hF.out g h1
                · exact Nat.le_trans hB2.out.size h1
              obtain ⟨i0, hi0, hz0, hz1, hz2⟩ := info_parts due_info
              go_loopw [9, 10, 19] (fun q9 q10 q19 wr3 => ∃ (ii : Nat) (T2 : List Wt) (vT2 vA2 : Value), ii ≤ D.length ∧ q9 = vT2 ∧ q10 = vA2 ∧ q19 = .int .i64 ii ∧ T2.length ≤ 8 * k + ii ∧ Hid (T2 = T ++ (D.take ii).map (fun x => (x, (k : Int)))) ∧ Hid (Tim F2 wr3 b l ((k + 1 : Nat) : Int) L' (n' + l.length)) ∧
                Hid (Rws wr3 w.heap.size F2 [rwT vT2 T2, rwI vA2 (T2.map (·.2)), rwI vW2 (wtC Wi)]) ∧ Hid (RowP wr3 a4 D.length D) ∧ Hid (OffR a4 D.length [rwT vT2 T2, rwI vA2 (T2.map (·.2)), rwI vW2 (wtC Wi)]) ∧ Hid (Below w.heap.size w wr3)) (fun _ _ i _ => D.length - (intOf i).toNat)
              case atStart => exact ⟨0, T, _, _, Nat.zero_le _, rfl, rfl, rfl, by omega, (List.append_nil T).symm, T4, RS4, R4, O4, B4⟩
              case round =>
                obtain ⟨ii, T2, vT2, vA2, hii, f9, f10, rfl, hT2l, hT2e, hT5, hRS5, hR5, hO5, hB5⟩ := hrel
                have f9 := f9.symm
                have f10 := f10.symm
                subst f9; subst f10
                by_cases hi : ii < D.length
                · obtain ⟨b3, o3, x, rfl, hb3, hx, h0, h1⟩ := hR5.out.item (Below.refl _ _) hi
                  obtain ⟨x1, x2⟩ := x
                  simp only at h0 h1
                  have HTE : Hid (T2 ++ [((x1, x2), (k : Int))] = T ++ (D.take (ii + 1)).map (fun x => (x, (k : Int)))) := by
                    show _ = _
                    rw [take_cat hx, List.map_append, ← List.append_assoc, ← hT2e.out]; rfl
                  have tkA : True := trivial
                  have tkB : True := trivial
                  have hbw := hB5.out.size
                  have hTm : (T2.map (·.1)).length ≤ 10000 := by rw [List.length_map]; omega
                  have hTm2 : (T2.map (·.2)).length ≤ 10000 := by rw [List.length_map]; omega
                  have RA := Lib.hid (hRS5.out.below (below_alloc wr (.cells #[.int .i64 x1, .int .i64 x2] 48)))
                  have TA := Lib.hid (hT5.out.below (below_alloc wr (.cells #[.int .i64 x1, .int .i64 x2] 48)))
                  have BA := Lib.hid (keep_below hB5.out (below_alloc wr (.cells #[.int .i64 x1, .int .i64 x2] 48)))
                  have PA := Lib.hid (hR5.out.below (below_alloc wr (.cells #[.int .i64 x1, .int .i64 x2] 48)))
                  clear hx
                  go_wp2_with (first
                    | (at_builtin; have _t := tkA; refine wpList_append_own_at _ rfl _ _ 33 rfl w.heap.size 48 i0 (.agg #[.int .i64 0, .int .i64 0]) 2 16 Try.underlying33 hi0 hz0 hz1 hz2 rfl (by decide) vT2 (T2.map (·.1)).length (duC (T2.map (·.1))) rfl (RA.out.own 0 _ rfl) ⟨wr.heap.size, 0, none⟩ 1 1 [.int .i64 x1, .int .i64 x2] rfl rfl (fun j0 x0 hj0 => by rw [add_plain', Nat.zero_add]; exact cells_new wr #[.int .i64 x1, .int .i64 x2] 48 j0 x0 hj0) (encP_cell (x1, x2)) (by unfold maxLen; omega) (by omega) (by simp; omega) ?_; intro v' w5 ho5 hg5 _ hl5; have R5 := Lib.hid (RA.out.set (i := 0) (r' := rwT v' (T2 ++ [((x1, x2), (k : Int))])) rfl hg5 (own_rwT (Q := [((x1, x2), (k : Int))]) ho5 rfl) hl5 TA.out.lt); have O5 := Lib.hid (hO5.out.set (i := 0) (r' := rwT v' (T2 ++ [((x1, x2), (k : Int))])) PA.out rfl hl5); have P5 := Lib.hid (hO5.out.row (i := 0) PA.out rfl hg5); have T5 := Lib.hid (TA.out.rowed hg5 (fun g e => RA.out.off 0 _ g rfl e)); have B5 := Lib.hid (BA.out.grown hg5 BA.out.size (fun j e => ((RA.out.own 0 _ rfl).lt j e).1)); have R6 := Lib.hid (R5.out.below (below_alloc w5 (.cells #[.int .i64 k] 3))); have T6 := Lib.hid (T5.out.below (below_alloc w5 (.cells #[.int .i64 k] 3))); have B6 := Lib.hid (keep_below B5.out (below_alloc w5 (.cells #[.int .i64 k] 3))); have P6 := Lib.hid (P5.out.below (below_alloc w5 (.cells #[.int .i64 k] 3))); have hb5 := B5.out.size; clear ho5 hg5 hl5 tkA; go_frame)
                    | (at_builtin; have _t := tkB; refine wpList_append_own_at _ rfl _ _ 22 rfl w.heap.size 3 i1 (.int .i64 0) 1 8 Try.underlying22 hi1 ii0 ii1 ii2 rfl (by decide) vA2 (T2.map (·.2)).length ((T2.map (·.2)).map (Value.int .i64)) rfl (R6.out.own 1 _ rfl) ⟨w5.heap.size, 0, none⟩ 1 1 [.int .i64 k] rfl rfl (cell_one_new _ _ _) (ints_oneCell .i64 [(k : Int)]) (by unfold maxLen; omega) (by omega) (by simp; omega) ?_; intro v2 w7 ho7 hg7 _ hl7; have R7 := Lib.hid (R6.out.set (i := 1) (r' := rwI v2 (T2.map (·.2) ++ [(k : Int)])) rfl hg7 (own_rwI (Q := [(k : Int)]) ho7 rfl) hl7 T6.out.lt); have O7 := Lib.hid (O5.out.set (i := 1) (r' := rwI v2 (T2.map (·.2) ++ [(k : Int)])) P6.out rfl hl7); have P7 := Lib.hid (O5.out.row (i := 1) P6.out rfl hg7); have T7 := Lib.hid (T6.out.rowed hg7 (fun g e => R6.out.off 1 _ g rfl e)); have B7 := Lib.hid (B6.out.grown hg7 B6.out.size (fun j e => ((R6.out.own 1 _ rfl).lt j e).1)); clear ho7 hg7 hl7 tkB; go_frame)
                    | go_in)
                  have hm2 : (T2 ++ [((x1, x2), (k : Int))]).map (·.2) = T2.map (·.2) ++ [(k : Int)] := by rw [List.map_append]; rfl
                  have R8 : Hid (Rws w7 w.heap.size F2 [rwT v' (T2 ++ [((x1, x2), (k : Int))]), rwI v2 ((T2 ++ [((x1, x2), (k : Int))]).map (·.2)), rwI vW2 (wtC Wi)]) := by rw [hm2]; exact R7.out
                  have O8 : Hid (OffR (some ⟨b3, o3, none⟩) D.length [rwT v' (T2 ++ [((x1, x2), (k : Int))]), rwI v2 ((T2 ++ [((x1, x2), (k : Int))]).map (·.2)), rwI vW2 (wtC Wi)]) := by rw [hm2]; exact O7.out
                  have hTl2 : (T2 ++ [((x1, x2), (k : Int))]).length ≤ 8 * k + (ii + 1) := by rw [List.length_append]; simp; omega
                  clear hm2
                  go_roundw
                  case rel => exact ⟨ii + 1, _, v', v2, by omega, rfl, rfl, by go_num, hTl2, HTE, T7, R8, P7, O8, B7⟩
                  case measure => simp [intOf]; omega
                · obtain rfl : ii = D.length := by omega
                  have HT9 : Hid (OnceI l (k + 1) Wi L' T2) := by
                    have h1 := HO2.out
                    rw [← show T2 = T ++ D.map (fun x => (x, (k : Int))) by rw [hT2e.out, List.take_length]] at h1
                    exact h1
                  go_wp2
                  go_roundw
                  case rel => exact ⟨k + 1, jc2, n' + l.length, F2, L', Wi, T2, _, _, _, by omega, rfl, rfl, rfl, rfl, by go_num, by omega, by omega, by omega, HT9, hT5, HG4, hRS5, hB5⟩
                  case measure => simp [intOf]; omega
        · have hks : (k : Int) = sl := by omega
          have hOI := hO.out
          have HOO : Hid (3 * (T.length + L.length) = (wtC W).length ∧ (∀ x ∈ T, x ∈ W) ∧ ∀ y ∈ waitL L, 0 ≤ y.1 ∧ y.1 < l.length ∧ y.2 < (k : Int)) := by
            refine ⟨by rw [wtC_len, hOI.1], hOI.2.1, fun y hy => ?_⟩
            have hy2 := (srt_perm _).mem_iff.1 hy
            obtain ⟨z, hz, rfl⟩ := List.mem_map.1 hy2
            exact (hOI.2.2 z hz).2
          have hTl : T.length ≤ 3000 := by have := hOI.1; omega
          have hLl : L.length ≤ 3000 := by have := hOI.1; omega
          have hwl : (wtC W).length ≤ 9000 := by rw [wtC_len]; omega
          obtain ⟨aT, cT, hvT, hmT, hRT⟩ := RowP.own (show wr.ownsRow w.heap.size 48 2 vT (T.map (·.1)).length (duC (T.map (·.1))) from hRS.out.own 0 _ rfl)
          obtain ⟨aA, cA, hvA, hRA, -, -, -⟩ := own_caps (show wr.ownsRow w.heap.size 3 1 vA (T.map (·.2)).length ((T.map (·.2)).map (Value.int .i64)) from hRS.out.own 1 _ rfl)
          obtain ⟨aW, cW, hvW, hRW, -, -, -⟩ := own_caps (show wr.ownsRow w.heap.size 3 1 vW (wtC W).length ((wtC W).map (Value.int .i64)) from hRS.out.own 2 _ rfl)
          obtain ⟨nT, hnT⟩ : ∃ m, T.length = m := ⟨_, rfl⟩
          obtain ⟨nL, hnL⟩ : ∃ m, L.length = m := ⟨_, rfl⟩
          obtain ⟨nW, hnW⟩ : ∃ m, (wtC W).length = m := ⟨_, rfl⟩
          rw [List.length_map, hnT] at hvT hRT hvA hRA
          rw [hnW] at hvW hRW
          have CW := Lib.hid (waiting_w hT.out (by omega) rfl ((wait_len L).trans hnL))
          have hN1 : 3 * (nT + nL) = nW := by have := HOO.out.1; omega
          have hN2 : ((3 : Int) * ((nT : Int) + (nL : Int)) != (nW : Int)) = false := by simp; omega
          have HRT := Lib.hid hRT
          have HRA := Lib.hid hRA
          have HRW := Lib.hid hRW
          have HTl := Lib.hid hnT
          have HWl : Hid (3 * W.length = nW) := by show _ = _; rw [← hnW, wtC_len]
          have CNo := Lib.hid (fun (V : World) (hb : Below wr.heap.size wr V) => now_any (hT.out.below hb))
          have hnT3 : nT ≤ 3000 := by omega
          have hnL3 : nL ≤ 3000 := by omega
          have hnW9 : nW ≤ 9000 := by omega
          clear hOI hRT hRA hRW hmT hnT hnL hnW hTl hLl hwl
          subst hvT; subst hvA; subst hvW; subst hks
          go_wp2_with (go_at_call 18; refine CW.out.mono ?_; rintro e w2 ⟨a2, c2, rfl, hr2, -, hb2⟩; have R2 := Lib.hid hr2; have B2 := Lib.hid hb2; clear hr2 hb2)
          go_loopw [21] (fun q wz => ∃ ii : Nat, ii ≤ nT ∧ q = .int .i64 ii ∧ Hid (Below w2.heap.size w2 wz)) (fun i _ => nT - (intOf i).toNat)
          case atStart => exact ⟨0, Nat.zero_le _, rfl, Below.refl _ _⟩
          case round =>
            obtain ⟨ii, hii, rfl, hbz⟩ := hrel
            by_cases hi : ii < nT
            · have hT0 : ii < T.length := by rw [HTl.out]; exact hi
              obtain ⟨x, hx⟩ : ∃ x, (T)[ii]? = some x := ⟨_, List.getElem?_eq_getElem hT0⟩
              have HXW := Lib.hid (HOO.out.2.1 x (List.mem_of_getElem? hx))
              have bz2 := keep_below B2.out hbz.out
              obtain ⟨bt, ot, x', rfl, hbt, hx', g0, g1⟩ := HRT.out.item bz2 hi
              obtain ⟨ba, oa, y', rfl, hba, hy', g2⟩ := items' HRA.out bz2 hi
              rw [List.getElem?_map, hx] at hx' hy'
              obtain rfl := Option.some.inj hx'
              obtain rfl := Option.some.inj hy'
              obtain ⟨⟨x1, x2⟩, x3⟩ := x
              simp only at g0 g1 g2
              have G0 := Lib.hid g0
              have G1 := Lib.hid g1
              have G2 := Lib.hid g2
              have i1 : (ii : Int) < (nT : Int) := by omega
              clear hx hx' hy' bz2 g0 g1 g2 hT0
              go_wp2
              go_loopw [22, 23] (fun q22 q23 wy => ∃ (q mm : Nat) (z : Bool), q ≤ W.length ∧ mm = 3 * q ∧ q22 = .bool z ∧ q23 = .int .i64 mm ∧ Hid (z = (W.take q).any (fun y => y == (((x1, x2), x3) : Wt))) ∧ Hid (Below wr.heap.size wr wy)) (fun _ i _ => nW - (intOf i).toNat)
              case atStart => exact ⟨0, 0, false, Nat.zero_le _, rfl, rfl, rfl, rfl, Below.refl _ _⟩
              case round =>
                obtain ⟨q, mm, z, hq, hmm, rfl, rfl, hz, hby⟩ := hrel
                by_cases hqi : q < W.length
                · obtain ⟨y, hy⟩ : ∃ y, W[q]? = some y := ⟨_, List.getElem?_eq_getElem hqi⟩
                  obtain ⟨v1, v2, v3⟩ := wtC_at W q y hy
                  have HTQ : Hid (W.take (q + 1) = W.take q ++ [y]) := take_cat hy
                  obtain ⟨⟨y1, y2⟩, y3⟩ := y
                  simp only at v1 v2 v3
                  have hWl9 := HWl.out
                  have bz3 := keep_below (keep_below B2.out hbz.out) hby.out
                  obtain ⟨bw, ow, u1, rfl, hbw, hu1, hc1⟩ := items' HRW.out bz3 (k := mm) (by omega)
                  obtain ⟨bw', ow', u2, e2, -, hu2, hc2⟩ := items' HRW.out bz3 (k := mm + 1) (by omega)
                  cases e2
                  obtain ⟨bw', ow', u3, e3, -, hu3, hc3⟩ := items' HRW.out bz3 (k := mm + 2) (by omega)
                  cases e3
                  rw [hmm] at hu1 hu2 hu3
                  rw [v1] at hu1
                  rw [v2] at hu2
                  rw [v3] at hu3
                  obtain rfl := Option.some.inj hu1
                  obtain rfl := Option.some.inj hu2
                  obtain rfl := Option.some.inj hu3
                  have g0 := keep_cell hby.out G0.out
                  have g1 := keep_cell hby.out G1.out
                  have g2 := keep_cell hby.out G2.out
                  have m1 : (mm : Int) < (nW : Int) := by omega
                  have m2 : (mm : Int) + 1 < (nW : Int) := by omega
                  have m3 : (mm : Int) + 2 < (nW : Int) := by omega
                  have HM3 : Hid (mm + 3 = 3 * (q + 1)) := by show _ = _; omega
                  clear hu1 hu2 hu3 v1 v2 v3 hy bz3 hmm hWl9
                  cases z with
                  | true =>
                    have HZ : Hid (true = (W.take (q + 1)).any (fun y => y == (((x1, x2), x3) : Wt))) := by
                      show _ = _
                      rw [HTQ.out, List.any_append, ← hz.out]
                      simp []
                    go_wp2
                    go_quiet (fail)
                    go_wp2
                    go_roundw
                    case rel => exact ⟨q + 1, mm + 3, true, by omega, HM3.out, by first | rfl | trivial, by go_num, HZ, hby.out.trans ⟨rfl, rfl, rfl, Nat.le_refl _, fun _ _ => rfl⟩⟩
                    case measure => simp [intOf]; omega
                  | false =>
                    by_cases c1 : y1 = x1
                    · have d1 : (y1 == x1) = true := by simp [c1]
                      by_cases c2 : y2 = x2
                      · have d2 : (y2 == x2) = true := by simp [c2]
                        by_cases c3 : y3 = x3
                        · have d3 : (y3 == x3) = true := by simp [c3]
                          have HZ : Hid (true = (W.take (q + 1)).any (fun y => y == (((x1, x2), x3) : Wt))) := by
                            show _ = _
                            rw [HTQ.out, List.any_append, ← hz.out]
                            simp [c1, c2, c3]
                          go_wp2
                          go_quiet (fail)
                          go_wp2
                          go_roundw
                          case rel => exact ⟨q + 1, mm + 3, true, by omega, HM3.out, by first | rfl | trivial, by go_num, HZ, hby.out.trans ⟨rfl, rfl, rfl, Nat.le_refl _, fun _ _ => rfl⟩⟩
                          case measure => simp [intOf]; omega
                        · have d3 : (y3 == x3) = false := by simp [c3]
                          have HZ : Hid (false = (W.take (q + 1)).any (fun y => y == (((x1, x2), x3) : Wt))) := by
                            show _ = _
                            rw [HTQ.out, List.any_append, ← hz.out]
                            simp [c1, c2, c3]
                          go_wp2
                          go_quiet (fail)
                          go_wp2
                          go_roundw
                          case rel => exact ⟨q + 1, mm + 3, false, by omega, HM3.out, by first | rfl | trivial, by go_num, HZ, hby.out.trans ⟨rfl, rfl, rfl, Nat.le_refl _, fun _ _ => rfl⟩⟩
                          case measure => simp [intOf]; omega
                      · have d2 : (y2 == x2) = false := by simp [c2]
                        have HZ : Hid (false = (W.take (q + 1)).any (fun y => y == (((x1, x2), x3) : Wt))) := by
                          show _ = _
                          rw [HTQ.out, List.any_append, ← hz.out]
                          simp [c1, c2]
                        go_wp2
                        go_quiet (fail)
                        go_wp2
                        go_roundw
                        case rel => exact ⟨q + 1, mm + 3, false, by omega, HM3.out, by first | rfl | trivial, by go_num, HZ, hby.out.trans ⟨rfl, rfl, rfl, Nat.le_refl _, fun _ _ => rfl⟩⟩
                        case measure => simp [intOf]; omega
                    · have d1 : (y1 == x1) = false := by simp [c1]
                      have HZ : Hid (false = (W.take (q + 1)).any (fun y => y == (((x1, x2), x3) : Wt))) := by
                        show _ = _
                        rw [HTQ.out, List.any_append, ← hz.out]
                        simp [c1]
                      go_wp2
                      go_quiet (fail)
                      go_wp2
                      go_roundw
                      case rel => exact ⟨q + 1, mm + 3, false, by omega, HM3.out, by first | rfl | trivial, by go_num, HZ, hby.out.trans ⟨rfl, rfl, rfl, Nat.le_refl _, fun _ _ => rfl⟩⟩
                      case measure => simp [intOf]; omega
                · obtain rfl : q = W.length := by omega
                  have hzt : z = true := by
                    rw [hz.out, List.take_length, List.any_eq_true]
                    exact ⟨_, HXW.out, by simp⟩
                  have m1 : ¬ ((mm : Int) < (nW : Int)) := by have := HWl.out; omega
                  have HB9 := Lib.hid (keep_below hbz.out hby.out)
                  clear hz
                  subst hzt
                  go_wp2
                  go_roundw
                  case rel => exact ⟨ii + 1, by omega, by go_num, HB9⟩
                  case measure => simp [intOf]; omega
            · have i1 : ¬ ((ii : Int) < (nT : Int)) := by omega
              go_wp2
              go_loopw [24] (fun q wy => ∃ jj : Nat, jj ≤ nL ∧ q = .int .i64 jj ∧ wy = wr) (fun i _ => nL - (intOf i).toNat)
              case atStart => exact ⟨0, Nat.zero_le _, rfl, rfl⟩
              case round =>
                obtain ⟨jj, hjj, rfl, rfl⟩ := hrel
                by_cases hj : jj < nL
                · obtain ⟨b5, o5, y, rfl, hb5, hy, g0, g1⟩ := R2.out.item hbz.out hj
                  have hy9 := HOO.out.2.2 y (List.mem_of_getElem? hy)
                  obtain ⟨y1, y2⟩ := y
                  simp only at g0 g1 hy9
                  have j1 : (jj : Int) < (nL : Int) := by omega
                  have z1 : ¬ ((k : Int) ≤ y2) := by omega
                  have z2 : ¬ (y1 < 0) := by omega
                  have z3 : ¬ ((l.length : Int) ≤ y1) := by omega
                  clear hy
                  go_wp2
                  go_roundw
                  case rel => exact ⟨jj + 1, by omega, by go_num, by first | rfl | trivial⟩
                  case measure => simp [intOf]; omega
                · have j1 : ¬ ((jj : Int) < (nL : Int)) := by omega
                  go_wp2_with (first
                    | (go_at_call 20; refine (CNo.out _ (keep_below B2.out hbz.out)).mono ?_; rintro e w9 ⟨rfl, hw9⟩; have hw9 := hw9.symm; subst hw9)
                    | (go_at_call 10; refine (KN.out _).mono ?_; rintro e w9 ⟨rfl, hb9⟩; have HB9 := Lib.hid hb9; clear hb9))
                  go_ret
                  exact ⟨rfl, keep_below (keep_below hB.out (keep_below B2.out hbz.out)) HB9.out⟩
    · have hokf : okPz l = false := by simpa using hok
      have CN := Lib.hid (new_no a l.length c l w hr hn hokf)
      clear hr hok hokf hr1
      go_enter Try.func4, Try.ntmps4
      go_wp2_with (first
        | (go_at_call 11; refine CN.out.mono ?_; rintro e w1 ⟨rfl, hb1⟩; have HB1 := Lib.hid hb1; clear hb1)
        | (go_at_call 10; refine (KN.out w1).mono ?_; rintro e w2 ⟨rfl, hb2⟩; have HB2 := Lib.hid (keep_below HB1.out hb2); clear hb2))
      go_ret
      exact ⟨rfl, HB2.out⟩
  · have h8i : (8 : Int) < (l.length : Int) := by omega
    clear hr hr1
    go_enter Try.func4, Try.ntmps4
    go_wp2_with (go_at_call 10; refine (KN.out w).mono ?_; rintro e w2 ⟨rfl, hb2⟩; have HB2 := Lib.hid hb2; clear hb2)
    go_ret
    exact ⟨rfl, HB2.out⟩
end Go.Proofs.Ytdhchfmefdlloaa
