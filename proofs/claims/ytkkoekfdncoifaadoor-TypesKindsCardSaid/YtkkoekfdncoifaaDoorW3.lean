/- What is proved here: the walk of the law TypesKinds. Condition: the table of names holds what its initialiser lays ('Nms'). -/
import Derived.Test.YtkkoekfdncoifaaDoorKnown
import Derived.Test.YtkkoekfdncoifaaDoorTy5
namespace Go.Proofs.YtkkoekfdncoifaaDoor
open Go.ChangeShapes Go.WideShapes Go.RowKit Go.Maps

theorem byte_at {l : List UInt8} {k : Nat} (h : k < (bs l).size) : (bs l)[k] = l[k]'(by rw [bs_size] at h; exact h) := by
  show (bs l).data[k] = _
  simp [bs]
set_option maxHeartbeats 4000000 in
set_option maxRecDepth 100000 in
theorem kinds_walk (o x y : Int) (a b : Bool) (w : World) (hN : Nms w) :
    Calls Tryd.prog 6 #[.agg #[.int .i64 o, .int .i64 x, .int .i64 y], .bool a, .bool b] w fun e w' => e = .returned (.bool true) ∧ Below w.heap.size w w' := by
  have HNm := Lib.hid hN
  have KN := Lib.hid (fun W (h : Below w.heap.size w W) => known_any W (HNm.out.below h))
  have G0 := below_alloc w (.cells #[.int .i64 o, .int .i64 x, .int .i64 y] 37)
  have B0 := new_block w (.cells #[.int .i64 o, .int .i64 x, .int .i64 y] 37)
  have i0 := (Lib.cell_of_heap B0 0).trans (rfl : _ = some (Value.int .i64 o))
  have i1 := (Lib.cell_of_heap B0 1).trans (rfl : _ = some (Value.int .i64 x))
  have i2 := (Lib.cell_of_heap B0 2).trans (rfl : _ = some (Value.int .i64 y))
  have ct := takes_any o x y (w.alloc (.cells #[.int .i64 o, .int .i64 x, .int .i64 y] 37)) (hN.below G0)
  have hf := fl_facts a b (tkI_seven (o, x, y))
  have CG := fun W (h : Below w.heap.size w W) => gives_any o x y (fl a b (tkI (o, x, y))) (by omega) W (HNm.out.below h)
  have hgd := gvI_good (o, x, y) hf.2.1
  have CM := fun W (h : Below w.heap.size w W) => gives_at (kind_more (o, x, y) a b) (by simp; omega) W (HNm.out.below h)
  obtain ⟨t, ht⟩ : ∃ t, t = tkI (o, x, y) := ⟨_, rfl⟩
  rw [← ht] at ct hf CG CM hgd
  have hsz := bs_size t
  have HOne := Lib.hid (fun k => one_at (l := t) (k := k))
  have HStep := Lib.hid (fun k (h : k < t.length) => fl_step a b h hf.2.2.2)
  have HFl := Lib.hid hf.1
  have hl2 := hf.2.2.2
  obtain ⟨T, hT⟩ : ∃ T, T = bs t := ⟨_, rfl⟩
  rw [← hT] at ct hsz HOne
  have C := Lib.hid ct
  have HCG := Lib.hid CG
  have HCM := Lib.hid CM
  have HGD := Lib.hid hgd
  have HSz := Lib.hid hsz
  have hT2 : T.size ≤ 2 := by omega
  have hd2 : decide ((2 : Int) < (T.size : Int)) = false := by rw [decide_eq_false_iff_not]; omega
  have HTt := Lib.hid ht
  clear hN ct hf CG CM hgd hT B0 hl2 hsz ht
  go_enter Tryd.func6, Tryd.ntmps6
  go_wp2_with (go_at_call 15; refine C.out.mono ?_; rintro e w1 ⟨rfl, hb1⟩)
  have G1 := keep_below (keep_below G0 hb1) (below_alloc w1 (.cells #[.bool a, .bool b] 4))
  have K0 := new_block w1 (.cells #[.bool a, .bool b] 4)
  have k0 := (Lib.cell_of_heap K0 0).trans (rfl : _ = some (Value.bool a))
  have k1 := (Lib.cell_of_heap K0 1).trans (rfl : _ = some (Value.bool b))
  have HK : Hid (∀ k : Nat, k < 2 → (w1.alloc (.cells #[.bool a, .bool b] 4)).cell? ⟨w1.heap.size, k, none⟩ = some (.bool (if k = 0 then a else b))) := by
    intro k hk
    match k, hk with
    | 0, _ => exact k0
    | 1, _ => exact k1
  have I0 := keep_cell (below_alloc w1 (.cells #[.bool a, .bool b] 4)) (keep_cell hb1 i0)
  have I1 := keep_cell (below_alloc w1 (.cells #[.bool a, .bool b] 4)) (keep_cell hb1 i1)
  have I2 := keep_cell (below_alloc w1 (.cells #[.bool a, .bool b] 4)) (keep_cell hb1 i2)
  clear k0 k1 K0 i0 i1 i2 C hb1 G0
  generalize (w1.alloc (.cells #[.bool a, .bool b] 4)) = WB at G1 HK I0 I1 I2 ⊢
  generalize w1.heap.size = KB at HK ⊢
  go_loopw [8, 10] (fun v i wr => ∃ k : Nat, k ≤ T.size ∧ i = .int .i64 k ∧ v = .string (bs ((fl a b t).take k)) ∧ wr = WB) (fun _ i _ => T.size - (intOf i).toNat)
  case atStart => exact ⟨0, by omega, rfl, rfl, rfl⟩
  case round =>
    obtain ⟨k, hk, rfl, rfl, rfl⟩ := hrel
    by_cases hlt : k < T.size
    · have hlt2 : k < t.length := by rw [← HSz.out]; exact hlt
      have h1 := HOne.out k hlt2
      have hst := HStep.out k hlt2
      have hkk := HK.out k (by omega)
      have hap := bs_append ((fl a b t).take k) [fl1 (if k = 0 then a else b) t[k]]
      rw [← hst] at hap
      have hps := bs_size ((fl a b t).take k)
      have hpl : ((fl a b t).take k).length ≤ 2 := by rw [List.length_take]; omega
      generalize t[k] = ck at h1 hap
      generalize (if k = 0 then a else b) = kb at hkk hap
      obtain ⟨R, hR⟩ : ∃ R, R = bs ((fl a b t).take (k + 1)) := ⟨_, rfl⟩
      rw [← hR] at hap
      have HR := Lib.hid hR
      generalize bs ((fl a b t).take k) = P at hap hps ⊢
      have hP : P.size ≤ 2 := by omega
      have hcat : ¬ (9223372036854775807 < P.size + 1) := by omega
      have f1 : (0 : Int) ≤ (k : Int) := by omega
      have f2 : (k : Int) + 1 ≤ (T.size : Int) := by omega
      have f3 : (k : Int) < 2 := by omega
      clear hst hps hpl hR
      by_cases h32 : ck = 32
      · subst h32
        have e1 : ((bs [32]).toList == [32]) = true := by rw [bs_toList]; rfl
        have e2 : (bs [32]).toList = [32] := bs_toList _
        cases kb
        · have hap2 : P ++ (⟨#[98]⟩ : ByteArray) = R := hap
          clear hap
          go_wp2
          go_roundw
          case rel => exact ⟨k + 1, by omega, by go_num, by rw [HR.out], trivial⟩
          case measure => simp [intOf]; omega
        · have hap2 : P ++ (⟨#[105]⟩ : ByteArray) = R := hap
          clear hap
          go_wp2
          go_roundw
          case rel => exact ⟨k + 1, by omega, by go_num, by rw [HR.out], trivial⟩
          case measure => simp [intOf]; omega
      · obtain ⟨e1, e2⟩ := one_ne ck 32 h32
        have hap2 : P ++ bs [ck] = R := by rw [← hap]; unfold fl1; rw [if_neg h32]
        have hs1 := bs_size [ck]
        generalize bs [ck] = X at h1 e1 e2 hap2 hs1
        have hcat2 : ¬ (9223372036854775807 < P.size + X.size) := by rw [hs1]; exact hcat
        clear hap h32 hs1
        go_wp2
        go_roundw
        case rel => exact ⟨k + 1, by omega, by go_num, by rw [HR.out], trivial⟩
        case measure => simp [intOf]; omega
    · obtain rfl : k = T.size := by omega
      have hfull : (fl a b t).take T.size = fl a b t := List.take_of_length_le (by rw [HFl.out, ← HSz.out]; exact Nat.le_refl _)
      rw [hfull]
      clear hfull HK
      obtain ⟨Q, hQ⟩ : ∃ Q, Q = bs (fl a b t) := ⟨_, rfl⟩
      have HQ := Lib.hid hQ
      have CG := HCG.out _ G1
      rw [← hQ] at CG ⊢
      have HCG2 := Lib.hid CG
      clear CG hQ
      go_wp2_with (go_at_call 16; refine HCG2.out.mono ?_; rintro e w2 ⟨rfl, hb2⟩)
      have J0 := keep_cell hb2 I0
      have J1 := keep_cell hb2 I1
      have J2 := keep_cell hb2 I2
      have G2 := keep_below G1 hb2
      clear I0 I1 I2 hb2 G1 HCG2
      have hgz := bs_size (gvI (o, x, y) (fl a b t))
      have HGZ := Lib.hid hgz
      have hg2 : (bs (gvI (o, x, y) (fl a b t))).size ≤ 2 := by rw [hgz]; exact HGD.out.2
      have HBy : Hid (∀ k (h : k < (bs (gvI (o, x, y) (fl a b t))).size), (bs (gvI (o, x, y) (fl a b t)))[k] = 105 ∨ (bs (gvI (o, x, y) (fl a b t)))[k] = 98) := by
        intro k h
        rw [byte_at h]
        exact HGD.out.1 _ (List.getElem_mem _)
      obtain ⟨S, hS⟩ : ∃ S, S = bs (gvI (o, x, y) (fl a b t)) := ⟨_, rfl⟩
      rw [← hS] at HBy hg2 ⊢
      have HS := Lib.hid hS
      clear hgz hS
      go_loopw [13] (fun i wr => ∃ k : Nat, k ≤ S.size ∧ i = .int .i64 k ∧ wr = w2) (fun i _ => S.size - (intOf i).toNat)
      case atStart => exact ⟨0, by omega, rfl, rfl⟩
      case round =>
        obtain ⟨k, hk2, rfl, rfl⟩ := hrel
        by_cases hl2 : k < S.size
        · have f1 : (0 : Int) ≤ (k : Int) := by omega
          have f2 : (k : Int) < (S.size : Int) := by omega
          rcases HBy.out k hl2 with hb | hb
          · have e1 : ((S[k].toNat : Int) != 105) = false := by rw [hb]; rfl
            have e2 : (S[k].toNat : Int) = 105 := by rw [hb]; rfl
            clear hb
            go_wp2
            go_roundw
            case rel => exact ⟨k + 1, by omega, by go_num, trivial⟩
            case measure => simp [intOf]; omega
          · have e1 : ((S[k].toNat : Int) != 105) = true := by rw [hb]; rfl
            have e2 : ((S[k].toNat : Int) != 98) = false := by rw [hb]; rfl
            have e3 : (S[k].toNat : Int) = 98 := by rw [hb]; rfl
            clear hb
            go_wp2
            go_roundw
            case rel => exact ⟨k + 1, by omega, by go_num, trivial⟩
            case measure => simp [intOf]; omega
        · have hle : decide ((S.size : Int) ≤ 2) = true := by rw [decide_eq_true_iff]; omega
          have hq : Q.size ≤ 2 := by rw [HQ.out, bs_size, HFl.out, ← HSz.out]; exact hT2
          have hc1 : ¬ (9223372036854775807 < Q.size + Q.size) := by omega
          have hc2 : ¬ (9223372036854775807 < Q.size + 1) := by omega
          have HM2 : Hid (∀ W, Below w.heap.size w W → Calls Tryd.prog 16 #[.agg #[.int .i64 o, .int .i64 x, .int .i64 y], .string (Q ++ ⟨#[105]⟩)] W fun e w' => e = .returned (.string ⟨#[]⟩) ∧ Below W.heap.size W w') := by
            intro W hW
            have := HCM.out W hW
            rw [← bs_append, ← HQ.out] at this
            exact this
          by_cases ho3 : o = 3
          · subst ho3
            by_cases hx0 : x = 0
            · subst hx0
              by_cases hy0 : y = 0
              · subst hy0
                have hSS : S.toList = (Q ++ Q).toList := by rw [HS.out, HQ.out, HTt.out, kind_dup, bs_append]
                have hSS2 : (S.toList == (Q ++ Q).toList) = true := by rw [hSS]; simp
                go_wp2_with (first | (go_at_call 8; refine (KN.out _ (keep_below G2 hb5)).mono ?_; rintro e w6 ⟨rfl, hb6⟩) | (go_at_call 16; refine (HM2.out _ G2).mono ?_; rintro e w5 ⟨rfl, hb5⟩))
                go_ret
                exact ⟨rfl, keep_below (keep_below G2 hb5) hb6⟩
              · go_wp2_with (first | (go_at_call 8; refine (KN.out _ (keep_below G2 hb5)).mono ?_; rintro e w6 ⟨rfl, hb6⟩) | (go_at_call 16; refine (HM2.out _ G2).mono ?_; rintro e w5 ⟨rfl, hb5⟩))
                go_ret
                exact ⟨rfl, keep_below (keep_below G2 hb5) hb6⟩
            · go_wp2_with (first | (go_at_call 8; refine (KN.out _ (keep_below G2 hb5)).mono ?_; rintro e w6 ⟨rfl, hb6⟩) | (go_at_call 16; refine (HM2.out _ G2).mono ?_; rintro e w5 ⟨rfl, hb5⟩))
              go_ret
              exact ⟨rfl, keep_below (keep_below G2 hb5) hb6⟩
          · by_cases ho4 : o = 4
            · subst ho4
              by_cases hx0 : x = 0
              · subst hx0
                by_cases hy0 : y = 0
                · subst hy0
                  have HS2 : Hid (∀ W, Below w.heap.size w W → Calls Tryd.prog 16 #[.agg #[.int .i64 4, .int .i64 0, .int .i64 0], .string S] W fun e w' => e = .returned (.string Q) ∧ Below W.heap.size W w') := by
                    intro W hW
                    have h4 := kind_swap a b
                    rw [← HTt.out] at h4
                    have := gives_at h4 (by have := HGD.out.2; omega) W (HNm.out.below hW)
                    rw [← HS.out, ← HQ.out] at this
                    exact this
                  go_wp2_with fail
                  refine (HS2.out _ G2).mono ?_
                  rintro e w4 ⟨rfl, hb4⟩
                  have J0' := keep_cell hb4 J0
                  have J1' := keep_cell hb4 J1
                  have J2' := keep_cell hb4 J2
                  clear J0 J1 J2
                  go_wp2_with fail
                  refine (HM2.out _ (keep_below G2 hb4)).mono ?_
                  rintro e w5 ⟨rfl, hb5⟩
                  go_wp2_with (go_at_call 8; refine (KN.out _ (keep_below (keep_below G2 hb4) hb5)).mono ?_; rintro e w6 ⟨rfl, hb6⟩)
                  go_ret
                  exact ⟨rfl, keep_below (keep_below (keep_below G2 hb4) hb5) hb6⟩
                · go_wp2_with (first | (go_at_call 8; refine (KN.out _ (keep_below G2 hb5)).mono ?_; rintro e w6 ⟨rfl, hb6⟩) | (go_at_call 16; refine (HM2.out _ G2).mono ?_; rintro e w5 ⟨rfl, hb5⟩))
                  go_ret
                  exact ⟨rfl, keep_below (keep_below G2 hb5) hb6⟩
              · go_wp2_with (first | (go_at_call 8; refine (KN.out _ (keep_below G2 hb5)).mono ?_; rintro e w6 ⟨rfl, hb6⟩) | (go_at_call 16; refine (HM2.out _ G2).mono ?_; rintro e w5 ⟨rfl, hb5⟩))
                go_ret
                exact ⟨rfl, keep_below (keep_below G2 hb5) hb6⟩
            · go_wp2_with (first | (go_at_call 8; refine (KN.out _ (keep_below G2 hb5)).mono ?_; rintro e w6 ⟨rfl, hb6⟩) | (go_at_call 16; refine (HM2.out _ G2).mono ?_; rintro e w5 ⟨rfl, hb5⟩))
              go_ret
              exact ⟨rfl, keep_below (keep_below G2 hb5) hb6⟩
end Go.Proofs.YtkkoekfdncoifaaDoor
