/- What is proved here: the walk of the law VmParts. Condition: the table of names holds what its initialiser lays ('Nms'). -/
import Derived.Test.YthhcabddcgckcaaGreatDoorLp10
import Derived.Test.YthhcabddcgckcaaGreatDoorLp11
namespace Go.Proofs.YthhcabddcgckcaaGreatDoor
open Go.ChangeShapes Go.WideShapes Go.RowKit Go.Maps

attribute [local go_sem ↓] fold23
theorem str_ne {s : List UInt8} (h : s ≠ []) : ((bs s).toList == []) = false ∧ ¬ (bs s).toList = [] := by rw [bs_toList]; simp [h]
set_option maxHeartbeats 4000000 in
set_option maxRecDepth 100000 in
theorem parts_in (a b : Option Addr) (n k m c d : Nat) (A B : List (Int × Int × Int)) (l : List Int) (hnk : n = k + 1) (hnm : n + m ≤ 200) (hnc : n ≤ c) (w : World) (hA : RowI w a n A) (hB : RowI w b m B) (hl : l.length = 16) (hN : Nms w) :
    Calls Tryz.prog 8 #[.slice a n c, .slice b m d, .agg (l.map (Value.int .i64)).toArray] w fun e w' => e = .returned (.bool true) ∧ Below w.heap.size w w' := by
  obtain ⟨i0, hi, hz0, hz1, hz2⟩ := info_parts' ins_info
  have KN := Lib.hid (fun W (h : Below w.heap.size w W) => known8_any W (hN.below h))
  have LD := Lib.hid (box_in w l hl)
  have SR : Hid (∀ W F b L v, Mac W F b L v → v.goes = false → Calls Tryz.prog 13 #[.pointer (some ⟨b, 0, none⟩), .agg (l.map (Value.int .i64)).toArray] W fun e w' => e = .returned (.int .i64 0) ∧ Mac w' F b L (begun v.ret l) ∧ Chg F F b W w') := fun W F b L v h hg => start_run W F b L v l h hl hg
  obtain ⟨LA, hLA⟩ : ∃ LA, LA = l.map (Value.int .i64) := ⟨_, rfl⟩
  rw [← hLA] at LD SR ⊢
  have HLL : Hid (iv l = LA) := hLA.symm
  clear hLA
  have B1 := below_alloc w (.cells LA.toArray 23)
  have NA := Lib.hid (fun W (h : Below w.heap.size w W) => new_any a n c A W (hA.below h) (hN.below h))
  have NB := Lib.hid (fun W (h : Below w.heap.size w W) => new_any b m d B W (hB.below h) (hN.below h))
  have SA := Lib.hid (fun W (h : Below w.heap.size w W) => stacks_any a n c A W (hA.below h) (hN.below h))
  have HNm := Lib.hid hN
  have HA := Lib.hid hA
  have HB := Lib.hid hB
  obtain ⟨s, hs⟩ : ∃ s, s = n + m := ⟨_, rfl⟩
  have hsm : IntKind.i64.wrap ((n : Int) + (m : Int)) = (s : Int) := by rw [IntKind.wrap_i64]; omega
  have h200 : decide (200 < (s : Int)) = false := by rw [decide_eq_false_iff_not]; omega
  have d0 : decide ((n : Int) < 1) = false := by rw [decide_eq_false_iff_not]; omega
  obtain ⟨b3, o3, rfl, hadl, hcA⟩ := hA.2 (by omega)
  have hk1 : n ≤ k + 1 := by omega
  have hk2 : k + 1 ≤ n := by omega
  have hs1 : s ≤ n + m := by omega
  have hs2 : n + m ≤ s := by omega
  clear hnk hs
  have HcA : Hid (∀ W, Below w.heap.size w W → ∀ j, j < n → W.cell? ⟨b3, o3 + j * 3, none⟩ = some (.int .i64 (at_ A j).1) ∧ W.cell? ⟨b3, o3 + j * 3 + 1, none⟩ = some (.int .i64 (at_ A j).2.1) ∧ W.cell? ⟨b3, o3 + j * 3 + 2, none⟩ = some (.int .i64 (at_ A j).2.2)) := fun W hb j hj => by
    obtain ⟨z1, z2, z3⟩ := hcA j hj; exact ⟨keep_cell hb z1, keep_cell hb z2, keep_cell hb z3⟩
  have HcB : Hid (∀ W, Below w.heap.size w W → ∀ j, j < m → ∃ b4 o4, b = some ⟨b4, o4, none⟩ ∧ W.cell? ⟨b4, o4 + j * 3, none⟩ = some (.int .i64 (at_ B j).1) ∧ W.cell? ⟨b4, o4 + j * 3 + 1, none⟩ = some (.int .i64 (at_ B j).2.1) ∧ W.cell? ⟨b4, o4 + j * 3 + 2, none⟩ = some (.int .i64 (at_ B j).2.2)) := fun W hb j hj => by
    obtain ⟨b4, o4, e, _, hc⟩ := hB.2 (by omega)
    obtain ⟨z1, z2, z3⟩ := hc j hj
    exact ⟨b4, o4, e, keep_cell hb z1, keep_cell hb z2, keep_cell hb z3⟩
  have HLA := Lib.hid hA.1
  have HLB := Lib.hid hB.1
  clear hcA hA hB hN hadl
  go_enter Tryz.func8, Tryz.ntmps8
  go_wp2
  go_loopw [7] (fun i wr => ∃ q : Nat, q ≤ s ∧ i = .int .i64 (q : Int) ∧ Hid (∀ j, n + j < q → (at_ B j).1 ≠ 11 ∧ (at_ B j).1 ≠ 13) ∧ Hid (Below w.heap.size w wr) ∧ Hid (Below (w.alloc (.cells LA.toArray 23)).heap.size (w.alloc (.cells LA.toArray 23)) wr)) (fun i _ => s - (intOf i).toNat)
  case atStart => exact ⟨0, by omega, rfl, fun j hj => absurd hj (by omega), B1, Below.refl _ _⟩
  case round =>
    obtain ⟨q, hq, rfl, HNo, HBw, HB1⟩ := hrel
    by_cases hqs : q < s
    · have i1 : (q : Int) < (s : Int) := by omega
      have BA := keep_below HBw.out (below_alloc wr (.cells #[.int .i64 0, .int .i64 0, .int .i64 0] 52))
      by_cases hqn : q < n
      · have i2 : (q : Int) < (n : Int) := by omega
        have f1 : (0 : Int) ≤ (q : Int) := by omega
        obtain ⟨y1, y2, y3⟩ := HcA.out _ BA q hqn
        have HNo2 : Hid (∀ j, n + j < q + 1 → (at_ B j).1 ≠ 11 ∧ (at_ B j).1 ≠ 13) := fun j hj => absurd hj (by omega)
        obtain ⟨p1, hp1⟩ : ∃ p, p = (at_ A q).1 := ⟨_, rfl⟩
        obtain ⟨p2, hp2⟩ : ∃ p, p = (at_ A q).2.1 := ⟨_, rfl⟩
        obtain ⟨p3, hp3⟩ : ∃ p, p = (at_ A q).2.2 := ⟨_, rfl⟩
        rw [← hp1] at y1
        rw [← hp2] at y2
        rw [← hp3] at y3
        clear hp1 hp2 hp3
        by_cases h11 : p1 = 11
        · subst h11
          go_wp2_with (go_at_call 9; refine (KN.out _ (keep_below HBw.out (below_alloc _ _))).mono ?_; rintro e w9 ⟨rfl, b9⟩)
          go_ret
          exact ⟨rfl, keep_below (keep_below HBw.out (below_alloc _ _)) b9⟩
        · have e11 : (p1 == 11) = false := by simpa using h11
          by_cases h13 : p1 = 13
          · subst h13
            clear h11
            go_wp2_with (go_at_call 9; refine (KN.out _ (keep_below HBw.out (below_alloc _ _))).mono ?_; rintro e w9 ⟨rfl, b9⟩)
            go_ret
            exact ⟨rfl, keep_below (keep_below HBw.out (below_alloc _ _)) b9⟩
          · have e13 : (p1 == 13) = false := by simpa using h13
            have HNo3 := HNo2
            clear h11 h13
            go_wp2
            go_roundw
            case rel => exact ⟨q + 1, by omega, by go_num, HNo3, keep_below HBw.out (below_alloc _ _), keep_below HB1.out (below_alloc _ _)⟩
            case measure => simp [intOf]; omega
      · obtain ⟨j, rfl⟩ : ∃ j, q = n + j := ⟨q - n, by omega⟩
        have hjm : j < m := by omega
        have i2 : ¬ (((n + j : Nat) : Int)) < (n : Int) := by omega
        have w5 : IntKind.i64.wrap (((n + j : Nat) : Int) - (n : Int)) = (j : Int) := by rw [IntKind.wrap_i64]; omega
        have f1 : (0 : Int) ≤ (j : Int) := by omega
        have f2 : (j : Int) < (m : Int) := by omega
        obtain ⟨b4, o4, rfl, y1, y2, y3⟩ := HcB.out _ BA j hjm
        obtain ⟨p1, hp1⟩ : ∃ p, p = (at_ B j).1 := ⟨_, rfl⟩
        obtain ⟨p2, hp2⟩ : ∃ p, p = (at_ B j).2.1 := ⟨_, rfl⟩
        obtain ⟨p3, hp3⟩ : ∃ p, p = (at_ B j).2.2 := ⟨_, rfl⟩
        have HNo2 : Hid (p1 ≠ 11 ∧ p1 ≠ 13 → ∀ i, n + i < n + j + 1 → (at_ B i).1 ≠ 11 ∧ (at_ B i).1 ≠ 13) := fun hp i hi => by
          by_cases e : i = j
          · subst e; rw [← hp1]; exact hp
          · exact HNo.out i (by omega)
        rw [← hp1] at y1
        rw [← hp2] at y2
        rw [← hp3] at y3
        clear hp1 hp2 hp3
        generalize hQ : n + j = q at i1 i2 w5 hq hqs HNo HNo2 ⊢
        have HQ := Lib.hid hQ
        clear hQ
        by_cases h11 : p1 = 11
        · subst h11
          go_wp2_with (go_at_call 9; refine (KN.out _ (keep_below HBw.out (below_alloc _ _))).mono ?_; rintro e w9 ⟨rfl, b9⟩)
          go_ret
          exact ⟨rfl, keep_below (keep_below HBw.out (below_alloc _ _)) b9⟩
        · have e11 : (p1 == 11) = false := by simpa using h11
          by_cases h13 : p1 = 13
          · subst h13
            clear h11
            go_wp2_with (go_at_call 9; refine (KN.out _ (keep_below HBw.out (below_alloc _ _))).mono ?_; rintro e w9 ⟨rfl, b9⟩)
            go_ret
            exact ⟨rfl, keep_below (keep_below HBw.out (below_alloc _ _)) b9⟩
          · have e13 : (p1 == 13) = false := by simpa using h13
            have HNo3 := Lib.hid (HNo2.out ⟨h11, h13⟩)
            clear h11 h13
            go_wp2
            go_roundw
            case rel => exact ⟨q + 1, by omega, by go_num, HNo3, keep_below HBw.out (below_alloc _ _), keep_below HB1.out (below_alloc _ _)⟩
            case measure => simp [intOf]; omega
    · have i1 : ¬ (q : Int) < (s : Int) := by omega
      have BW := HBw.out
      by_cases TA : Takes A
      · by_cases TB : Takes B
        · have HTA := Lib.hid TA
          have HTB := Lib.hid TB
          have hlA := can_len TA.can
          have hlB := can_len TB.can
          rw [← HLA.out] at hlA
          rw [← HLB.out] at hlB
          have SA2 : Hid (∀ W, Below w.heap.size w W → Calls Tryz.prog 11 #[.slice (some ⟨b3, o3, none⟩) n c] W (GotT (tL A) 0 W)) := fun W h => by
            have := SA.out W h
            rw [show tA A = tL A by unfold tA; rw [if_pos TA.t], TA.t] at this; exact this
          have hw1 : IntKind.i64.wrap ((n : Int) - 1) = (k : Int) := by rw [IntKind.wrap_i64]; omega
          have f1 : (0 : Int) ≤ (k : Int) := by omega
          have f2 : (k : Int) < (n : Int) := by omega
          have hq2 := eqlp_nil
          clear TA TB SA HcB
          go_wp2_with (first
            | (go_at_call 10; have q0 := d1; clear q0; refine (NB.out _ (keep_below BW d1)).mono ?_; rintro e w2 hG2; obtain ⟨bn, G, rfl, hM', hlo', d2⟩ := hG2.ok HTB.out)
            | (go_at_call 10; refine (NA.out _ BW).mono ?_; rintro e w1 hG; obtain ⟨bm, F, rfl, hM, hlo, d1⟩ := hG.ok HTA.out))
          refine (SA2.out _ (keep_below (keep_below BW d1) d2)).mono ?_
          rintro e w3 ⟨a3, n3, c3, rfl, r3, d3⟩
          obtain rfl : n = n3 := by have := r3.1; rw [tL_len, ← HLA.out] at this; exact this.symm
          obtain ⟨g3, p3, rfl, _, hc3⟩ := r3.2 (by omega)
          have y3 := hc3 k (by omega)
          rw [tL_at (by rw [← HLA.out]; omega)] at y3
          have G3 := keep_below (keep_below (keep_below BW d1) d2) d3
          clear hc3 r3
          generalize n + c3 = cc at ⊢
          by_cases he : sf A k = []
          · rw [he] at y3
            have e5 : ((bs []).toList == []) = true := by rw [bs_toList]; rfl
            have e6 : (bs []).toList = [] := bs_toList _
            have RAw := HA.out.below G3
            have RBw := HB.out.below G3
            obtain ⟨b4, o4, rfl, hbdl, _⟩ := RBw.2 (by omega)
            have hkA : A.length - 1 = k := by rw [← HLA.out]; omega
            have HT2 : Hid (two A B = A.take k ++ B) := by show _ = _; unfold two; rw [hkA]
            have HHe : Hid (sf A (A.length - 1) = []) := by show _ = _; rw [hkA]; exact he
            have HWO : Hid (wE (two A B) = 0) := two_whole2 HTA.out.whole HTB.out.whole (by rw [← HLA.out, ← HLB.out]; omega)
            have HTE : Hid (tE (two A B) = 0) := two_err HTA.out.t HTB.out.t HHe.out (by rw [← HLA.out, ← HLB.out]; omega)
            have hLl : (cellsI (A.take k)).length = k * 3 := by rw [cellsI_length, List.length_take, ← HLA.out]; omega
            have hMl : (cellsI B).length = m * 3 := by rw [cellsI_length, ← HLB.out]
            have HO : Hid ((w3.alloc (.cells #[] 52)).ownsRow w3.heap.size 52 3 (.slice (some ⟨w3.heap.size, 0, none⟩) 0 0) 0 []) := by
              refine ⟨by simp, Or.inr ⟨w3.heap.size, 0, #[], rfl, Nat.le_refl _, new_block _ _, by omega, by unfold maxLen; omega, rfl, rfl⟩⟩
            have HcA2 : Hid (∀ (W : World), Below w3.heap.size w3 W → ∀ j u, (cellsI (A.take k))[j]? = some u → W.cell? ((⟨b3, o3, none⟩ : Addr).add j) = some u) := fun W hW => ((RAw.take (m := k) (by omega)).below hW).cells rfl
            have HcB2 : Hid (∀ (W : World), Below w3.heap.size w3 W → ∀ j u, (cellsI B)[j]? = some u → W.cell? ((⟨b4, o4, none⟩ : Addr).add j) = some u) := fun W hW => (RBw.below hW).cells rfl
            have B0 := below_alloc w3 (.cells #[] 52)
            have hkc' : (k : Int) ≤ (c : Int) := by omega
            have HNs : Hid (∀ j, j < B.length → (at_ B j).1 ≠ 11 ∧ (at_ B j).1 ≠ 13) := fun j hj => HNo.out j (by rw [← HLB.out] at hj; omega)
            clear RAw RBw hkA he hbdl hsm
            go_wp2_with (at_builtin; refine wpList_append_own _ rfl _ _ 22 rfl w3.heap.size 52 i0 (.agg #[.int .i64 0, .int .i64 0, .int .i64 0]) 3 24 Tryz.underlying22 hi hz0 hz1 hz2 rfl (by decide) _ _ _ rfl HO.out ⟨b3, o3, none⟩ k c (cellsI (A.take k)) rfl hLl (HcA2.out _ B0) (cellsI_one (A.take k)) ?c3 ?c4 ?c5 ?_)
            case c3 => unfold maxLen; omega
            case c4 => omega
            case c5 => simp
            intro v1 w4 hown1 hgrow1 _
            have C1 : Below w3.heap.size w3 w4 := B0.grown hgrow1 (by simp) (fun g hg => by simp [Value.ownBlock] at hg; omega)
            have hv1 : ∀ g, v1.ownBlock = some g → w3.heap.size ≤ g := fun g hg => (hown1.lt g hg).1
            obtain ⟨A1, c1', rfl, _⟩ := RowI.own hown1
            clear hgrow1 HO
            go_wp2_with (at_builtin; refine wpList_append_own _ rfl _ _ 22 rfl w3.heap.size 52 i0 (.agg #[.int .i64 0, .int .i64 0, .int .i64 0]) 3 24 Tryz.underlying22 hi hz0 hz1 hz2 rfl (by decide) _ _ _ rfl hown1 ⟨b4, o4, none⟩ m d (cellsI B) rfl hMl (HcB2.out _ C1) (cellsI_one B) ?c3 ?c4 ?c5 ?_)
            case c3 => unfold maxLen; omega
            case c4 => omega
            case c5 => exact C1.size
            intro v2 w5 hown2 hgrow2 _
            have C2 : Below w3.heap.size w3 w5 := C1.grown hgrow2 C1.size hv1
            have hown3 : w5.ownsRow w3.heap.size 52 3 v2 (k + m) (cellsI (two A B)) := by
              have := hown2
              rw [HT2.out, cellsI_append]
              simpa using this
            obtain ⟨A5, c5, rfl, hR5⟩ := RowI.own hown3
            have G5 := keep_below G3 C2
            have NO := Lib.hid (new_any A5 (k + m) c5 (two A B) w5 hR5 (HNm.out.below G5))
            clear hown1 hown2 hown3 hgrow2 B0 C1 hR5 hv1 HcA2 HcB2 hLl hMl
            by_cases hlO : lE (two A B) = 0
            · have TO : Takes (two A B) := ⟨hlO, HTE.out⟩
              have HTO := Lib.hid TO
              clear hlO TO
              have dW : Below wr.heap.size wr w5 := keep_below (keep_below (keep_below d1 d2) d3) C2
              go_wp2_with (first
                | (go_at_call 13; have q0 := T8; clear q0; refine (SR.out _ H bo (two A B) fresh T8.rot.a rfl).mono ?_; rintro e w9 ⟨rfl, h9, g9⟩; have T9 := (T8.rot.start g9 h9).rot)
                | (go_at_call 13; have q0 := T7; clear q0; refine (SR.out _ G bn B fresh T7.rot.a rfl).mono ?_; rintro e w8 ⟨rfl, h8, g8⟩; have T8 := T7.rot.start g8 h8; have LD8 := load_16 (range_chg rI7 g8 (fun e => by have := hlo' _ e; have := d1.size; have := HB1.out.size; simp at this; omega) (fun e => by have := hlo' _ (e ▸ h8.fb); have := d1.size; have := HB1.out.size; simp at this; omega)) hl; rw [HLL.out] at LD8)
                | (go_at_call 13; refine (SR.out _ F bm A fresh T6.a rfl).mono ?_; rintro e w7 ⟨rfl, h7, g7⟩; have T7 := T6.start g7 h7; have rI7 := range_chg rI6 g7 (fun e => by have := hlo _ e; have := HB1.out.size; simp at this; omega) (fun e => by have := hlo _ (e ▸ h7.fb); have := HB1.out.size; simp at this; omega); have LD7 := load_16 rI7 hl; rw [HLL.out] at LD7)
                | (go_at_call 10; refine NO.out.mono ?_; rintro e w6 hG3; obtain ⟨bo, H, rfl, hM3, hlo3, d6⟩ := hG3.ok HTO.out; have rI6 := range_below (box_range w l hl) (by have := keep_below HB1.out (keep_below dW d6); rw [show (iv l).toArray = LA.toArray by rw [HLL.out]]; exact this); have LD6 := load_16 rI6 hl; rw [HLL.out] at LD6; have T6 : Trio w w6 F G H bm bn bo A B (two A B) fresh fresh fresh := ⟨hM.below (keep_below (keep_below (keep_below d2 d3) C2) d6), hM'.below (keep_below (keep_below d3 C2) d6), hM3, fun k h1 h2 => by have := hM.lt k h1; have := hlo' k h2; omega, fun k h1 h2 => by have := hM'.lt k h1; have := hlo3 k h2; have := d3.size; have := C2.size; omega, fun k h1 h2 => by have := hM.lt k h2; have := hlo3 k h1; have := d2.size; have := d3.size; have := C2.size; omega, fun k h => by have := hlo k h; have := BW.size; omega, fun k h => by have := hlo' k h; have := BW.size; have := d1.size; omega, fun k h => by have := hlo3 k h; have := G5.size; omega, keep_below G5 d6⟩))
              have HT9 := Lib.hid T9
              clear T6 T7 T8 T9 LD6 LD7 LD8 rI6 rI7 g7 g8 g9 h7 h8 h9 hM hM' hM3 hlo hlo' hlo3 d1 d2 d3 d6 C2 dW G5 G3 NO hG hG2 hG3 HB1 HBw BW y3 e5 e6 hw1 f1 f2 hkc' HNo i1 hqs NA NB SA2 HcA HA HB SR LD
              go_loopw [17] (fun i wr => ∃ (q : Nat) (F G H : Nat → Prop), q ≤ 3000 ∧ i = .int .i64 (q : Int) ∧ Hid (Trio w wr F G H bm bn bo A B (two A B) (itz A q (begun fresh.ret l)) (itz B q (begun fresh.ret l)) (itz (two A B) q (begun fresh.ret l)))) (fun i _ => 3000 - (intOf i).toNat)
              case atStart => exact ⟨0, F, G, H, by omega, rfl, HT9⟩
              case round =>
                clear HT9 hq
                obtain ⟨q, F, G, H, hq, rfl, TR⟩ := hrel
                have BW2 := TR.out.bel
                have Fx := Fine.zit (Or.inl (HTA.out.begun fresh.ret l)) HTA.out q
                have Fy := Fine.zit (Or.inl (HTB.out.begun fresh.ret l)) HTB.out q
                have Fz := Fine.zit (Or.inl (HTO.out.begun fresh.ret l)) HTO.out q
                obtain ⟨x, hx⟩ : ∃ x, x = itz A q (begun fresh.ret l) := ⟨_, rfl⟩
                obtain ⟨y, hy⟩ : ∃ y, y = itz B q (begun fresh.ret l) := ⟨_, rfl⟩
                obtain ⟨z, hz⟩ : ∃ z, z = itz (two A B) q (begun fresh.ret l) := ⟨_, rfl⟩
                have HK1 : Hid (itz A (q + 1) (begun fresh.ret l) = nz A x) := by show _ = _; rw [hx]; rfl
                have HK2 : Hid (itz B (q + 1) (begun fresh.ret l) = nz B y) := by show _ = _; rw [hy]; rfl
                have HK3 : Hid (itz (two A B) (q + 1) (begun fresh.ret l) = nz (two A B) z) := by show _ = _; rw [hz]; rfl
                have HZ1 : Hid (itz A q (begun fresh.ret l) = x) := hx.symm
                have HZ2 : Hid (itz B q (begun fresh.ret l) = y) := hy.symm
                have HZ3 : Hid (itz (two A B) q (begun fresh.ret l) = z) := hz.symm
                rw [← hx] at Fx TR
                rw [← hy] at Fy TR
                rw [← hz] at Fz TR
                clear hx hy hz
                have RA : Hid (∀ W F, Mac W F bm A x → Calls Tryz.prog 14 #[.pointer (some ⟨bm, 0, none⟩)] W fun e w' => e = .returned (.bool x.goes) ∧ W = w') := fun W F h => running_any W F bm A x h
                have RB : Hid (∀ W F, Mac W F bn B y → Calls Tryz.prog 14 #[.pointer (some ⟨bn, 0, none⟩)] W fun e w' => e = .returned (.bool y.goes) ∧ W = w') := fun W F h => running_any W F bn B y h
                have RC : Hid (∀ W F, Mac W F bo (two A B) z → Calls Tryz.prog 14 #[.pointer (some ⟨bo, 0, none⟩)] W fun e w' => e = .returned (.bool z.goes) ∧ W = w') := fun W F h => running_any W F bo (two A B) z h
                by_cases hq3 : q < 3000
                · have i1 : (q : Int) < 3000 := by omega
                  cases hga' : x.goes
                  · cases hgb' : y.goes
                    · cases hgc' : z.goes
                      · -- all have ended
                        have hga : (itz A q (begun fresh.ret l)).goes = false := by rw [HZ1.out]; exact hga'
                        have hgb : (itz B q (begun fresh.ret l)).goes = false := by rw [HZ2.out]; exact hgb'
                        have hgc : (itz (two A B) q (begun fresh.ret l)).goes = false := by rw [HZ3.out]; exact hgc'
                        have PE := parts_end HTA.out HTB.out HHe.out fresh.ret l HNs.out q hq hga hgb hgc
                        obtain ⟨E1, E2⟩ := PE
                        have SPb := fun L => itz_steps (L := L) (v := begun fresh.ret l) rfl q (by omega)
                        have sA := SPb A
                        have sB := SPb B
                        rw [HZ1.out] at sA E1 E2
                        rw [HZ2.out] at sB E1 E2
                        rw [HZ3.out] at E1 E2
                        obtain ⟨sa, hsa⟩ : ∃ s, s = x.stp := ⟨_, rfl⟩
                        obtain ⟨sb, hsb⟩ : ∃ s, s = y.stp := ⟨_, rfl⟩
                        obtain ⟨so, hso⟩ : ∃ s, s = z.stp := ⟨_, rfl⟩
                        rw [← hsa] at sA E1
                        rw [← hsb] at sB E1
                        rw [← hso] at E1
                        have SPm : Hid (∀ W F, Mac W F bm A x → Calls Tryz.prog 22 #[.pointer (some ⟨bm, 0, none⟩)] W fun e w' => e = .returned (.int .i64 sa) ∧ W = w') := fun W F h => by rw [hsa]; exact steps_any W F bm A x h
                        have SPn : Hid (∀ W F, Mac W F bn B y → Calls Tryz.prog 22 #[.pointer (some ⟨bn, 0, none⟩)] W fun e w' => e = .returned (.int .i64 sb) ∧ W = w') := fun W F h => by rw [hsb]; exact steps_any W F bn B y h
                        have SPo : Hid (∀ W F, Mac W F bo (two A B) z → Calls Tryz.prog 22 #[.pointer (some ⟨bo, 0, none⟩)] W fun e w' => e = .returned (.int .i64 so) ∧ W = w') := fun W F h => by rw [hso]; exact steps_any W F bo (two A B) z h
                        have OU : Hid (∀ W I c L v, Mac W I c L v → Calls Tryz.prog 19 #[.pointer (some ⟨c, 0, none⟩)] W fun e w' => (∃ a cc, e = .returned (.slice a (outTo v 16).length cc)) ∧ Below W.heap.size W w') := fun W I c L v h => by
                          refine (outs_any W I c L v h).mono ?_
                          rintro e w' ⟨u, rfl, ho, hb⟩
                          obtain ⟨a, c, rfl, hr⟩ := RowP.own ho
                          exact ⟨⟨a, c, rfl⟩, hb⟩
                        have la16 := outTo_len x 16
                        have lb16 := outTo_len y 16
                        obtain ⟨la, hla⟩ : ∃ n, n = (outTo x 16).length := ⟨_, rfl⟩
                        obtain ⟨lb, hlb⟩ : ∃ n, n = (outTo y 16).length := ⟨_, rfl⟩
                        obtain ⟨lo, hlo⟩ : ∃ n, n = (outTo z 16).length := ⟨_, rfl⟩
                        have OUm : Hid (∀ W I, Mac W I bm A x → Calls Tryz.prog 19 #[.pointer (some ⟨bm, 0, none⟩)] W fun e w' => (∃ a c, e = .returned (.slice a la c)) ∧ Below W.heap.size W w') := fun W I h => by rw [hla]; exact OU.out W I bm A x h
                        have OUn : Hid (∀ W I, Mac W I bn B y → Calls Tryz.prog 19 #[.pointer (some ⟨bn, 0, none⟩)] W fun e w' => (∃ a c, e = .returned (.slice a lb c)) ∧ Below W.heap.size W w') := fun W I h => by rw [hlb]; exact OU.out W I bn B y h
                        have OUo : Hid (∀ W I, Mac W I bo (two A B) z → Calls Tryz.prog 19 #[.pointer (some ⟨bo, 0, none⟩)] W fun e w' => (∃ a c, e = .returned (.slice a lo c)) ∧ Below W.heap.size W w') := fun W I h => by rw [hlo]; exact OU.out W I bo (two A B) z h
                        rw [← hla] at E2 la16
                        rw [← hlb] at E2 lb16
                        rw [← hlo] at E2
                        have v1 : IntKind.i64.wrap (sa + sb) = sa + sb := by rw [IntKind.wrap_i64]; omega
                        have v2 : IntKind.i64.wrap (sa + sb - 1) = so := by rw [IntKind.wrap_i64]; omega
                        have v3 : IntKind.i64.wrap ((la : Int) + (lb : Int)) = (la : Int) + (lb : Int) := by rw [IntKind.wrap_i64]; omega
                        have v4 : decide ((lo : Int) ≤ (la : Int) + (lb : Int)) = true := by rw [decide_eq_true_iff]; omega
                        have v5 : decide (lo ≤ la + lb) = true := by rw [decide_eq_true_iff]; omega
                        rw [hga'] at RA
                        rw [hgb'] at RB
                        rw [hgc'] at RC
                        clear E1 E2 sA sB SPb hsa hsb hso hla hlb hlo OU la16 lb16 hga hgb hgc hga' hgb' hgc'
                        go_wp2_with (first
                          | (go_at_call 9; refine (KN.out _ (keep_below BW2 (keep_below (keep_below e1 e2) e3))).mono ?_; rintro e w9 ⟨rfl, b9⟩)
                          | (go_at_call 19; have q0 := e2; clear q0; refine (OUo.out _ H (TR.out.c.below (keep_below e1 e2))).mono ?_; rintro e w9 ⟨⟨oa, oc, rfl⟩, e3⟩)
                          | (go_at_call 19; have q0 := e1; clear q0; refine (OUn.out _ G (TR.out.b.below e1)).mono ?_; rintro e w9 ⟨⟨oa, oc, rfl⟩, e2⟩)
                          | (go_at_call 19; refine (OUm.out _ F TR.out.a).mono ?_; rintro e w9 ⟨⟨oa, oc, rfl⟩, e1⟩)
                          | (go_at_call 22; have q0 := ms2; clear q0; refine (SPn.out _ G TR.out.b).mono ?_; rintro e w9 ⟨rfl, rfl⟩)
                          | (go_at_call 22; have q0 := ms1; clear q0; refine (SPm.out _ F TR.out.a).mono ?_; rintro e w9 ⟨rfl, rfl⟩; have ms2 := True.intro)
                          | (go_at_call 22; refine (SPo.out _ H TR.out.c).mono ?_; rintro e w9 ⟨rfl, rfl⟩; have ms1 := True.intro)
                          | (go_at_call 14; have q0 := mk5; clear q0; refine (RC.out _ H TR.out.c).mono ?_; rintro e w9 ⟨rfl, rfl⟩)
                          | (go_at_call 14; have q0 := mk4; clear q0; refine (RB.out _ G TR.out.b).mono ?_; rintro e w9 ⟨rfl, rfl⟩; have mk5 := True.intro)
                          | (go_at_call 14; have q0 := mk3; clear q0; refine (RA.out _ F TR.out.a).mono ?_; rintro e w9 ⟨rfl, rfl⟩; have mk4 := True.intro)
                          | (go_at_call 14; have q0 := mk2; clear q0; refine (RC.out _ H TR.out.c).mono ?_; rintro e w9 ⟨rfl, rfl⟩; have mk3 := True.intro)
                          | (go_at_call 14; have q0 := mk1; clear q0; refine (RB.out _ G TR.out.b).mono ?_; rintro e w9 ⟨rfl, rfl⟩; have mk2 := True.intro)
                          | (go_at_call 14; refine (RA.out _ F TR.out.a).mono ?_; rintro e w9 ⟨rfl, rfl⟩; have mk1 := True.intro))
                        go_ret
                        exact ⟨rfl, keep_below (keep_below BW2 (keep_below (keep_below e1 e2) e3)) b9⟩
                      · rw [hga'] at RA
                        rw [hgb'] at RB
                        rw [hgc'] at RC
                        have HGA := True.intro
                        clear hga' hgb' hgc'
                        clear HGA
                        go_wp2_with (first
                          | (go_at_call 18; have q0 := T8; clear q0; refine (T8.rot.go Fz HTO.out #[.int .i64 0, .int .i64 0, .int .i64 0, .int .i64 0, .int .i64 0, .int .i64 0, .int .i64 0, .int .i64 0, .int .i64 0, .int .i64 0, .int .i64 0, .int .i64 0, .int .i64 0, .int .i64 0, .int .i64 0, .int .i64 0, .int .i64 0, .int .i64 0, .int .i64 0, .int .i64 0, .int .i64 0, .int .i64 0, .int .i64 0, .int .i64 0, .int .i64 0, .int .i64 0, .int .i64 0, .int .i64 0, .int .i64 0, .int .i64 0, .int .i64 0, .int .i64 0, .int .i64 0, .int .i64 0, .int .i64 0, .int .i64 0, .int .i64 0, .int .i64 0, .int .i64 0, .int .i64 0, .int .i64 0, .int .i64 0, .int .i64 0, .int .i64 0, .int .i64 0, .int .i64 0, .int .i64 0, .int .i64 0, .int .i64 0, .int .i64 0, .int .i64 0, .int .i64 0, .int .i64 0, .int .i64 0, .int .i64 0, .int .i64 0, .int .i64 0, .int .i64 0, .int .i64 0, .int .i64 0, .int .i64 0, .int .i64 0, .int .i64 0, .int .i64 0] rfl).mono ?_; rintro e w9 ⟨rfl, H', T9⟩)
                          | (go_at_call 18; have q0 := T7; clear q0; refine (T7.rot.go Fy HTB.out #[.int .i64 0, .int .i64 0, .int .i64 0, .int .i64 0, .int .i64 0, .int .i64 0, .int .i64 0, .int .i64 0, .int .i64 0, .int .i64 0, .int .i64 0, .int .i64 0, .int .i64 0, .int .i64 0, .int .i64 0, .int .i64 0, .int .i64 0, .int .i64 0, .int .i64 0, .int .i64 0, .int .i64 0, .int .i64 0, .int .i64 0, .int .i64 0, .int .i64 0, .int .i64 0, .int .i64 0, .int .i64 0, .int .i64 0, .int .i64 0, .int .i64 0, .int .i64 0, .int .i64 0, .int .i64 0, .int .i64 0, .int .i64 0, .int .i64 0, .int .i64 0, .int .i64 0, .int .i64 0, .int .i64 0, .int .i64 0, .int .i64 0, .int .i64 0, .int .i64 0, .int .i64 0, .int .i64 0, .int .i64 0, .int .i64 0, .int .i64 0, .int .i64 0, .int .i64 0, .int .i64 0, .int .i64 0, .int .i64 0, .int .i64 0, .int .i64 0, .int .i64 0, .int .i64 0, .int .i64 0, .int .i64 0, .int .i64 0, .int .i64 0, .int .i64 0] rfl).mono ?_; rintro e w8 ⟨rfl, G', T8⟩)
                          | (go_at_call 18; refine (TR.out.go Fx HTA.out #[.int .i64 0, .int .i64 0, .int .i64 0, .int .i64 0, .int .i64 0, .int .i64 0, .int .i64 0, .int .i64 0, .int .i64 0, .int .i64 0, .int .i64 0, .int .i64 0, .int .i64 0, .int .i64 0, .int .i64 0, .int .i64 0, .int .i64 0, .int .i64 0, .int .i64 0, .int .i64 0, .int .i64 0, .int .i64 0, .int .i64 0, .int .i64 0, .int .i64 0, .int .i64 0, .int .i64 0, .int .i64 0, .int .i64 0, .int .i64 0, .int .i64 0, .int .i64 0, .int .i64 0, .int .i64 0, .int .i64 0, .int .i64 0, .int .i64 0, .int .i64 0, .int .i64 0, .int .i64 0, .int .i64 0, .int .i64 0, .int .i64 0, .int .i64 0, .int .i64 0, .int .i64 0, .int .i64 0, .int .i64 0, .int .i64 0, .int .i64 0, .int .i64 0, .int .i64 0, .int .i64 0, .int .i64 0, .int .i64 0, .int .i64 0, .int .i64 0, .int .i64 0, .int .i64 0, .int .i64 0, .int .i64 0, .int .i64 0, .int .i64 0, .int .i64 0] rfl).mono ?_; rintro e w7 ⟨rfl, F', T7⟩)
                          | (go_at_call 14; have q0 := mk5; clear q0; refine (RC.out _ H TR.out.c).mono ?_; rintro e w9 ⟨rfl, rfl⟩)
                          | (go_at_call 14; have q0 := mk4; clear q0; refine (RB.out _ G TR.out.b).mono ?_; rintro e w9 ⟨rfl, rfl⟩; have mk5 := True.intro)
                          | (go_at_call 14; have q0 := mk3; clear q0; refine (RA.out _ F TR.out.a).mono ?_; rintro e w9 ⟨rfl, rfl⟩; have mk4 := True.intro)
                          | (go_at_call 14; have q0 := mk2; clear q0; refine (RC.out _ H TR.out.c).mono ?_; rintro e w9 ⟨rfl, rfl⟩; have mk3 := True.intro)
                          | (go_at_call 14; have q0 := mk1; clear q0; refine (RB.out _ G TR.out.b).mono ?_; rintro e w9 ⟨rfl, rfl⟩; have mk2 := True.intro)
                          | (go_at_call 14; refine (RA.out _ F TR.out.a).mono ?_; rintro e w9 ⟨rfl, rfl⟩; have mk1 := True.intro))
                        have HT9 := Lib.hid T9.rot
                        rw [← HK1.out, ← HK2.out, ← HK3.out] at HT9
                        clear T7 T8 T9
                        go_roundw
                        case rel => exact ⟨q + 1, F', G', H', by omega, by go_num, HT9⟩
                        case measure => simp [intOf]; omega
                    · rw [hga'] at RA
                      rw [hgb'] at RB
                      have HGA := True.intro
                      clear hga' hgb'
                      clear HGA
                      go_wp2_with (first
                        | (go_at_call 18; have q0 := T8; clear q0; refine (T8.rot.go Fz HTO.out #[.int .i64 0, .int .i64 0, .int .i64 0, .int .i64 0, .int .i64 0, .int .i64 0, .int .i64 0, .int .i64 0, .int .i64 0, .int .i64 0, .int .i64 0, .int .i64 0, .int .i64 0, .int .i64 0, .int .i64 0, .int .i64 0, .int .i64 0, .int .i64 0, .int .i64 0, .int .i64 0, .int .i64 0, .int .i64 0, .int .i64 0, .int .i64 0, .int .i64 0, .int .i64 0, .int .i64 0, .int .i64 0, .int .i64 0, .int .i64 0, .int .i64 0, .int .i64 0, .int .i64 0, .int .i64 0, .int .i64 0, .int .i64 0, .int .i64 0, .int .i64 0, .int .i64 0, .int .i64 0, .int .i64 0, .int .i64 0, .int .i64 0, .int .i64 0, .int .i64 0, .int .i64 0, .int .i64 0, .int .i64 0, .int .i64 0, .int .i64 0, .int .i64 0, .int .i64 0, .int .i64 0, .int .i64 0, .int .i64 0, .int .i64 0, .int .i64 0, .int .i64 0, .int .i64 0, .int .i64 0, .int .i64 0, .int .i64 0, .int .i64 0, .int .i64 0] rfl).mono ?_; rintro e w9 ⟨rfl, H', T9⟩)
                        | (go_at_call 18; have q0 := T7; clear q0; refine (T7.rot.go Fy HTB.out #[.int .i64 0, .int .i64 0, .int .i64 0, .int .i64 0, .int .i64 0, .int .i64 0, .int .i64 0, .int .i64 0, .int .i64 0, .int .i64 0, .int .i64 0, .int .i64 0, .int .i64 0, .int .i64 0, .int .i64 0, .int .i64 0, .int .i64 0, .int .i64 0, .int .i64 0, .int .i64 0, .int .i64 0, .int .i64 0, .int .i64 0, .int .i64 0, .int .i64 0, .int .i64 0, .int .i64 0, .int .i64 0, .int .i64 0, .int .i64 0, .int .i64 0, .int .i64 0, .int .i64 0, .int .i64 0, .int .i64 0, .int .i64 0, .int .i64 0, .int .i64 0, .int .i64 0, .int .i64 0, .int .i64 0, .int .i64 0, .int .i64 0, .int .i64 0, .int .i64 0, .int .i64 0, .int .i64 0, .int .i64 0, .int .i64 0, .int .i64 0, .int .i64 0, .int .i64 0, .int .i64 0, .int .i64 0, .int .i64 0, .int .i64 0, .int .i64 0, .int .i64 0, .int .i64 0, .int .i64 0, .int .i64 0, .int .i64 0, .int .i64 0, .int .i64 0] rfl).mono ?_; rintro e w8 ⟨rfl, G', T8⟩)
                        | (go_at_call 18; refine (TR.out.go Fx HTA.out #[.int .i64 0, .int .i64 0, .int .i64 0, .int .i64 0, .int .i64 0, .int .i64 0, .int .i64 0, .int .i64 0, .int .i64 0, .int .i64 0, .int .i64 0, .int .i64 0, .int .i64 0, .int .i64 0, .int .i64 0, .int .i64 0, .int .i64 0, .int .i64 0, .int .i64 0, .int .i64 0, .int .i64 0, .int .i64 0, .int .i64 0, .int .i64 0, .int .i64 0, .int .i64 0, .int .i64 0, .int .i64 0, .int .i64 0, .int .i64 0, .int .i64 0, .int .i64 0, .int .i64 0, .int .i64 0, .int .i64 0, .int .i64 0, .int .i64 0, .int .i64 0, .int .i64 0, .int .i64 0, .int .i64 0, .int .i64 0, .int .i64 0, .int .i64 0, .int .i64 0, .int .i64 0, .int .i64 0, .int .i64 0, .int .i64 0, .int .i64 0, .int .i64 0, .int .i64 0, .int .i64 0, .int .i64 0, .int .i64 0, .int .i64 0, .int .i64 0, .int .i64 0, .int .i64 0, .int .i64 0, .int .i64 0, .int .i64 0, .int .i64 0, .int .i64 0] rfl).mono ?_; rintro e w7 ⟨rfl, F', T7⟩)
                        | (go_at_call 14; have q0 := mk5; clear q0; refine (RC.out _ H TR.out.c).mono ?_; rintro e w9 ⟨rfl, rfl⟩)
                        | (go_at_call 14; have q0 := mk4; clear q0; refine (RB.out _ G TR.out.b).mono ?_; rintro e w9 ⟨rfl, rfl⟩; have mk5 := True.intro)
                        | (go_at_call 14; have q0 := mk3; clear q0; refine (RA.out _ F TR.out.a).mono ?_; rintro e w9 ⟨rfl, rfl⟩; have mk4 := True.intro)
                        | (go_at_call 14; have q0 := mk2; clear q0; refine (RC.out _ H TR.out.c).mono ?_; rintro e w9 ⟨rfl, rfl⟩; have mk3 := True.intro)
                        | (go_at_call 14; have q0 := mk1; clear q0; refine (RB.out _ G TR.out.b).mono ?_; rintro e w9 ⟨rfl, rfl⟩; have mk2 := True.intro)
                        | (go_at_call 14; refine (RA.out _ F TR.out.a).mono ?_; rintro e w9 ⟨rfl, rfl⟩; have mk1 := True.intro))
                      have HT9 := Lib.hid T9.rot
                      rw [← HK1.out, ← HK2.out, ← HK3.out] at HT9
                      clear T7 T8 T9
                      go_roundw
                      case rel => exact ⟨q + 1, F', G', H', by omega, by go_num, HT9⟩
                      case measure => simp [intOf]; omega
                  · rw [hga'] at RA
                    have HGA := True.intro
                    clear hga'
                    clear HGA
                    go_wp2_with (first
                      | (go_at_call 18; have q0 := T8; clear q0; refine (T8.rot.go Fz HTO.out #[.int .i64 0, .int .i64 0, .int .i64 0, .int .i64 0, .int .i64 0, .int .i64 0, .int .i64 0, .int .i64 0, .int .i64 0, .int .i64 0, .int .i64 0, .int .i64 0, .int .i64 0, .int .i64 0, .int .i64 0, .int .i64 0, .int .i64 0, .int .i64 0, .int .i64 0, .int .i64 0, .int .i64 0, .int .i64 0, .int .i64 0, .int .i64 0, .int .i64 0, .int .i64 0, .int .i64 0, .int .i64 0, .int .i64 0, .int .i64 0, .int .i64 0, .int .i64 0, .int .i64 0, .int .i64 0, .int .i64 0, .int .i64 0, .int .i64 0, .int .i64 0, .int .i64 0, .int .i64 0, .int .i64 0, .int .i64 0, .int .i64 0, .int .i64 0, .int .i64 0, .int .i64 0, .int .i64 0, .int .i64 0, .int .i64 0, .int .i64 0, .int .i64 0, .int .i64 0, .int .i64 0, .int .i64 0, .int .i64 0, .int .i64 0, .int .i64 0, .int .i64 0, .int .i64 0, .int .i64 0, .int .i64 0, .int .i64 0, .int .i64 0, .int .i64 0] rfl).mono ?_; rintro e w9 ⟨rfl, H', T9⟩)
                      | (go_at_call 18; have q0 := T7; clear q0; refine (T7.rot.go Fy HTB.out #[.int .i64 0, .int .i64 0, .int .i64 0, .int .i64 0, .int .i64 0, .int .i64 0, .int .i64 0, .int .i64 0, .int .i64 0, .int .i64 0, .int .i64 0, .int .i64 0, .int .i64 0, .int .i64 0, .int .i64 0, .int .i64 0, .int .i64 0, .int .i64 0, .int .i64 0, .int .i64 0, .int .i64 0, .int .i64 0, .int .i64 0, .int .i64 0, .int .i64 0, .int .i64 0, .int .i64 0, .int .i64 0, .int .i64 0, .int .i64 0, .int .i64 0, .int .i64 0, .int .i64 0, .int .i64 0, .int .i64 0, .int .i64 0, .int .i64 0, .int .i64 0, .int .i64 0, .int .i64 0, .int .i64 0, .int .i64 0, .int .i64 0, .int .i64 0, .int .i64 0, .int .i64 0, .int .i64 0, .int .i64 0, .int .i64 0, .int .i64 0, .int .i64 0, .int .i64 0, .int .i64 0, .int .i64 0, .int .i64 0, .int .i64 0, .int .i64 0, .int .i64 0, .int .i64 0, .int .i64 0, .int .i64 0, .int .i64 0, .int .i64 0, .int .i64 0] rfl).mono ?_; rintro e w8 ⟨rfl, G', T8⟩)
                      | (go_at_call 18; refine (TR.out.go Fx HTA.out #[.int .i64 0, .int .i64 0, .int .i64 0, .int .i64 0, .int .i64 0, .int .i64 0, .int .i64 0, .int .i64 0, .int .i64 0, .int .i64 0, .int .i64 0, .int .i64 0, .int .i64 0, .int .i64 0, .int .i64 0, .int .i64 0, .int .i64 0, .int .i64 0, .int .i64 0, .int .i64 0, .int .i64 0, .int .i64 0, .int .i64 0, .int .i64 0, .int .i64 0, .int .i64 0, .int .i64 0, .int .i64 0, .int .i64 0, .int .i64 0, .int .i64 0, .int .i64 0, .int .i64 0, .int .i64 0, .int .i64 0, .int .i64 0, .int .i64 0, .int .i64 0, .int .i64 0, .int .i64 0, .int .i64 0, .int .i64 0, .int .i64 0, .int .i64 0, .int .i64 0, .int .i64 0, .int .i64 0, .int .i64 0, .int .i64 0, .int .i64 0, .int .i64 0, .int .i64 0, .int .i64 0, .int .i64 0, .int .i64 0, .int .i64 0, .int .i64 0, .int .i64 0, .int .i64 0, .int .i64 0, .int .i64 0, .int .i64 0, .int .i64 0, .int .i64 0] rfl).mono ?_; rintro e w7 ⟨rfl, F', T7⟩)
                      | (go_at_call 14; have q0 := mk5; clear q0; refine (RC.out _ H TR.out.c).mono ?_; rintro e w9 ⟨rfl, rfl⟩)
                      | (go_at_call 14; have q0 := mk4; clear q0; refine (RB.out _ G TR.out.b).mono ?_; rintro e w9 ⟨rfl, rfl⟩; have mk5 := True.intro)
                      | (go_at_call 14; have q0 := mk3; clear q0; refine (RA.out _ F TR.out.a).mono ?_; rintro e w9 ⟨rfl, rfl⟩; have mk4 := True.intro)
                      | (go_at_call 14; have q0 := mk2; clear q0; refine (RC.out _ H TR.out.c).mono ?_; rintro e w9 ⟨rfl, rfl⟩; have mk3 := True.intro)
                      | (go_at_call 14; have q0 := mk1; clear q0; refine (RB.out _ G TR.out.b).mono ?_; rintro e w9 ⟨rfl, rfl⟩; have mk2 := True.intro)
                      | (go_at_call 14; refine (RA.out _ F TR.out.a).mono ?_; rintro e w9 ⟨rfl, rfl⟩; have mk1 := True.intro))
                    have HT9 := Lib.hid T9.rot
                    rw [← HK1.out, ← HK2.out, ← HK3.out] at HT9
                    clear T7 T8 T9
                    go_roundw
                    case rel => exact ⟨q + 1, F', G', H', by omega, by go_num, HT9⟩
                    case measure => simp [intOf]; omega
                · have i1 : ¬ (q : Int) < 3000 := by omega
                  cases hga' : x.goes
                  · cases hgb' : y.goes
                    · cases hgc' : z.goes
                      · -- all have ended
                        have hga : (itz A q (begun fresh.ret l)).goes = false := by rw [HZ1.out]; exact hga'
                        have hgb : (itz B q (begun fresh.ret l)).goes = false := by rw [HZ2.out]; exact hgb'
                        have hgc : (itz (two A B) q (begun fresh.ret l)).goes = false := by rw [HZ3.out]; exact hgc'
                        have PE := parts_end HTA.out HTB.out HHe.out fresh.ret l HNs.out q hq hga hgb hgc
                        obtain ⟨E1, E2⟩ := PE
                        have SPb := fun L => itz_steps (L := L) (v := begun fresh.ret l) rfl q (by omega)
                        have sA := SPb A
                        have sB := SPb B
                        rw [HZ1.out] at sA E1 E2
                        rw [HZ2.out] at sB E1 E2
                        rw [HZ3.out] at E1 E2
                        obtain ⟨sa, hsa⟩ : ∃ s, s = x.stp := ⟨_, rfl⟩
                        obtain ⟨sb, hsb⟩ : ∃ s, s = y.stp := ⟨_, rfl⟩
                        obtain ⟨so, hso⟩ : ∃ s, s = z.stp := ⟨_, rfl⟩
                        rw [← hsa] at sA E1
                        rw [← hsb] at sB E1
                        rw [← hso] at E1
                        have SPm : Hid (∀ W F, Mac W F bm A x → Calls Tryz.prog 22 #[.pointer (some ⟨bm, 0, none⟩)] W fun e w' => e = .returned (.int .i64 sa) ∧ W = w') := fun W F h => by rw [hsa]; exact steps_any W F bm A x h
                        have SPn : Hid (∀ W F, Mac W F bn B y → Calls Tryz.prog 22 #[.pointer (some ⟨bn, 0, none⟩)] W fun e w' => e = .returned (.int .i64 sb) ∧ W = w') := fun W F h => by rw [hsb]; exact steps_any W F bn B y h
                        have SPo : Hid (∀ W F, Mac W F bo (two A B) z → Calls Tryz.prog 22 #[.pointer (some ⟨bo, 0, none⟩)] W fun e w' => e = .returned (.int .i64 so) ∧ W = w') := fun W F h => by rw [hso]; exact steps_any W F bo (two A B) z h
                        have OU : Hid (∀ W I c L v, Mac W I c L v → Calls Tryz.prog 19 #[.pointer (some ⟨c, 0, none⟩)] W fun e w' => (∃ a cc, e = .returned (.slice a (outTo v 16).length cc)) ∧ Below W.heap.size W w') := fun W I c L v h => by
                          refine (outs_any W I c L v h).mono ?_
                          rintro e w' ⟨u, rfl, ho, hb⟩
                          obtain ⟨a, c, rfl, hr⟩ := RowP.own ho
                          exact ⟨⟨a, c, rfl⟩, hb⟩
                        have la16 := outTo_len x 16
                        have lb16 := outTo_len y 16
                        obtain ⟨la, hla⟩ : ∃ n, n = (outTo x 16).length := ⟨_, rfl⟩
                        obtain ⟨lb, hlb⟩ : ∃ n, n = (outTo y 16).length := ⟨_, rfl⟩
                        obtain ⟨lo, hlo⟩ : ∃ n, n = (outTo z 16).length := ⟨_, rfl⟩
                        have OUm : Hid (∀ W I, Mac W I bm A x → Calls Tryz.prog 19 #[.pointer (some ⟨bm, 0, none⟩)] W fun e w' => (∃ a c, e = .returned (.slice a la c)) ∧ Below W.heap.size W w') := fun W I h => by rw [hla]; exact OU.out W I bm A x h
                        have OUn : Hid (∀ W I, Mac W I bn B y → Calls Tryz.prog 19 #[.pointer (some ⟨bn, 0, none⟩)] W fun e w' => (∃ a c, e = .returned (.slice a lb c)) ∧ Below W.heap.size W w') := fun W I h => by rw [hlb]; exact OU.out W I bn B y h
                        have OUo : Hid (∀ W I, Mac W I bo (two A B) z → Calls Tryz.prog 19 #[.pointer (some ⟨bo, 0, none⟩)] W fun e w' => (∃ a c, e = .returned (.slice a lo c)) ∧ Below W.heap.size W w') := fun W I h => by rw [hlo]; exact OU.out W I bo (two A B) z h
                        rw [← hla] at E2 la16
                        rw [← hlb] at E2 lb16
                        rw [← hlo] at E2
                        have v1 : IntKind.i64.wrap (sa + sb) = sa + sb := by rw [IntKind.wrap_i64]; omega
                        have v2 : IntKind.i64.wrap (sa + sb - 1) = so := by rw [IntKind.wrap_i64]; omega
                        have v3 : IntKind.i64.wrap ((la : Int) + (lb : Int)) = (la : Int) + (lb : Int) := by rw [IntKind.wrap_i64]; omega
                        have v4 : decide ((lo : Int) ≤ (la : Int) + (lb : Int)) = true := by rw [decide_eq_true_iff]; omega
                        have v5 : decide (lo ≤ la + lb) = true := by rw [decide_eq_true_iff]; omega
                        rw [hga'] at RA
                        rw [hgb'] at RB
                        rw [hgc'] at RC
                        clear E1 E2 sA sB SPb hsa hsb hso hla hlb hlo OU la16 lb16 hga hgb hgc hga' hgb' hgc'
                        go_wp2_with (first
                          | (go_at_call 9; refine (KN.out _ (keep_below BW2 (keep_below (keep_below e1 e2) e3))).mono ?_; rintro e w9 ⟨rfl, b9⟩)
                          | (go_at_call 19; have q0 := e2; clear q0; refine (OUo.out _ H (TR.out.c.below (keep_below e1 e2))).mono ?_; rintro e w9 ⟨⟨oa, oc, rfl⟩, e3⟩)
                          | (go_at_call 19; have q0 := e1; clear q0; refine (OUn.out _ G (TR.out.b.below e1)).mono ?_; rintro e w9 ⟨⟨oa, oc, rfl⟩, e2⟩)
                          | (go_at_call 19; refine (OUm.out _ F TR.out.a).mono ?_; rintro e w9 ⟨⟨oa, oc, rfl⟩, e1⟩)
                          | (go_at_call 22; have q0 := ms2; clear q0; refine (SPn.out _ G TR.out.b).mono ?_; rintro e w9 ⟨rfl, rfl⟩)
                          | (go_at_call 22; have q0 := ms1; clear q0; refine (SPm.out _ F TR.out.a).mono ?_; rintro e w9 ⟨rfl, rfl⟩; have ms2 := True.intro)
                          | (go_at_call 22; refine (SPo.out _ H TR.out.c).mono ?_; rintro e w9 ⟨rfl, rfl⟩; have ms1 := True.intro)
                          | (go_at_call 14; have q0 := mk5; clear q0; refine (RC.out _ H TR.out.c).mono ?_; rintro e w9 ⟨rfl, rfl⟩)
                          | (go_at_call 14; have q0 := mk4; clear q0; refine (RB.out _ G TR.out.b).mono ?_; rintro e w9 ⟨rfl, rfl⟩; have mk5 := True.intro)
                          | (go_at_call 14; have q0 := mk3; clear q0; refine (RA.out _ F TR.out.a).mono ?_; rintro e w9 ⟨rfl, rfl⟩; have mk4 := True.intro)
                          | (go_at_call 14; have q0 := mk2; clear q0; refine (RC.out _ H TR.out.c).mono ?_; rintro e w9 ⟨rfl, rfl⟩; have mk3 := True.intro)
                          | (go_at_call 14; have q0 := mk1; clear q0; refine (RB.out _ G TR.out.b).mono ?_; rintro e w9 ⟨rfl, rfl⟩; have mk2 := True.intro)
                          | (go_at_call 14; refine (RA.out _ F TR.out.a).mono ?_; rintro e w9 ⟨rfl, rfl⟩; have mk1 := True.intro))
                        go_ret
                        exact ⟨rfl, keep_below (keep_below BW2 (keep_below (keep_below e1 e2) e3)) b9⟩
                      · rw [hga'] at RA
                        rw [hgb'] at RB
                        rw [hgc'] at RC
                        clear hga' hgb' hgc'
                        go_wp2_with (first
                          | (go_at_call 9; refine (KN.out _ BW2).mono ?_; rintro e w9 ⟨rfl, b9⟩)
                          | (go_at_call 14; have q0 := mk5; clear q0; refine (RC.out _ H TR.out.c).mono ?_; rintro e w9 ⟨rfl, rfl⟩)
                          | (go_at_call 14; have q0 := mk4; clear q0; refine (RB.out _ G TR.out.b).mono ?_; rintro e w9 ⟨rfl, rfl⟩; have mk5 := True.intro)
                          | (go_at_call 14; have q0 := mk3; clear q0; refine (RA.out _ F TR.out.a).mono ?_; rintro e w9 ⟨rfl, rfl⟩; have mk4 := True.intro)
                          | (go_at_call 14; have q0 := mk2; clear q0; refine (RC.out _ H TR.out.c).mono ?_; rintro e w9 ⟨rfl, rfl⟩; have mk3 := True.intro)
                          | (go_at_call 14; have q0 := mk1; clear q0; refine (RB.out _ G TR.out.b).mono ?_; rintro e w9 ⟨rfl, rfl⟩; have mk2 := True.intro)
                          | (go_at_call 14; refine (RA.out _ F TR.out.a).mono ?_; rintro e w9 ⟨rfl, rfl⟩; have mk1 := True.intro))
                        go_ret
                        exact ⟨rfl, keep_below BW2 b9⟩
                    · rw [hga'] at RA
                      rw [hgb'] at RB
                      clear hga' hgb'
                      go_wp2_with (first
                        | (go_at_call 9; refine (KN.out _ BW2).mono ?_; rintro e w9 ⟨rfl, b9⟩)
                        | (go_at_call 14; have q0 := mk5; clear q0; refine (RC.out _ H TR.out.c).mono ?_; rintro e w9 ⟨rfl, rfl⟩)
                        | (go_at_call 14; have q0 := mk4; clear q0; refine (RB.out _ G TR.out.b).mono ?_; rintro e w9 ⟨rfl, rfl⟩; have mk5 := True.intro)
                        | (go_at_call 14; have q0 := mk3; clear q0; refine (RA.out _ F TR.out.a).mono ?_; rintro e w9 ⟨rfl, rfl⟩; have mk4 := True.intro)
                        | (go_at_call 14; have q0 := mk2; clear q0; refine (RC.out _ H TR.out.c).mono ?_; rintro e w9 ⟨rfl, rfl⟩; have mk3 := True.intro)
                        | (go_at_call 14; have q0 := mk1; clear q0; refine (RB.out _ G TR.out.b).mono ?_; rintro e w9 ⟨rfl, rfl⟩; have mk2 := True.intro)
                        | (go_at_call 14; refine (RA.out _ F TR.out.a).mono ?_; rintro e w9 ⟨rfl, rfl⟩; have mk1 := True.intro))
                      go_ret
                      exact ⟨rfl, keep_below BW2 b9⟩
                  · rw [hga'] at RA
                    clear hga'
                    go_wp2_with (first
                      | (go_at_call 9; refine (KN.out _ BW2).mono ?_; rintro e w9 ⟨rfl, b9⟩)
                      | (go_at_call 14; have q0 := mk5; clear q0; refine (RC.out _ H TR.out.c).mono ?_; rintro e w9 ⟨rfl, rfl⟩)
                      | (go_at_call 14; have q0 := mk4; clear q0; refine (RB.out _ G TR.out.b).mono ?_; rintro e w9 ⟨rfl, rfl⟩; have mk5 := True.intro)
                      | (go_at_call 14; have q0 := mk3; clear q0; refine (RA.out _ F TR.out.a).mono ?_; rintro e w9 ⟨rfl, rfl⟩; have mk4 := True.intro)
                      | (go_at_call 14; have q0 := mk2; clear q0; refine (RC.out _ H TR.out.c).mono ?_; rintro e w9 ⟨rfl, rfl⟩; have mk3 := True.intro)
                      | (go_at_call 14; have q0 := mk1; clear q0; refine (RB.out _ G TR.out.b).mono ?_; rintro e w9 ⟨rfl, rfl⟩; have mk2 := True.intro)
                      | (go_at_call 14; refine (RA.out _ F TR.out.a).mono ?_; rintro e w9 ⟨rfl, rfl⟩; have mk1 := True.intro))
                    go_ret
                    exact ⟨rfl, keep_below BW2 b9⟩
            · have h11 : lE (two A B) = 11 := by
                unfold lE at hlO ⊢
                rw [if_pos HWO.out] at hlO ⊢
                by_cases hb : bds (two A B) (two A B).length = true
                · rw [if_pos hb]
                · rw [if_neg hb] at hlO; exact absurd rfl hlO
              go_wp2_with (first
                | (go_at_call 9; refine (KN.out _ (keep_below G5 d6)).mono ?_; rintro e w9 ⟨rfl, b9⟩)
                | (go_at_call 10; refine NO.out.mono ?_; rintro e w6 hG3; obtain ⟨rfl, d6⟩ := hG3.bad h11 (by decide)))
              go_ret
              exact ⟨rfl, keep_below (keep_below G5 d6) b9⟩
          · obtain ⟨e5, e6⟩ := str_ne he
            clear he
            go_wp2_with (go_at_call 9; refine (KN.out _ G3).mono ?_; rintro e w9 ⟨rfl, b9⟩)
            go_ret
            exact ⟨rfl, keep_below G3 b9⟩
        · have HTA := Lib.hid TA
          clear HcB
          go_wp2_with (first
            | (go_at_call 9; refine (KN.out _ (keep_below (keep_below (keep_below BW d1) d2) d3)).mono ?_; rintro e w9 ⟨rfl, b9⟩)
            | (go_at_call 11; refine (SA.out _ (keep_below (keep_below BW d1) d2)).mono ?_; rintro e w3 ⟨a3, n3, c3, rfl, r3, d3⟩)
            | (go_at_call 10; have q0 := d1; clear q0; refine (NB.out _ (keep_below BW d1)).mono ?_; rintro e w2 hG2; obtain ⟨x, hx, rfl, d2⟩ := hG2.err TB; have q1 : (x != 0) = true := (by simpa using hx))
            | (go_at_call 10; refine (NA.out _ BW).mono ?_; rintro e w1 hG; obtain ⟨bm, F, rfl, hM, hlo, d1⟩ := hG.ok HTA.out))
          go_ret
          exact ⟨rfl, keep_below (keep_below (keep_below (keep_below BW d1) d2) d3) b9⟩
      · clear HcB
        go_wp2_with (first
          | (go_at_call 9; refine (KN.out _ (keep_below (keep_below (keep_below BW d1) d2) d3)).mono ?_; rintro e w9 ⟨rfl, b9⟩)
          | (go_at_call 11; refine (SA.out _ (keep_below (keep_below BW d1) d2)).mono ?_; rintro e w3 ⟨a3, n3, c3, rfl, r3, d3⟩)
          | (go_at_call 10; have q0 := d1; clear q0; refine (NB.out _ (keep_below BW d1)).mono ?_; rintro e w2 hG2; obtain ⟨p2, x2, rfl, d2⟩ := hG2.any)
          | (go_at_call 10; refine (NA.out _ BW).mono ?_; rintro e w1 hG; obtain ⟨x, hx, rfl, d1⟩ := hG.err TA; have q1 : (x != 0) = true := (by simpa using hx)))
        go_ret
        exact ⟨rfl, keep_below (keep_below (keep_below (keep_below BW d1) d2) d3) b9⟩
set_option maxHeartbeats 2000000 in
set_option maxRecDepth 100000 in
/-- Rows that are too great for any machine: the sum wraps. -/
theorem parts_wrap (a b : Option Addr) (n m c d : Nat) (A B : List (Int × Int × Int)) (l : List Int) (h1 : 1 ≤ n) (hn : n ≤ maxLen) (hm : m ≤ maxLen) (hbig : 9223372036854775808 ≤ n + m) (w : World) (hA : RowI w a n A) (hB : RowI w b m B) (hN : Nms w) :
    Calls Tryz.prog 8 #[.slice a n c, .slice b m d, .agg (l.map (Value.int .i64)).toArray] w fun e w' => e = .returned (.bool true) ∧ Below w.heap.size w w' := by
  have hn' : n ≤ 9223372036854775807 := hn
  have hm' : m ≤ 9223372036854775807 := hm
  have KN := Lib.hid (fun W (h : Below w.heap.size w W) => known8_any W (hN.below h))
  obtain ⟨LA, hLA⟩ : ∃ LA, LA = l.map (Value.int .i64) := ⟨_, rfl⟩
  rw [← hLA]
  clear hLA
  have B1 := below_alloc w (.cells LA.toArray 23)
  have NA := Lib.hid (fun W (h : Below w.heap.size w W) => new_any a n c A W (hA.below h) (hN.below h))
  have NB := Lib.hid (fun W (h : Below w.heap.size w W) => new_any b m d B W (hB.below h) (hN.below h))
  have SA := Lib.hid (fun W (h : Below w.heap.size w W) => stacks_any a n c A W (hA.below h) (hN.below h))
  have hbad : ¬ Takes A ∨ ¬ Takes B := by
    by_cases TA : Takes A
    · right
      intro TB
      have x1 := can_len TA.can
      have x2 := can_len TB.can
      rw [← hA.1] at x1
      rw [← hB.1] at x2
      omega
    · exact Or.inl TA
  obtain ⟨sm, hsm⟩ : ∃ sm, IntKind.i64.wrap ((n : Int) + (m : Int)) = sm := ⟨_, rfl⟩
  have hneg : sm < 0 := by rw [← hsm, IntKind.wrap_i64]; omega
  have h200 : decide (200 < sm) = false := by rw [decide_eq_false_iff_not]; omega
  have d0 : decide ((n : Int) < 1) = false := by rw [decide_eq_false_iff_not]; omega
  have i1 : ¬ (0 : Int) < sm := by omega
  clear hA hB hN hneg hbig hn hm
  go_enter Tryz.func8, Tryz.ntmps8
  go_wp2
  go_loopw [7] (fun i wr => i = .int .i64 0 ∧ Hid (Below w.heap.size w wr)) (fun i _ => 0)
  case atStart => exact ⟨rfl, B1⟩
  case round =>
    obtain ⟨rfl, HBw⟩ := hrel
    have BW := HBw.out
    by_cases TA : Takes A
    · have TB := hbad.resolve_left (fun h => h TA)
      have HTA := Lib.hid TA
      go_wp2_with (first
        | (go_at_call 9; refine (KN.out _ (keep_below (keep_below (keep_below BW d1) d2) d3)).mono ?_; rintro e w9 ⟨rfl, b9⟩)
        | (go_at_call 11; refine (SA.out _ (keep_below (keep_below BW d1) d2)).mono ?_; rintro e w3 ⟨a3, n3, c3, rfl, r3, d3⟩)
        | (go_at_call 10; have q0 := d1; clear q0; refine (NB.out _ (keep_below BW d1)).mono ?_; rintro e w2 hG2; obtain ⟨x, hx, rfl, d2⟩ := hG2.err TB; have q1 : (x != 0) = true := (by simpa using hx))
        | (go_at_call 10; refine (NA.out _ BW).mono ?_; rintro e w1 hG; obtain ⟨bm, F, rfl, hM, hlo, d1⟩ := hG.ok HTA.out))
      go_ret
      exact ⟨rfl, keep_below (keep_below (keep_below (keep_below BW d1) d2) d3) b9⟩
    · go_wp2_with (first
        | (go_at_call 9; refine (KN.out _ (keep_below (keep_below (keep_below BW d1) d2) d3)).mono ?_; rintro e w9 ⟨rfl, b9⟩)
        | (go_at_call 11; refine (SA.out _ (keep_below (keep_below BW d1) d2)).mono ?_; rintro e w3 ⟨a3, n3, c3, rfl, r3, d3⟩)
        | (go_at_call 10; have q0 := d1; clear q0; refine (NB.out _ (keep_below BW d1)).mono ?_; rintro e w2 hG2; obtain ⟨p2, x2, rfl, d2⟩ := hG2.any)
        | (go_at_call 10; refine (NA.out _ BW).mono ?_; rintro e w1 hG; obtain ⟨x, hx, rfl, d1⟩ := hG.err TA; have q1 : (x != 0) = true := (by simpa using hx)))
      go_ret
      exact ⟨rfl, keep_below (keep_below (keep_below (keep_below BW d1) d2) d3) b9⟩
set_option maxHeartbeats 2000000 in
set_option maxRecDepth 100000 in
theorem parts_walk (a b : Option Addr) (n m c d : Nat) (A B : List (Int × Int × Int)) (l : List Int) (hn : n ≤ maxLen) (hm : m ≤ maxLen) (hnc : n ≤ c) (w : World) (hA : RowI w a n A) (hB : RowI w b m B) (hl : l.length = 16) (hN : Nms w) :
    Calls Tryz.prog 8 #[.slice a n c, .slice b m d, .agg (l.map (Value.int .i64)).toArray] w fun e w' => e = .returned (.bool true) ∧ Below w.heap.size w w' := by
  have hn' : n ≤ 9223372036854775807 := hn
  have hm' : m ≤ 9223372036854775807 := hm
  by_cases h1 : 1 ≤ n
  · by_cases hbig : 9223372036854775808 ≤ n + m
    · exact parts_wrap a b n m c d A B l h1 hn hm hbig w hA hB hN
    · by_cases h200 : n + m ≤ 200
      · exact parts_in a b n (n - 1) m c d A B l (by omega) h200 hnc w hA hB hl hN
      · have KN := Lib.hid (fun W (h : Below w.heap.size w W) => known8_any W (hN.below h))
        obtain ⟨LA, hLA⟩ : ∃ LA, LA = l.map (Value.int .i64) := ⟨_, rfl⟩
        rw [← hLA]
        have B1 := below_alloc w (.cells LA.toArray 23)
        obtain ⟨sm, hsm⟩ : ∃ sm, IntKind.i64.wrap ((n : Int) + (m : Int)) = sm := ⟨_, rfl⟩
        have e1 : decide (200 < sm) = true := by rw [decide_eq_true_iff, ← hsm, IntKind.wrap_i64]; omega
        have d0 : decide ((n : Int) < 1) = false := by rw [decide_eq_false_iff_not]; omega
        clear hA hB hN hLA hbig h200 h1
        go_enter Tryz.func8, Tryz.ntmps8
        go_wp2_with (go_at_call 9; refine (KN.out _ B1).mono ?_; rintro e w1 ⟨rfl, hb1⟩)
        go_ret
        exact ⟨rfl, keep_below B1 hb1⟩
  · obtain rfl : n = 0 := by omega
    have KN := Lib.hid (fun W (h : Below w.heap.size w W) => known8_any W (hN.below h))
    obtain ⟨LA, hLA⟩ : ∃ LA, LA = l.map (Value.int .i64) := ⟨_, rfl⟩
    rw [← hLA]
    have B1 := below_alloc w (.cells LA.toArray 23)
    have d0 : decide (((0 : Nat) : Int) < 1) = true := by decide
    clear hA hB hN hLA
    go_enter Tryz.func8, Tryz.ntmps8
    go_wp2_with (go_at_call 9; refine (KN.out _ B1).mono ?_; rintro e w1 ⟨rfl, hb1⟩)
    go_ret
    exact ⟨rfl, keep_below B1 hb1⟩
end Go.Proofs.YthhcabddcgckcaaGreatDoor
