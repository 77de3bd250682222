/- What is proved here: the contract of the document's Encode for layer 4. Conditions: the numbers fit 64 bits. -/
import Derived.Test.YtmahpmoaicjcjaaDoorR6
namespace Go.Proofs.YtmahpmoaicjcjaaDoor
open Go.ChangeShapes Go.WideShapes Go.RowKit

theorem encodeR_wrong (o a b : Int) (w : World) (h : right (o, a, b) = false) :
    Calls Tryd.prog 13 #[.agg #[.int .i64 o, .int .i64 a, .int .i64 b]] w fun e w' => e = .returned (.string (bs (encI (o, a, b)))) ∧ Below w.heap.size w w' := by
  have c := fun W => rightR_any o a b W
  rw [h] at c
  have C := Lib.hid c
  rw [encI_wrong h]
  clear c h
  go_enter Tryd.func13, Tryd.ntmps13
  go_wp2_with (go_at_call 11; refine (C.out _).mono ?_; rintro e w' ⟨rfl, hb⟩)
  go_ret
  exact ⟨rfl, ((Below.refl _ _).alloc (Nat.le_refl _) _).trans (hb.mono (by simp))⟩

set_option maxHeartbeats 4000000 in
set_option maxRecDepth 100000 in
theorem encodeR_right (o a b : Int) (w : World) (h : right (o, a, b) = true) (hf : FitsI (o, a, b)) :
    Calls Tryd.prog 13 #[.agg #[.int .i64 o, .int .i64 a, .int .i64 b]] w fun e w' => e = .returned (.string (bs (encI (o, a, b)))) ∧ Below w.heap.size w w' := by
  have c := fun W => rightR_any o a b W
  have hko := right_kn h
  simp only at hko
  have ho1 := hko.1
  have ho2 := hko.2
  have ca := fun W => argsR_any o W
  have hna : argsOf o = (nargs o : Int) := by unfold argsOf; rw [if_pos (kn_iff.2 hko)]
  rw [hna] at ca
  have HE := Lib.hid (encN_all h)
  simp only at HE
  rw [h] at c
  have C := Lib.hid c
  obtain ⟨B0, hB0, hB1, hcv0⟩ := conv_one o (opB o) (opB_val hko).symm
  have hu : o % 256 = o := by omega
  obtain ⟨P, hP⟩ : ∃ P, P = bs (enc (turn a)) := ⟨_, rfl⟩
  obtain ⟨Q, hQ⟩ : ∃ Q, Q = bs (enc (turn b)) := ⟨_, rfl⟩
  have hPs : P.size ≤ 10 := by rw [hP, bs_size]; exact enc_ten (turn_fits hf.2.1)
  have hQs : Q.size ≤ 10 := by rw [hQ, bs_size]; exact enc_ten (turn_fits hf.2.2)
  have cP := fun W => putR_any a hf.2.1 W
  have cQ := fun W => putR_any b hf.2.2 W
  rw [← hP] at cP
  rw [← hQ] at cQ
  have CP := Lib.hid cP
  have CQ := Lib.hid cQ
  have hBs : B0.size ≤ 1 := by omega
  have HP := Lib.hid hP
  have HQ := Lib.hid hQ
  have HB := Lib.hid hB0
  clear c h hna hko cP cQ hP hQ hB0 hB1 hf
  rcases nargs_012 o with hn | hn | hn
  · rw [hn] at ca HE
    have CA : Hid (∀ W, Calls Tryd.prog 17 #[.int .i64 o] W fun e w' => e = .returned (.int .i64 0) ∧ Below W.heap.size W w') := ca
    have HR : Hid (B0 = bs (encI (o, a, b))) := by
      show _ = _
      rw [← bs_of B0, HB.out, ← HE.out]; rfl
    clear ca hn HE HP HQ HB
    go_enter Tryd.func13, Tryd.ntmps13
    go_wp2_with fail
    refine (C.out _).mono ?_; rintro e w2 ⟨rfl, hb⟩
    have hcv := hcv0 w2
    have G : Below w.heap.size w w2 := ((Below.refl _ _).alloc (Nat.le_refl _) _).trans (hb.mono (by simp))
    have k0 := hb.cell (p := ⟨w.heap.size, 0, none⟩) (by simp)
    have k1 := hb.cell (p := ⟨w.heap.size, 1, none⟩) (by simp)
    have k2 := hb.cell (p := ⟨w.heap.size, 2, none⟩) (by simp)
    have hz := hb.size
    simp at k0 k1 k2 hz
    have hl : w.heap.size < w2.heap.size := by omega
    clear hz hb
    go_wp2_with fail
    have hl3 : w.heap.size < (w2.alloc (.cells #[.int .u8 o] 5)).heap.size := by simp; omega
    have A0 := World.cell?_alloc_lt w2 (.cells #[.int .u8 o] 5) ⟨w.heap.size, 0, none⟩ hl
    have A1 := World.cell?_alloc_lt w2 (.cells #[.int .u8 o] 5) ⟨w.heap.size, 1, none⟩ hl
    have A2 := World.cell?_alloc_lt w2 (.cells #[.int .u8 o] 5) ⟨w.heap.size, 2, none⟩ hl
    rw [k0] at A0; rw [k1] at A1; rw [k2] at A2
    replace G := G.alloc (by omega) (.cells #[.int .u8 o] 5)
    generalize w2.alloc (.cells #[.int .u8 o] 5) = w3 at A0 A1 A2 G hl3 ⊢
    clear hcv hcv0 k0 k1 k2 hl
    refine (CA.out _).mono ?_; rintro e w4 ⟨rfl, hb⟩
    replace A0 := (hb.cell (p := ⟨w.heap.size, 0, none⟩) hl3).trans A0
    replace A1 := (hb.cell (p := ⟨w.heap.size, 1, none⟩) hl3).trans A1
    replace A2 := (hb.cell (p := ⟨w.heap.size, 2, none⟩) hl3).trans A2
    replace hl3 := Nat.lt_of_lt_of_le hl3 hb.size
    replace G := G.trans (hb.mono G.size); clear hb
    go_wp2_with fail
    refine (CA.out _).mono ?_; rintro e w5 ⟨rfl, hb⟩
    replace A0 := (hb.cell (p := ⟨w.heap.size, 0, none⟩) hl3).trans A0
    replace A1 := (hb.cell (p := ⟨w.heap.size, 1, none⟩) hl3).trans A1
    replace A2 := (hb.cell (p := ⟨w.heap.size, 2, none⟩) hl3).trans A2
    replace hl3 := Nat.lt_of_lt_of_le hl3 hb.size
    replace G := G.trans (hb.mono G.size); clear hb
    go_wp2
    go_ret
    exact ⟨by rw [← HR.out]; rfl, G⟩
  · rw [hn] at ca HE
    have CA : Hid (∀ W, Calls Tryd.prog 17 #[.int .i64 o] W fun e w' => e = .returned (.int .i64 1) ∧ Below W.heap.size W w') := ca
    have HR : Hid (B0 ++ P = bs (encI (o, a, b))) := by
      show _ = _
      rw [← bs_of (B0 ++ P), ← HE.out]; congr 1; rw [app_list, HB.out, HP.out, bs_data]; rfl
    clear ca hn HE HP HQ HB
    go_enter Tryd.func13, Tryd.ntmps13
    go_wp2_with fail
    refine (C.out _).mono ?_; rintro e w2 ⟨rfl, hb⟩
    have hcv := hcv0 w2
    have G : Below w.heap.size w w2 := ((Below.refl _ _).alloc (Nat.le_refl _) _).trans (hb.mono (by simp))
    have k0 := hb.cell (p := ⟨w.heap.size, 0, none⟩) (by simp)
    have k1 := hb.cell (p := ⟨w.heap.size, 1, none⟩) (by simp)
    have k2 := hb.cell (p := ⟨w.heap.size, 2, none⟩) (by simp)
    have hz := hb.size
    simp at k0 k1 k2 hz
    have hl : w.heap.size < w2.heap.size := by omega
    clear hz hb
    go_wp2_with fail
    have hl3 : w.heap.size < (w2.alloc (.cells #[.int .u8 o] 5)).heap.size := by simp; omega
    have A0 := World.cell?_alloc_lt w2 (.cells #[.int .u8 o] 5) ⟨w.heap.size, 0, none⟩ hl
    have A1 := World.cell?_alloc_lt w2 (.cells #[.int .u8 o] 5) ⟨w.heap.size, 1, none⟩ hl
    have A2 := World.cell?_alloc_lt w2 (.cells #[.int .u8 o] 5) ⟨w.heap.size, 2, none⟩ hl
    rw [k0] at A0; rw [k1] at A1; rw [k2] at A2
    replace G := G.alloc (by omega) (.cells #[.int .u8 o] 5)
    generalize w2.alloc (.cells #[.int .u8 o] 5) = w3 at A0 A1 A2 G hl3 ⊢
    clear hcv hcv0 k0 k1 k2 hl
    refine (CA.out _).mono ?_; rintro e w4 ⟨rfl, hb⟩
    replace A0 := (hb.cell (p := ⟨w.heap.size, 0, none⟩) hl3).trans A0
    replace A1 := (hb.cell (p := ⟨w.heap.size, 1, none⟩) hl3).trans A1
    replace A2 := (hb.cell (p := ⟨w.heap.size, 2, none⟩) hl3).trans A2
    replace hl3 := Nat.lt_of_lt_of_le hl3 hb.size
    replace G := G.trans (hb.mono G.size); clear hb
    go_wp2_with fail
    refine (CP.out _).mono ?_; rintro e w5 ⟨rfl, hb⟩
    replace A0 := (hb.cell (p := ⟨w.heap.size, 0, none⟩) hl3).trans A0
    replace A1 := (hb.cell (p := ⟨w.heap.size, 1, none⟩) hl3).trans A1
    replace A2 := (hb.cell (p := ⟨w.heap.size, 2, none⟩) hl3).trans A2
    replace hl3 := Nat.lt_of_lt_of_le hl3 hb.size
    replace G := G.trans (hb.mono G.size); clear hb
    go_wp2_with fail
    refine (CA.out _).mono ?_; rintro e w6 ⟨rfl, hb⟩
    replace A0 := (hb.cell (p := ⟨w.heap.size, 0, none⟩) hl3).trans A0
    replace A1 := (hb.cell (p := ⟨w.heap.size, 1, none⟩) hl3).trans A1
    replace A2 := (hb.cell (p := ⟨w.heap.size, 2, none⟩) hl3).trans A2
    replace hl3 := Nat.lt_of_lt_of_le hl3 hb.size
    replace G := G.trans (hb.mono G.size); clear hb
    go_wp2
    go_ret
    exact ⟨by rw [← HR.out]; rfl, G⟩
  · rw [hn] at ca HE
    have CA : Hid (∀ W, Calls Tryd.prog 17 #[.int .i64 o] W fun e w' => e = .returned (.int .i64 2) ∧ Below W.heap.size W w') := ca
    have HR : Hid (B0 ++ P ++ Q = bs (encI (o, a, b))) := by
      show _ = _
      rw [← bs_of (B0 ++ P ++ Q), ← HE.out]; congr 1; rw [app_list, app_list, HB.out, HP.out, HQ.out, bs_data, bs_data]; rfl
    have hsz : (B0 ++ P).size ≤ 11 := by simp; omega
    clear ca hn HE HP HQ HB
    go_enter Tryd.func13, Tryd.ntmps13
    go_wp2_with fail
    refine (C.out _).mono ?_; rintro e w2 ⟨rfl, hb⟩
    have hcv := hcv0 w2
    have G : Below w.heap.size w w2 := ((Below.refl _ _).alloc (Nat.le_refl _) _).trans (hb.mono (by simp))
    have k0 := hb.cell (p := ⟨w.heap.size, 0, none⟩) (by simp)
    have k1 := hb.cell (p := ⟨w.heap.size, 1, none⟩) (by simp)
    have k2 := hb.cell (p := ⟨w.heap.size, 2, none⟩) (by simp)
    have hz := hb.size
    simp at k0 k1 k2 hz
    have hl : w.heap.size < w2.heap.size := by omega
    clear hz hb
    go_wp2_with fail
    have hl3 : w.heap.size < (w2.alloc (.cells #[.int .u8 o] 5)).heap.size := by simp; omega
    have A0 := World.cell?_alloc_lt w2 (.cells #[.int .u8 o] 5) ⟨w.heap.size, 0, none⟩ hl
    have A1 := World.cell?_alloc_lt w2 (.cells #[.int .u8 o] 5) ⟨w.heap.size, 1, none⟩ hl
    have A2 := World.cell?_alloc_lt w2 (.cells #[.int .u8 o] 5) ⟨w.heap.size, 2, none⟩ hl
    rw [k0] at A0; rw [k1] at A1; rw [k2] at A2
    replace G := G.alloc (by omega) (.cells #[.int .u8 o] 5)
    generalize w2.alloc (.cells #[.int .u8 o] 5) = w3 at A0 A1 A2 G hl3 ⊢
    clear hcv hcv0 k0 k1 k2 hl
    refine (CA.out _).mono ?_; rintro e w4 ⟨rfl, hb⟩
    replace A0 := (hb.cell (p := ⟨w.heap.size, 0, none⟩) hl3).trans A0
    replace A1 := (hb.cell (p := ⟨w.heap.size, 1, none⟩) hl3).trans A1
    replace A2 := (hb.cell (p := ⟨w.heap.size, 2, none⟩) hl3).trans A2
    replace hl3 := Nat.lt_of_lt_of_le hl3 hb.size
    replace G := G.trans (hb.mono G.size); clear hb
    go_wp2_with fail
    refine (CP.out _).mono ?_; rintro e w5 ⟨rfl, hb⟩
    replace A0 := (hb.cell (p := ⟨w.heap.size, 0, none⟩) hl3).trans A0
    replace A1 := (hb.cell (p := ⟨w.heap.size, 1, none⟩) hl3).trans A1
    replace A2 := (hb.cell (p := ⟨w.heap.size, 2, none⟩) hl3).trans A2
    replace hl3 := Nat.lt_of_lt_of_le hl3 hb.size
    replace G := G.trans (hb.mono G.size); clear hb
    go_wp2_with fail
    refine (CA.out _).mono ?_; rintro e w6 ⟨rfl, hb⟩
    replace A0 := (hb.cell (p := ⟨w.heap.size, 0, none⟩) hl3).trans A0
    replace A1 := (hb.cell (p := ⟨w.heap.size, 1, none⟩) hl3).trans A1
    replace A2 := (hb.cell (p := ⟨w.heap.size, 2, none⟩) hl3).trans A2
    replace hl3 := Nat.lt_of_lt_of_le hl3 hb.size
    replace G := G.trans (hb.mono G.size); clear hb
    go_wp2_with fail
    refine (CQ.out _).mono ?_; rintro e w7 ⟨rfl, hb⟩
    replace A0 := (hb.cell (p := ⟨w.heap.size, 0, none⟩) hl3).trans A0
    replace A1 := (hb.cell (p := ⟨w.heap.size, 1, none⟩) hl3).trans A1
    replace A2 := (hb.cell (p := ⟨w.heap.size, 2, none⟩) hl3).trans A2
    replace hl3 := Nat.lt_of_lt_of_le hl3 hb.size
    replace G := G.trans (hb.mono G.size); clear hb
    go_wp2
    go_ret
    exact ⟨by rw [← HR.out]; rfl, G⟩
theorem encodeR_any (o a b : Int) (w : World) (hf : FitsI (o, a, b)) :
    Calls Tryd.prog 13 #[.agg #[.int .i64 o, .int .i64 a, .int .i64 b]] w fun e w' => e = .returned (.string (bs (encI (o, a, b)))) ∧ Below w.heap.size w w' := by
  cases h : right (o, a, b)
  · exact encodeR_wrong o a b w h
  · exact encodeR_right o a b w h hf
end Go.Proofs.YtmahpmoaicjcjaaDoor
