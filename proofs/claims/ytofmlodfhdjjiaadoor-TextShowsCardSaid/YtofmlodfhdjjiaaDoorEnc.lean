/- What is proved here: the contract of op.Encode. Condition: the tables of names hold what their initialisers lay ('Nms'); the numbers fit 64 bits. -/
import Derived.Test.YtofmlodfhdjjiaaDoorRight
import Derived.Test.YtofmlodfhdjjiaaDoorRefPut
namespace Go.Proofs.YtofmlodfhdjjiaaDoor
open Go.ChangeShapes Go.WideShapes Go.RowKit

/-- The bytes of an instruction's first k numbers behind its first byte. -/
def encN (i : Int × Int × Int) (k : Nat) : List UInt8 := opB i.1 :: (if k = 0 then [] else if k = 1 then enc (turn i.2.1) else enc (turn i.2.1) ++ enc (turn i.2.2))
theorem encN_all {i : Int × Int × Int} (h : right i = true) : encN i (nargs i.1) = encI i := by
  rw [encI_right h]; rfl
theorem encN_len {i : Int × Int × Int} (hf : FitsI i) (k : Nat) : (encN i k).length ≤ 21 := by
  have h1 := enc_ten (turn_fits hf.2.1)
  have h2 := enc_ten (turn_fits hf.2.2)
  unfold encN
  rw [List.length_cons]
  split
  · simp
  · split
    · omega
    · rw [List.length_append]; omega

theorem build_pair (a b : Int) (w : World) : (Instr.build 41 #[(0, .int .i64 a), (1, .int .i64 b)]).run Tryd.prog w = .ok (.agg #[.int .i64 a, .int .i64 b]) w := run_build w 41 _ _ (by kernel_rfl)

theorem encode_wrong (o a b : Int) (w : World) (hn : Nms w) (h : right (o, a, b) = false) :
    Calls Tryd.prog 36 #[.agg #[.int .i64 o, .int .i64 a, .int .i64 b]] w fun e w' => e = .returned (.string (bs (encI (o, a, b)))) ∧ Below w.heap.size w w' := by
  have HN : Hid (∀ x, Nms (w.alloc x)) := fun x => hn.below ((Below.refl _ _).alloc (Nat.le_refl _) _)
  have c := fun W h => right_any o a b W h
  rw [h] at c
  have C := Lib.hid c
  rw [encI_wrong h]
  clear c h hn
  go_enter Tryd.func36, Tryd.ntmps36
  go_wp2_with (go_at_call 21; refine (C.out _ (HN.out _)).mono ?_; rintro e w' ⟨rfl, hb⟩)
  go_ret
  exact ⟨rfl, ((Below.refl _ _).alloc (Nat.le_refl _) _).trans (hb.mono (by simp))⟩

set_option maxHeartbeats 2000000 in
set_option maxRecDepth 100000 in
theorem encode_right (o a b : Int) (w : World) (hn : Nms w) (h : right (o, a, b) = true) (hf : FitsI (o, a, b)) :
    Calls Tryd.prog 36 #[.agg #[.int .i64 o, .int .i64 a, .int .i64 b]] w fun e w' => e = .returned (.string (bs (encI (o, a, b)))) ∧ Below w.heap.size w w' := by
  have HN : Hid (∀ x, Nms (w.alloc x)) := fun x => hn.below ((Below.refl _ _).alloc (Nat.le_refl _) _)
  have c := fun W h => right_any o a b W h
  have hko := right_kn h
  simp only at hko
  have ho1 := hko.1
  have ho2 := hko.2
  have ca := fun W => args_any o W
  have hna : argsOf o = (nargs o : Int) := by unfold argsOf; rw [if_pos (kn_iff.2 hko)]
  have hnl := nargs_le o
  have HE := Lib.hid (encN_all h)
  rw [h] at c
  have C := Lib.hid c
  obtain ⟨n, hnn⟩ : ∃ n, n = nargs o := ⟨_, rfl⟩
  rw [hna, ← hnn] at ca
  rw [← hnn] at hnl
  simp only [← hnn] at HE
  have CA := Lib.hid ca
  obtain ⟨B0, hB0, hB1, hcv0⟩ := conv_one o (opB o) (opB_val hko).symm
  have hu : o % 256 = o := by omega
  have hbp := build_pair a b
  clear c ca h hna hnn hko
  go_enter Tryd.func36, Tryd.ntmps36
  go_wp2_with (first
    | (go_at_call 21; refine (C.out _ (HN.out _)).mono ?_; rintro e w2 ⟨rfl, hb⟩; have hcv := hcv0 w2; have hz := hb.size; have hc0 := hb.cell (p := ⟨w.heap.size, 0, none⟩) (by simp); have hc1 := hb.cell (p := ⟨w.heap.size, 1, none⟩) (by simp); have hc2 := hb.cell (p := ⟨w.heap.size, 2, none⟩) (by simp); simp at hz hc0 hc1 hc2; have hlt : w.heap.size < w2.heap.size := by omega)
    | (go_at_call 23; refine (CA.out _).mono ?_; rintro e w' ⟨rfl, rfl⟩))
  have G0 : Below w.heap.size w ((w2.alloc (.cells #[.int .u8 o] 5)).alloc (.cells #[.int .i64 a, .int .i64 b] 41)) :=
    ((((Below.refl _ _).alloc (Nat.le_refl _) _).trans (hb.mono (by simp))).alloc (by omega) _).alloc (by simp; omega) _
  have HF := Lib.hid hf
  clear hcv hcv0 hb hc0 hc1 hc2 hbp hu hf HN C CA
  go_loopw [3, 22] (fun s i wr => ∃ (k : Nat) (D : ByteArray), k ≤ n ∧ i = .int .i64 k ∧ s = .string D ∧ D.size ≤ 21 ∧ Hid (D.data.toList = encN (o, a, b) k) ∧
      wr.cell? ⟨w2.heap.size + 1, 0, none⟩ = some (.int .i64 a) ∧ wr.cell? ⟨w2.heap.size + 1, 1, none⟩ = some (.int .i64 b) ∧ Below w.heap.size w wr)
    (fun _ i _ => n - (intOf i).toNat)
  case atStart => exact ⟨0, B0, by omega, rfl, rfl, by omega, hB0, by simp, by simp, G0⟩
  case round =>
    obtain ⟨k, D, hk, rfl, rfl, hD, HD, hca, hcb, G⟩ := hrel
    clear G0 hB0 hB1
    have hlt2 := cell_lt hca
    by_cases hkn : k < n
    · rcases (show k = 0 ∨ k = 1 by omega) with rfl | rfl
      · obtain ⟨P, hP⟩ : ∃ P, P = bs (enc (turn a)) := ⟨_, rfl⟩
        have hPs : P.size ≤ 10 := by rw [hP, bs_size]; exact enc_ten (turn_fits HF.out.2.1)
        have cP := fun W => put_any a HF.out.2.1 W
        rw [← hP] at cP
        have CP := Lib.hid cP
        have HD2 : Hid ((D ++ P).data.toList = encN (o, a, b) 1) := by
          show _ = _
          rw [app_list, HD.out, hP, bs_data]; rfl
        have hl2 : (D ++ P).size ≤ 21 := by rw [Lib.size_eq, HD2.out]; exact encN_len HF.out 1
        clear cP hP HD
        go_wp2_with (go_at_call 48; refine (CP.out _).mono ?_; rintro e w3 ⟨rfl, hb2⟩)
        have hca2 := (hb2.cell (p := ⟨w2.heap.size + 1, 0, none⟩) hlt2).trans hca
        have hcb2 := (hb2.cell (p := ⟨w2.heap.size + 1, 1, none⟩) hlt2).trans hcb
        go_roundw
        case rel => exact ⟨1, D ++ P, by omega, by go_num, rfl, hl2, HD2, hca2, hcb2, G.trans (hb2.mono G.size)⟩
        case measure => simp [intOf]; omega
      · obtain ⟨P, hP⟩ : ∃ P, P = bs (enc (turn b)) := ⟨_, rfl⟩
        have hPs : P.size ≤ 10 := by rw [hP, bs_size]; exact enc_ten (turn_fits HF.out.2.2)
        have cP := fun W => put_any b HF.out.2.2 W
        rw [← hP] at cP
        have CP := Lib.hid cP
        have HD2 : Hid ((D ++ P).data.toList = encN (o, a, b) 2) := by
          show _ = _
          rw [app_list, HD.out, hP, bs_data]; rfl
        have hl2 : (D ++ P).size ≤ 21 := by rw [Lib.size_eq, HD2.out]; exact encN_len HF.out 2
        clear cP hP HD
        go_wp2_with (go_at_call 48; refine (CP.out _).mono ?_; rintro e w3 ⟨rfl, hb2⟩)
        have hca2 := (hb2.cell (p := ⟨w2.heap.size + 1, 0, none⟩) hlt2).trans hca
        have hcb2 := (hb2.cell (p := ⟨w2.heap.size + 1, 1, none⟩) hlt2).trans hcb
        go_roundw
        case rel => exact ⟨2, D ++ P, by omega, by go_num, rfl, hl2, HD2, hca2, hcb2, G.trans (hb2.mono G.size)⟩
        case measure => simp [intOf]; omega
    · have hk2 : k = n := by omega
      have HR : Hid (D = bs (encI (o, a, b))) := by
        show _ = _
        rw [← bs_of D, HD.out, hk2, HE.out]
      go_wp2
      go_ret
      exact ⟨by rw [← HR.out]; rfl, G⟩

theorem encode_any (o a b : Int) (w : World) (hn : Nms w) (hf : FitsI (o, a, b)) :
    Calls Tryd.prog 36 #[.agg #[.int .i64 o, .int .i64 a, .int .i64 b]] w fun e w' => e = .returned (.string (bs (encI (o, a, b)))) ∧ Below w.heap.size w w' := by
  cases h : right (o, a, b)
  · exact encode_wrong o a b w hn h
  · exact encode_right o a b w hn h hf
end Go.Proofs.YtofmlodfhdjjiaaDoor
