/- What is proved here: the contracts of text.Line and text.Show. Conditions: the listed variables hold what their initialisers lay ('Env'); the numbers fit 64 bits. -/
import Derived.Test.YtofmlodfhdjjiaaDoorIns
namespace Go.Proofs.YtofmlodfhdjjiaaDoor
open Go.ChangeShapes Go.WideShapes Go.RowKit

/-- A line's name and its first k numbers. -/
def lineN (i : Int × Int × Int) (k : Nat) : List UInt8 := (onm i.1).data.toList ++ (if k = 0 then [] else if k = 1 then 32 :: Lib.itoa i.2.1 else 32 :: (Lib.itoa i.2.1 ++ 32 :: Lib.itoa i.2.2))
theorem lineN_all (i : Int × Int × Int) : lineN i (nargs i.1) = lineW i := rfl
theorem lineN_len {i : Int × Int × Int} (hf : FitsI i) (k : Nat) : (lineN i k).length ≤ 50 := by
  have h0 := onm_size i.1
  have h1 := itoa_len hf.2.1
  have h2 := itoa_len hf.2.2
  unfold lineN
  rw [List.length_append]
  split
  · rw [List.length_nil]; omega
  · split
    · simp only [List.length_cons]; omega
    · simp only [List.length_cons, List.length_append]; omega
theorem line_wrongW (o a b : Int) (w : World) (hn : Nms w) (h : right (o, a, b) = false) :
    Calls Tryd.prog 11 #[.agg #[.int .i64 o, .int .i64 a, .int .i64 b]] w fun e w' => e = .returned (.string (bs (line (o, a, b)))) ∧ Below w.heap.size w w' := by
  have HN : Hid (∀ x, Nms (w.alloc x)) := fun x => hn.below (below_alloc _ _)
  have c := fun W h => right_any o a b W h
  rw [h] at c
  have C := Lib.hid c
  rw [line_wrong h]
  clear c h hn
  go_enter Tryd.func11, Tryd.ntmps11
  go_wp2_with (go_at_call 21; refine (C.out _ (HN.out _)).mono ?_; rintro e w' ⟨rfl, hb⟩)
  go_ret
  exact ⟨rfl, (below_alloc _ _).trans (hb.mono (by simp))⟩

set_option maxHeartbeats 2000000 in
set_option maxRecDepth 100000 in
theorem line_rightW (o a b : Int) (w : World) (hE : Env w) (h : right (o, a, b) = true) (hf : FitsI (o, a, b)) :
    Calls Tryd.prog 11 #[.agg #[.int .i64 o, .int .i64 a, .int .i64 b]] w fun e w' => e = .returned (.string (bs (line (o, a, b)))) ∧ Below w.heap.size w w' := by
  have HE := Lib.hid hE
  have c := fun W h => right_any o a b W h
  have hko := right_kn h
  simp only at hko
  have ca := fun W => args_any o W
  have hna : argsOf o = (nargs o : Int) := by unfold argsOf; rw [if_pos (kn_iff.2 hko)]
  have hnl := nargs_le o
  have HL := Lib.hid (line_right h)
  have HA := Lib.hid (lineN_all (o, a, b))
  rw [h] at c
  have C := Lib.hid c
  obtain ⟨n, hnn⟩ : ∃ n, n = nargs o := ⟨_, rfl⟩
  rw [hna, ← hnn] at ca
  rw [← hnn] at hnl
  simp only [← hnn] at HA
  have CA := Lib.hid ca
  obtain ⟨S, hS⟩ : ∃ S, S = onm o := ⟨_, rfl⟩
  have cn := fun W h => name_any o W h
  rw [← hS] at cn
  have CN := Lib.hid cn
  have HS0 : Hid (S.data.toList = lineN (o, a, b) 0) := by show _ = _; rw [hS]; simp [lineN]
  have hSl : S.size ≤ 50 := by rw [Lib.size_eq, HS0.out]; exact lineN_len hf 0
  have HF := Lib.hid hf
  have hbp := build_pair a b
  clear c ca h hna hnn hko cn hS hf hE
  go_enter Tryd.func11, Tryd.ntmps11
  go_wp2_with fail
  have G0 := below_alloc w (.cells #[.int .i64 o, .int .i64 a, .int .i64 b] 24)
  refine (C.out _ (HE.out.below G0).nms).mono ?_
  rintro e w2 ⟨rfl, hb⟩
  have G1 := keep_below G0 hb
  have j := (hb.block w.heap.size (by simp)).trans (new_block _ _)
  have r0 := Lib.cell_of_heap j 0
  have r1 := Lib.cell_of_heap j 1
  have r2 := Lib.cell_of_heap j 2
  simp at r0 r1 r2
  have hz := hb.size
  simp at hz
  have hlt : w.heap.size < w2.heap.size := by omega
  clear j hb G0 C
  go_wp2_with (first
    | (go_at_call 22; refine (CN.out _ (HE.out.below G1).nms).mono ?_; rintro e w' ⟨rfl, rfl⟩)
    | (go_at_call 23; refine (CA.out _).mono ?_; rintro e w' ⟨rfl, rfl⟩))
  have G2 : Below w.heap.size w (w2.alloc (.cells #[.int .i64 a, .int .i64 b] 41)) := G1.alloc (by omega) _
  clear r0 r1 r2 CN CA G1 hbp
  go_loopw [3, 20] (fun s i wr => ∃ (k : Nat) (D : ByteArray), k ≤ n ∧ i = .int .i64 k ∧ s = .string D ∧ D.size ≤ 50 ∧ Hid (D.data.toList = lineN (o, a, b) k) ∧
      wr.cell? ⟨w2.heap.size, 0, none⟩ = some (.int .i64 a) ∧ wr.cell? ⟨w2.heap.size, 1, none⟩ = some (.int .i64 b) ∧ Below w.heap.size w wr)
    (fun _ i _ => n - (intOf i).toNat)
  case atStart => exact ⟨0, S, by omega, rfl, rfl, hSl, HS0, by simp, by simp, G2⟩
  case round =>
    obtain ⟨k, D, hk, rfl, rfl, hD, HD, hca, hcb, G⟩ := hrel
    clear G2 HS0 hSl
    have hlt2 := cell_lt hca
    by_cases hkn : k < n
    · rcases (show k = 0 ∨ k = 1 by omega) with rfl | rfl
      · obtain ⟨P, hP⟩ : ∃ P, P = bs (Lib.itoa a) := ⟨_, rfl⟩
        have hPs : P.size ≤ 21 := by rw [hP, bs_size]; exact itoa_len HF.out.2.1
        have cP := fun W h => itoa_any a HF.out.2.1 W h
        rw [← hP] at cP
        have CP := Lib.hid cP
        have HD2 : Hid ((D ++ (⟨#[32]⟩ ++ P)).data.toList = lineN (o, a, b) 1) := by
          show _ = _
          rw [app_list, app_list, HD.out, hP, bs_data]; simp [lineN]
        have hl2 : (D ++ (⟨#[32]⟩ ++ P)).size ≤ 50 := by rw [Lib.size_eq, HD2.out]; exact lineN_len HF.out 1
        clear cP hP HD
        go_wp2_with (go_at_call 24; refine (CP.out _ (HE.out.below G)).mono ?_; rintro e w3 ⟨rfl, hb2⟩)
        have hca2 := (hb2.cell (p := ⟨w2.heap.size, 0, none⟩) hlt2).trans hca
        have hcb2 := (hb2.cell (p := ⟨w2.heap.size, 1, none⟩) hlt2).trans hcb
        go_roundw
        case rel => exact ⟨1, D ++ (⟨#[32]⟩ ++ P), by omega, by go_num, rfl, hl2, HD2, hca2, hcb2, G.trans (hb2.mono G.size)⟩
        case measure => simp [intOf]; omega
      · obtain ⟨P, hP⟩ : ∃ P, P = bs (Lib.itoa b) := ⟨_, rfl⟩
        have hPs : P.size ≤ 21 := by rw [hP, bs_size]; exact itoa_len HF.out.2.2
        have cP := fun W h => itoa_any b HF.out.2.2 W h
        rw [← hP] at cP
        have CP := Lib.hid cP
        have HD2 : Hid ((D ++ (⟨#[32]⟩ ++ P)).data.toList = lineN (o, a, b) 2) := by
          show _ = _
          rw [app_list, app_list, HD.out, hP, bs_data]; simp [lineN]
        have hl2 : (D ++ (⟨#[32]⟩ ++ P)).size ≤ 50 := by rw [Lib.size_eq, HD2.out]; exact lineN_len HF.out 2
        clear cP hP HD
        go_wp2_with (go_at_call 24; refine (CP.out _ (HE.out.below G)).mono ?_; rintro e w3 ⟨rfl, hb2⟩)
        have hca2 := (hb2.cell (p := ⟨w2.heap.size, 0, none⟩) hlt2).trans hca
        have hcb2 := (hb2.cell (p := ⟨w2.heap.size, 1, none⟩) hlt2).trans hcb
        go_roundw
        case rel => exact ⟨2, D ++ (⟨#[32]⟩ ++ P), by omega, by go_num, rfl, hl2, HD2, hca2, hcb2, G.trans (hb2.mono G.size)⟩
        case measure => simp [intOf]; omega
    · have hk2 : k = n := by omega
      have HR : Hid (bs (line (o, a, b)) = D ++ ⟨#[10]⟩) := by
        show _ = _
        rw [← bs_of (D ++ ⟨#[10]⟩), app_list, HD.out, hk2, HA.out, HL.out]
      go_wp2
      go_ret
      exact ⟨by rw [HR.out]; rfl, G⟩
theorem line_any (o a b : Int) (w : World) (hE : Env w) (hf : FitsI (o, a, b)) :
    Calls Tryd.prog 11 #[.agg #[.int .i64 o, .int .i64 a, .int .i64 b]] w fun e w' => e = .returned (.string (bs (line (o, a, b)))) ∧ Below w.heap.size w w' := by
  cases h : right (o, a, b)
  · exact line_wrongW o a b w hE.nms h
  · exact line_rightW o a b w hE h hf
theorem flat_succL {L : List (Int × Int × Int)} {k : Nat} {x : Int × Int × Int} (h : L[k]? = some x) : flatL (L.take (k + 1)) = flatL (L.take k) ++ line x := by
  rw [List.take_add_one, h, flatL_append]; simp [flatL]
theorem flat_lenL {L : List (Int × Int × Int)} (hf : AllFitI L) {k : Nat} (hk : k ≤ 200) : (flatL (L.take k)).length ≤ 10200 := by
  have := flatL_len (L := L.take k) (fun i hi => hf i (List.mem_of_mem_take hi))
  have h2 := List.length_take_le k L
  omega
theorem line_some {i : Int × Int × Int} (h : right i = true) : (bs (line i)).toList.isEmpty = false := by
  rw [Lib.toList_data, bs_data, line_right h]; simp

theorem show_longW (a : Option Addr) (n c : Nat) (L : List (Int × Int × Int)) (w : World) (hr : RowI w a n L) (hn : 200 < n) :
    Calls Tryd.prog 13 #[.slice a n c] w fun e w' => e = .returned (.string (bs (showL L))) ∧ Below w.heap.size w w' := by
  rw [show_long (by rw [← hr.1]; exact hn)]
  clear hr
  go_enter Tryd.func13, Tryd.ntmps13
  go_wp2
  go_ret
  exact ⟨rfl, Below.refl _ _⟩

set_option maxHeartbeats 2000000 in
set_option maxRecDepth 100000 in
theorem show_shortW (a : Option Addr) (n c : Nat) (L : List (Int × Int × Int)) (w : World) (hr : RowI w a n L) (hf : AllFitI L) (hn : n ≤ 200) (hN : Env w) :
    Calls Tryd.prog 13 #[.slice a n c] w fun e w' => e = .returned (.string (bs (showL L))) ∧ Below w.heap.size w w' := by
  obtain ⟨R, hR⟩ : ∃ R, R = bs (showL L) := ⟨_, rfl⟩
  rw [← hR]
  have HR := Lib.hid hR
  have HF := Lib.hid hf
  have HL := Lib.hid hr.1
  have HN := Lib.hid hN
  clear hR hf hN
  go_enter Tryd.func13, Tryd.ntmps13
  go_wp2
  go_loopw [12] (fun i wr => ∃ k : Nat, k ≤ n ∧ i = .int .i64 k ∧ Hid (allR (L.take k) = true) ∧ Hid (Lib.IsBuilder 46 5 w.heap.size w.heap.size (Lib.byteCells (flatL (L.take k))) wr) ∧ Below w.heap.size w wr) (fun i _ => n - (intOf i).toNat)
  case atStart =>
    refine ⟨0, by omega, rfl, rfl, Or.inl ⟨Nat.le_refl _, .slice none 0 0, ?_, World.ownsRow_nil _ _ _ _, by simp [Value.ownBlock]⟩, (Below.refl _ _).alloc (Nat.le_refl _) _⟩
    exact new_block w _
  case round =>
    obtain ⟨k, hk, rfl, HA, HB, hbl⟩ := hrel
    by_cases hlt : k < n
    · obtain ⟨b1, o1, p1, p2, p3, rfl, hB1, hx, hc1, hc2, hc3⟩ := (hr.below hbl).at_ hlt
      have hbs := hbl.size
      have hfx : FitsI (p1, p2, p3) := HF.out _ (List.mem_of_getElem? hx)
      have G1 := hbl.alloc hbs (.cells #[.int .i64 p1, .int .i64 p2, .int .i64 p3] 24)
      have ce := line_any p1 p2 p3 _ (HN.out.below G1) hfx
      cases hri : right (p1, p2, p3)
      · have HQ := Lib.hid (show_wrong (allR_not hx hri))
        rw [line_wrong hri] at ce
        have CE : Hid (Calls Tryd.prog 11 #[.agg #[.int .i64 p1, .int .i64 p2, .int .i64 p3]] (wr.alloc (.cells #[.int .i64 p1, .int .i64 p2, .int .i64 p3] 24)) fun e w' => e = .returned (.string ⟨#[]⟩) ∧ Below (wr.alloc (.cells #[.int .i64 p1, .int .i64 p2, .int .i64 p3] 24)).heap.size (wr.alloc (.cells #[.int .i64 p1, .int .i64 p2, .int .i64 p3] 24)) w') := ce
        clear ce hx hri
        go_wp2_with (go_at_call 11; refine CE.out.mono ?_; rintro e w2 ⟨rfl, hb2⟩)
        go_ret
        exact ⟨by rw [HR.out, HQ.out]; rfl, G1.trans (hb2.mono (by simp; omega))⟩
      · obtain ⟨S, hS⟩ : ∃ S, S = bs (line (p1, p2, p3)) := ⟨_, rfl⟩
        rw [← hS] at ce
        have CE := Lib.hid ce
        have h1 := line_some hri
        rw [← hS] at h1
        have h2 : ¬ S.toList = [] := by intro h; rw [h] at h1; cases h1
        have h3 : (S.toList == []) = false := by simpa using h2
        have HA2 := Lib.hid (allR_take hx HA.out hri)
        have HF2 := Lib.hid (flat_succL hx)
        have hSl : S.size ≤ 51 := by rw [hS, bs_size]; exact line_len hfx
        have HS := Lib.hid hS
        have hlen := flat_lenL HF.out (k := k) (by omega)
        clear ce hx hri hS
        go_wp2_with (go_at_call 11; refine CE.out.mono ?_; rintro e w2 ⟨rfl, hb2⟩)
        have HB2 := builder_below (HB.out) ((Below.refl _ _).alloc (Nat.le_refl _) (.cells #[.int .i64 p1, .int .i64 p2, .int .i64 p3] 24))
        have HB3 := builder_below HB2 hb2
        have G2 := G1.trans (hb2.mono (by simp; omega))
        have hz := G2.size
        refine (write_any _ _ _ S _ HB3 (by rw [Lib.byteCells_length]; omega) hz).mono ?_
        rintro e w3 ⟨rfl, h4, hb3⟩
        clear HB HB2 HB3 CE
        go_wp2
        go_roundw
        case rel =>
          refine ⟨k + 1, by omega, by go_num, HA2, ?_, G2.trans hb3⟩
          refine Or.inr ?_
          rw [HF2.out, Lib.byteCells_append, ← bs_data (line (p1, p2, p3)), ← HS.out]
          exact h4
        case measure => simp [intOf]; omega
    · have hkn : k = n := by omega
      have hz := hbl.size
      have HQ : Hid (showL L = flatL (L.take k)) := by
        show _ = _
        have e : L.take k = L := List.take_of_length_le (by rw [← HL.out]; omega)
        have h1 := HA.out
        rw [e] at h1 ⊢
        exact show_right (by rw [← HL.out]; exact hn) h1
      clear hkn
      have CS := Lib.hid (Tryd.Builder_String_any _ _ _ wr HB.out hz)
      go_wp2_with (go_at_call 30; refine CS.out.mono ?_; rintro e w3 ⟨rfl, hb3⟩)
      go_ret
      exact ⟨by rw [HR.out, HQ.out]; rfl, hbl.trans hb3⟩
theorem show_any (a : Option Addr) (n c : Nat) (L : List (Int × Int × Int)) (w : World) (hr : RowI w a n L) (hf : AllFitI L) (hN : Env w) :
    Calls Tryd.prog 13 #[.slice a n c] w fun e w' => e = .returned (.string (bs (showL L))) ∧ Below w.heap.size w w' := by
  rcases Nat.lt_or_ge 200 n with h | h
  · exact show_longW a n c L w hr h
  · exact show_shortW a n c L w hr hf h hN
end Go.Proofs.YtofmlodfhdjjiaaDoor
