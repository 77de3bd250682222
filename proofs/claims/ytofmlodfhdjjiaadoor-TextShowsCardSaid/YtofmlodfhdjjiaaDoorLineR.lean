/- What is proved here: the contracts of the document's Line and Show. Conditions: the numbers fit 64 bits. -/
import Derived.Test.YtofmlodfhdjjiaaDoorDg2
import Derived.Test.YtofmlodfhdjjiaaDoorR6
import Derived.Test.YtofmlodfhdjjiaaDoorLine
namespace Go.Proofs.YtofmlodfhdjjiaaDoor
open Go.ChangeShapes Go.WideShapes Go.RowKit

/-- An instruction's block. -/
def Blk (B : Nat) (o a b : Int) (W : World) : Prop := B < W.heap.size ∧ W.heap[B]? = some (.cells #[.int .i64 o, .int .i64 a, .int .i64 b] 24 (0, 0))
theorem Blk.below {B : Nat} {o a b : Int} {W W' : World} (h : Blk B o a b W) (hb : Below W.heap.size W W') : Blk B o a b W' := ⟨Nat.lt_of_lt_of_le h.1 hb.size, (hb.block B h.1).trans h.2⟩
theorem Blk.new (w : World) (o a b : Int) : Blk w.heap.size o a b (w.alloc (.cells #[.int .i64 o, .int .i64 a, .int .i64 b] 24)) := ⟨by simp, new_block _ _⟩
theorem Blk.cells {B : Nat} {o a b : Int} {W : World} (h : Blk B o a b W) : B < W.heap.size ∧ W.cell? ⟨B, 0, none⟩ = some (.int .i64 o) ∧ W.cell? ⟨B, 1, none⟩ = some (.int .i64 a) ∧ W.cell? ⟨B, 2, none⟩ = some (.int .i64 b) := by
  have r0 := Lib.cell_of_heap h.2 0
  have r1 := Lib.cell_of_heap h.2 1
  have r2 := Lib.cell_of_heap h.2 2
  simp at r0 r1 r2
  exact ⟨h.1, r0, r1, r2⟩
theorem lineR_wrong (o a b : Int) (w : World) (h : right (o, a, b) = false) :
    Calls Tryd.prog 12 #[.agg #[.int .i64 o, .int .i64 a, .int .i64 b]] w fun e w' => e = .returned (.string (bs (line (o, a, b)))) ∧ Below w.heap.size w w' := by
  have c := fun W => rightR_any o a b W
  rw [h] at c
  have C := Lib.hid c
  rw [line_wrong h]
  clear c h
  go_enter Tryd.func12, Tryd.ntmps12
  go_wp2_with (go_at_call 25; refine (C.out _).mono ?_; rintro e w' ⟨rfl, hb⟩)
  go_ret
  exact ⟨rfl, (below_alloc _ _).trans (hb.mono (by simp))⟩
set_option maxHeartbeats 2000000 in
set_option maxRecDepth 100000 in
theorem lineR_right (o a b : Int) (w : World) (h : right (o, a, b) = true) (hf : FitsI (o, a, b)) :
    Calls Tryd.prog 12 #[.agg #[.int .i64 o, .int .i64 a, .int .i64 b]] w fun e w' => e = .returned (.string (bs (line (o, a, b)))) ∧ Below w.heap.size w w' := by
  have c := fun W => rightR_any o a b W
  rw [h] at c
  have C := Lib.hid c
  have hko := right_kn h
  simp only at hko
  have ca := fun W => argsR_any o W
  have hna : argsOf o = (nargs o : Int) := by unfold argsOf; rw [if_pos (kn_iff.2 hko)]
  obtain ⟨S, hS⟩ : ∃ S, S = onm o := ⟨_, rfl⟩
  have cn := fun W => nameR_any o W
  rw [← hS] at cn
  have CN := Lib.hid cn
  have hSl : S.size ≤ 6 := by rw [Lib.size_eq, hS]; exact onm_size o
  obtain ⟨P, hP⟩ : ∃ P, P = bs (Lib.itoa a) := ⟨_, rfl⟩
  obtain ⟨Q, hQ⟩ : ∃ Q, Q = bs (Lib.itoa b) := ⟨_, rfl⟩
  have hPl : P.size ≤ 21 := by rw [hP, bs_size]; exact itoa_len hf.2.1
  have hQl : Q.size ≤ 21 := by rw [hQ, bs_size]; exact itoa_len hf.2.2
  have cP := fun W => digits_any a hf.2.1 W
  have cQ := fun W => digits_any b hf.2.2 W
  rw [← hP] at cP
  rw [← hQ] at cQ
  have CP := Lib.hid cP
  have CQ := Lib.hid cQ
  have hl := line_right h
  have G0 := below_alloc w (.cells #[.int .i64 o, .int .i64 a, .int .i64 b] 24)
  have HJ0 := Lib.hid (Blk.new w o a b)
  rcases nargs_012 o with hn | hn | hn
  · rw [hna, hn] at ca
    have CA := Lib.hid ca
    have HR : Hid (bs (line (o, a, b)) = S ++ ⟨#[10]⟩) := by
      show _ = _
      rw [← bs_of (S ++ ⟨#[10]⟩), app_list, hl, hS]
      congr 1
      unfold lineW numsT; simp [hn]
    clear c ca cn cP cQ CP CQ hna hS hP hQ hPl hQl hl hf h hko hn
    go_enter Tryd.func12, Tryd.ntmps12
    go_wp2_with fail
    refine (C.out _).mono ?_; rintro e w1 ⟨rfl, hb⟩
    have G := keep_below G0 hb; have HJ := Lib.hid (HJ0.out.below hb); clear hb G0 HJ0
    obtain ⟨j0, j1, j2, j3⟩ := HJ.out.cells
    go_wp2_with fail
    refine (CN.out _).mono ?_; rintro e w2 ⟨rfl, hb⟩
    replace G := keep_below G hb; replace HJ := Lib.hid (HJ.out.below hb); clear hb j0 j1 j2 j3
    obtain ⟨j0, j1, j2, j3⟩ := HJ.out.cells
    go_wp2_with fail
    refine (CA.out _).mono ?_; rintro e w3 ⟨rfl, hb⟩
    replace G := keep_below G hb; replace HJ := Lib.hid (HJ.out.below hb); clear hb j0 j1 j2 j3
    obtain ⟨j0, j1, j2, j3⟩ := HJ.out.cells
    go_wp2_with fail
    refine (CA.out _).mono ?_; rintro e w4 ⟨rfl, hb⟩
    replace G := keep_below G hb
    go_wp2
    go_ret
    exact ⟨by rw [HR.out]; rfl, G⟩
  · rw [hna, hn] at ca
    have CA := Lib.hid ca
    have HR : Hid (bs (line (o, a, b)) = S ++ ⟨#[32]⟩ ++ P ++ ⟨#[10]⟩) := by
      show _ = _
      rw [← bs_of (S ++ ⟨#[32]⟩ ++ P ++ ⟨#[10]⟩), app_list, app_list, app_list, hl, hS, hP, bs_data]
      congr 1
      unfold lineW numsT; simp [hn]
    clear c ca cn cP cQ CQ hna hS hP hQ hQl hl hf h hko hn
    go_enter Tryd.func12, Tryd.ntmps12
    go_wp2_with fail
    refine (C.out _).mono ?_; rintro e w1 ⟨rfl, hb⟩
    have G := keep_below G0 hb; have HJ := Lib.hid (HJ0.out.below hb); clear hb G0 HJ0
    obtain ⟨j0, j1, j2, j3⟩ := HJ.out.cells
    go_wp2_with fail
    refine (CN.out _).mono ?_; rintro e w2 ⟨rfl, hb⟩
    replace G := keep_below G hb; replace HJ := Lib.hid (HJ.out.below hb); clear hb j0 j1 j2 j3
    obtain ⟨j0, j1, j2, j3⟩ := HJ.out.cells
    go_wp2_with fail
    refine (CA.out _).mono ?_; rintro e w3 ⟨rfl, hb⟩
    replace G := keep_below G hb; replace HJ := Lib.hid (HJ.out.below hb); clear hb j0 j1 j2 j3
    obtain ⟨j0, j1, j2, j3⟩ := HJ.out.cells
    go_wp2_with fail
    refine (CP.out _).mono ?_; rintro e w4 ⟨rfl, hb⟩
    replace G := keep_below G hb; replace HJ := Lib.hid (HJ.out.below hb); clear hb j0 j1 j2 j3
    obtain ⟨j0, j1, j2, j3⟩ := HJ.out.cells
    go_wp2_with fail
    refine (CA.out _).mono ?_; rintro e w5 ⟨rfl, hb⟩
    replace G := keep_below G hb
    go_wp2
    go_ret
    exact ⟨by rw [HR.out]; rfl, G⟩
  · rw [hna, hn] at ca
    have CA := Lib.hid ca
    have HR : Hid (bs (line (o, a, b)) = S ++ ⟨#[32]⟩ ++ P ++ ⟨#[32]⟩ ++ Q ++ ⟨#[10]⟩) := by
      show _ = _
      rw [← bs_of (S ++ ⟨#[32]⟩ ++ P ++ ⟨#[32]⟩ ++ Q ++ ⟨#[10]⟩), app_list, app_list, app_list, app_list, app_list, hl, hS, hP, hQ, bs_data, bs_data]
      congr 1
      unfold lineW numsT; simp [hn]
    clear c ca cn cP cQ hna hS hP hQ hl hf h hko hn
    go_enter Tryd.func12, Tryd.ntmps12
    go_wp2_with fail
    refine (C.out _).mono ?_; rintro e w1 ⟨rfl, hb⟩
    have G := keep_below G0 hb; have HJ := Lib.hid (HJ0.out.below hb); clear hb G0 HJ0
    obtain ⟨j0, j1, j2, j3⟩ := HJ.out.cells
    go_wp2_with fail
    refine (CN.out _).mono ?_; rintro e w2 ⟨rfl, hb⟩
    replace G := keep_below G hb; replace HJ := Lib.hid (HJ.out.below hb); clear hb j0 j1 j2 j3
    obtain ⟨j0, j1, j2, j3⟩ := HJ.out.cells
    go_wp2_with fail
    refine (CA.out _).mono ?_; rintro e w3 ⟨rfl, hb⟩
    replace G := keep_below G hb; replace HJ := Lib.hid (HJ.out.below hb); clear hb j0 j1 j2 j3
    obtain ⟨j0, j1, j2, j3⟩ := HJ.out.cells
    go_wp2_with fail
    refine (CP.out _).mono ?_; rintro e w4 ⟨rfl, hb⟩
    replace G := keep_below G hb; replace HJ := Lib.hid (HJ.out.below hb); clear hb j0 j1 j2 j3
    obtain ⟨j0, j1, j2, j3⟩ := HJ.out.cells
    go_wp2_with fail
    refine (CA.out _).mono ?_; rintro e w5 ⟨rfl, hb⟩
    replace G := keep_below G hb; replace HJ := Lib.hid (HJ.out.below hb); clear hb j0 j1 j2 j3
    obtain ⟨j0, j1, j2, j3⟩ := HJ.out.cells
    go_wp2_with fail
    refine (CQ.out _).mono ?_; rintro e w6 ⟨rfl, hb⟩
    replace G := keep_below G hb
    go_wp2
    go_ret
    exact ⟨by rw [HR.out]; rfl, G⟩
theorem lineR_any (o a b : Int) (w : World) (hf : FitsI (o, a, b)) :
    Calls Tryd.prog 12 #[.agg #[.int .i64 o, .int .i64 a, .int .i64 b]] w fun e w' => e = .returned (.string (bs (line (o, a, b)))) ∧ Below w.heap.size w w' := by
  cases h : right (o, a, b)
  · exact lineR_wrong o a b w h
  · exact lineR_right o a b w h hf
end Go.Proofs.YtofmlodfhdjjiaaDoor
