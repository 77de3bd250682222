/- What is proved here: the contract of types.stackBehind. Conditions: the functions tell what the operation takes and gives; the stack is not too long. -/
import Derived.Test.YtngehojibcmieaaGreatDoorQGf
set_option maxRecDepth 100000
set_option maxHeartbeats 8000000
section
section
namespace Go.Proofs.YtngehojibcmieaaGreatDoor
open Go.ChangeShapes Go.WideShapes Go.RowKit Go.Maps
theorem gv_len (o a : Int) (t : List UInt8) : (gv o a t).length ≤ 2 * t.length + 1 := by
 unfold gv
 split
 ·simp
 ·split
  ·simp; omega
  ·split
   ·simp; omega
   ·split
    ·split <;> simp
    ·split <;> simp
theorem tk_len (o : Int) : (tk o).length ≤ 2 := by
 unfold tk
 split
 ·simp
 ·split
  ·simp
  ·split
   ·simp
   ·split
    ·simp
    ·split
     ·simp
     ·split <;> simp
theorem behind_any (o a : Int) (s : List UInt8) (hs : s.length ≤ 100) {lo : Nat} (tv gw : Value) (w : World) (ht : TkV lo w tv (tk o)) (hg : GvV lo w gw (gv o)) :
  Calls Tryz.prog 224 #[.agg #[tv, gw], .int .i64 a, .string (bs s)] w fun e w' => e = .returned (.tuple #[.string (bs (if bE o a s = 0 then bh o a s else [])), .int .i64 (bE o a s)]) ∧ Below w.heap.size w w' := by
 obtain ⟨bt, rfl, _, ht⟩ := ht
 obtain ⟨f, c, rfl⟩ := hg.shape
 have G := below_alloc w (.cells #[.func (.func 245) #[] #[.pointer (some ⟨bt, 0, none⟩)], .func (.func f) #[] c] 257)
 have kt := keep_cell G ht
 have c0 : (w.alloc (.cells #[.func (.func 245) #[] #[.pointer (some ⟨bt, 0, none⟩)], .func (.func f) #[] c] 257)).cell? ⟨w.heap.size, 0, none⟩ = some (.func (.func 245) #[] #[.pointer (some ⟨bt, 0, none⟩)]) := by simp
 have c1 : (w.alloc (.cells #[.func (.func 245) #[] #[.pointer (some ⟨bt, 0, none⟩)], .func (.func f) #[] c] 257)).cell? ⟨w.heap.size, 1, none⟩ = some (.func (.func f) #[] c) := by simp
 have kg := hg.keep (keeps_below G)
 have C1 := Lib.hid (took_any _ _ _ kt)
 have htl := tk_len o
 have sT := bs_size (tk o)
 have sS := bs_size s
 by_cases hlt : s.length < (tk o).length
 ·have HE : Hid (bE o a s = 9) := by show _ = _; unfold bE; rw [if_pos hlt]
  have HB : Hid (bs (if bE o a s = 0 then bh o a s else []) = ⟨#[]⟩) := by show _ = _; rw [HE.out]; rfl
  rw [HB.out, HE.out]
  generalize bs (tk o) = T at sT C1
  generalize bs s = S at sS ⊢
  have hw : IntKind.i64.wrap ((S.size : Int) - (T.size : Int)) = (S.size : Int) - (T.size : Int) := IntWalk.i64_in _ (by omega)
  have hd : decide ((S.size : Int) - (T.size : Int) < 0) = true := by rw [decide_eq_true_iff]; omega
  have hd2 : (S.size : Int) - (T.size : Int) < 0 := by omega
  clear sT sS hlt htl ht hg kt kg HE HB hs
  go_enter Tryz.func224, Tryz.ntmps224
  go_wp2_with (go_at_call 245; refine C1.out.mono ?_; rintro e w1 ⟨rfl, rfl⟩)
  go_ret2
  exact ⟨rfl, G⟩
 ·obtain ⟨m, hm⟩ : ∃ m, m = s.length - (tk o).length := ⟨_, rfl⟩
  have eB : bh o a s = s.take m ++ gv o a (s.drop m) := by unfold bh; rw [hm]
  have eK : (bs s).extract m (bs s).size = bs (s.drop m) := by rw [bs_extract, bs_size, List.take_length]
  have eL : (bs s).extract 0 m = bs (s.take m) := by rw [bs_extract, List.drop_zero]
  have lK : (s.drop m).length ≤ 2 := by rw [List.length_drop]; omega
  have lL : (s.take m).length ≤ 100 := by rw [List.length_take]; omega
  have hml : m + (tk o).length = s.length := by omega
  have hfit : bE o a s = (if fit (s.drop m) (tk o) = true then (if 16 < (bh o a s).length then 9 else 0) else 10) := by unfold bE; rw [if_neg hlt, hm]
  have CF := fun W => fits_any (s.drop m) (tk o) (by omega) W
  have lG := gv_len o a (s.drop m)
  have sK := bs_size (s.drop m)
  have sL := bs_size (s.take m)
  have sG := bs_size (gv o a (s.drop m))
  have eC := bs_append (s.take m) (gv o a (s.drop m))
  rw [← eB] at eC
  have sB := bs_size (bh o a s)
  obtain ⟨K, hK⟩ : ∃ K, K = bs (s.drop m) := ⟨_, rfl⟩
  obtain ⟨T, hT⟩ : ∃ T, T = bs (tk o) := ⟨_, rfl⟩
  rw [← hK, ← hT] at CF
  rw [← hK] at eK
  rw [← hT] at sT C1
  have HF := Lib.hid hfit
  have HK := Lib.hid hK
  clear hK hT hfit eB hm
  cases hv : fit (s.drop m) (tk o)
  ·rw [hv] at CF
   have HE : Hid (bE o a s = 10) := by show _ = _; rw [HF.out, hv]; rfl
   have HB : Hid (bs (if bE o a s = 0 then bh o a s else []) = ⟨#[]⟩) := by show _ = _; rw [HE.out]; rfl
   rw [HB.out, HE.out]
   clear hv HF lG eC sB sG sL lL eL sK
   generalize bs s = S at sS eK ⊢
   have hw : IntKind.i64.wrap ((S.size : Int) - (T.size : Int)) = (m : Int) := by rw [IntWalk.i64_in _ (by omega)]; omega
   have hd : decide ((m : Int) < 0) = false := by rw [decide_eq_false_iff_not]; omega
   have g1 : (0 : Int) ≤ (m : Int) := by omega
   have g2 : (m : Int) ≤ (S.size : Int) := by omega
   have HCF := Lib.hid CF
   clear CF sT sS hlt htl ht hg kt kg HE HB hs lK hml
   go_enter Tryz.func224, Tryz.ntmps224
   go_wp2_with (first | (go_at_call 245; refine C1.out.mono ?_; rintro e w1 ⟨rfl, rfl⟩) | (go_at_call 243; refine (HCF.out _).mono ?_; rintro e w3 ⟨rfl, hb3⟩))
   go_ret2
   exact ⟨rfl, keep_below G hb3⟩
  ·rw [hv] at CF
   obtain ⟨Y, hY⟩ : ∃ Y, Y = bs (gv o a (s.drop m)) := ⟨_, rfl⟩
   obtain ⟨X, hX⟩ : ∃ X, X = bs (s.take m) := ⟨_, rfl⟩
   obtain ⟨Z, hZ⟩ : ∃ Z, Z = bs (bh o a s) := ⟨_, rfl⟩
   rw [← hY] at sG
   rw [← hX, ← hY, ← hZ] at eC
   rw [← hX] at sL eL
   rw [← hZ] at sB
   have HY := Lib.hid hY
   clear hY hX
   have HE : Hid (bE o a s = if 16 < Z.size then 9 else 0) := by show _ = _; rw [HF.out, hv, sB]; rfl
   have HB : Hid (bs (if bE o a s = 0 then bh o a s else []) = if 16 < Z.size then ⟨#[]⟩ else Z) := by
    show _ = _
    rw [HE.out]
    by_cases h16 : 16 < Z.size
    ·rw [if_pos h16, if_pos h16]; rfl
    ·rw [if_neg h16, if_neg h16, if_pos rfl, hZ]
   obtain ⟨R, hR⟩ : ∃ R, R = (if 16 < Z.size then (⟨#[]⟩ : ByteArray) else Z) := ⟨_, rfl⟩
   obtain ⟨E, hE⟩ : ∃ E : Int, E = (if 16 < Z.size then 9 else 0) := ⟨_, rfl⟩
   rw [HB.out, HE.out, ← hR, ← hE]
   have HR := Lib.hid hR
   have HE2 := Lib.hid hE
   clear hR hE
   have HL4 : Hid (∀ k : Nat, (tk o).length = k → (s.drop m).length = k) := fun k hk => by rw [← hk]; exact fit_len hv
   clear hZ HE HB hv HF
   generalize bs s = S at sS eK eL ⊢
   have hw : IntKind.i64.wrap ((S.size : Int) - (T.size : Int)) = (m : Int) := by rw [IntWalk.i64_in _ (by omega)]; omega
   have hd : decide ((m : Int) < 0) = false := by rw [decide_eq_false_iff_not]; omega
   have g1 : (0 : Int) ≤ (m : Int) := by omega
   have g2 : (m : Int) ≤ (S.size : Int) := by omega
   have hcat : ¬ (9223372036854775807 < X.size + Y.size) := by omega
   have HCF := Lib.hid CF
   have HLK := Lib.hid lK
   have hzz : Z.size ≤ 1000 := by
    have := congrArg ByteArray.size eC
    rw [ByteArray.size_append] at this
    omega
   clear CF sT sS hlt htl ht hg kt hs lK hml sG sL sK sB lG lL
   have K5 := Lib.hid kg
   clear kg
   go_enter Tryz.func224, Tryz.ntmps224
   go_wp2_with (first | (go_at_call 245; refine C1.out.mono ?_; rintro e w1 ⟨rfl, rfl⟩) | (go_at_call 243; refine (HCF.out _).mono ?_; rintro e w3 ⟨rfl, hb3⟩))
   have G3 := keep_below G hb3
   have d1 := keep_cell hb3 c1
   have kg := K5.out.keep (keeps_below hb3)
   clear c0 c1 hb3 G C1 HCF K5
   rcases kg with ⟨bg, sg, e1, _, e2, e3⟩ | ⟨e1, e2⟩ | ⟨e1, e2⟩ | ⟨e1, e2⟩
   ·obtain ⟨rfl, rfl⟩ : f = 246 ∧ c = #[.pointer (some ⟨bg, 0, none⟩)] := by simpa using e1
    rw [← e3 a (s.drop m), ← HY.out] at e2
    have CG := Lib.hid (fun W (hW : W.cell? ⟨w.heap.size, 1, none⟩ = some (.func (.func 246) #[] #[.pointer (some ⟨bg, 0, none⟩)])) (h2 : W.cell? ⟨bg, 0, none⟩ = some (.string Y)) => (gave_any Y K a W bg h2).mono (fun e w' h => (⟨h.1, h.2 ▸ Below.refl _ _⟩ : e = .returned (.string Y) ∧ Below W.heap.size W w')))
    clear e1 e3
    go_region_held3 (fun W => W.cell? ⟨w.heap.size, 1, none⟩ = some (.func (.func 246) #[] #[.pointer (some ⟨bg, 0, none⟩)]) ∧ W.cell? ⟨bg, 0, none⟩ = some (.string Y)) (first | exact d1 | exact ⟨d1, e2⟩ | exact keep_cell (by assumption) (by assumption) | assumption | (constructor <;> first | exact keep_cell (by assumption) (by assumption) | assumption | go_keep) | go_keep) (first | (go_at_call 246; refine (CG.out _ (by first | exact d1 | assumption) (by first | exact e2 | assumption)).mono ?_; rintro e w4 ⟨rfl, hb4⟩))
    by_cases h16 : 16 < Z.size
    ·have h16' : decide ((16 : Int) < (Z.size : Int)) = true := by rw [decide_eq_true_iff]; omega
     go_wp2
     go_ret2
     exact ⟨by rw [HR.out, HE2.out, if_pos h16, if_pos h16]; rfl, G3.drew.trans (hb4.mono G3.size)⟩
    ·have h16' : decide ((16 : Int) < (Z.size : Int)) = false := by rw [decide_eq_false_iff_not]; omega
     go_wp2
     go_ret2
     exact ⟨by rw [HR.out, HE2.out, if_neg h16, if_neg h16]; rfl, G3.drew.trans (hb4.mono G3.size)⟩
   ·obtain ⟨rfl, rfl⟩ : f = 240 ∧ c = #[] := by simpa using e1
    have hy : Y = bs (s.drop m ++ s.drop m) := by rw [HY.out, e2]; rfl
    have CG := Lib.hid (fun W (hW : W.cell? ⟨w.heap.size, 1, none⟩ = some (.func (.func 240) #[] #[])) => (show Calls Tryz.prog 240 #[.int .i64 a, .string K] W fun e w' => e = .returned (.string Y) ∧ Below W.heap.size W w' from by rw [HK.out, hy]; exact (twice_any a (s.drop m) (by have := HLK.out; omega) W).mono (fun e w' h => ⟨h.1, h.2 ▸ Below.refl _ _⟩)))
    clear e1 e2 hy
    go_region_held3 (fun W => W.cell? ⟨w.heap.size, 1, none⟩ = some (.func (.func 240) #[] #[])) (first | exact d1 | exact ⟨d1, e2⟩ | exact keep_cell (by assumption) (by assumption) | assumption | (constructor <;> first | exact keep_cell (by assumption) (by assumption) | assumption | go_keep) | go_keep) (first | (go_at_call 240; refine (CG.out _ (by first | exact d1 | assumption)).mono ?_; rintro e w4 ⟨rfl, hb4⟩))
    by_cases h16 : 16 < Z.size
    ·have h16' : decide ((16 : Int) < (Z.size : Int)) = true := by rw [decide_eq_true_iff]; omega
     go_wp2
     go_ret2
     exact ⟨by rw [HR.out, HE2.out, if_pos h16, if_pos h16]; rfl, G3.drew.trans (hb4.mono G3.size)⟩
    ·have h16' : decide ((16 : Int) < (Z.size : Int)) = false := by rw [decide_eq_false_iff_not]; omega
     go_wp2
     go_ret2
     exact ⟨by rw [HR.out, HE2.out, if_neg h16, if_neg h16]; rfl, G3.drew.trans (hb4.mono G3.size)⟩
   ·obtain ⟨rfl, rfl⟩ : f = 241 ∧ c = #[] := by simpa using e1
    have ho : o = 4 := gv4_only e2
    have hy : Y = bs ((s.drop m).drop 1 ++ (s.drop m).take 1) := by rw [HY.out, e2]; rfl
    have hl2 := HL4.out 2 (by rw [ho]; rfl)
    have CG := Lib.hid (fun W (hW : W.cell? ⟨w.heap.size, 1, none⟩ = some (.func (.func 241) #[] #[])) => (show Calls Tryz.prog 241 #[.int .i64 a, .string K] W fun e w' => e = .returned (.string Y) ∧ Below W.heap.size W w' from by rw [HK.out, hy]; exact turned_any a (s.drop m) (by omega) (by omega) W))
    clear e1 e2 hy ho hl2
    go_region_held3 (fun W => W.cell? ⟨w.heap.size, 1, none⟩ = some (.func (.func 241) #[] #[])) (first | exact d1 | exact ⟨d1, e2⟩ | exact keep_cell (by assumption) (by assumption) | assumption | (constructor <;> first | exact keep_cell (by assumption) (by assumption) | assumption | go_keep) | go_keep) (first | (go_at_call 241; refine (CG.out _ (by first | exact d1 | assumption)).mono ?_; rintro e w4 ⟨rfl, hb4⟩))
    by_cases h16 : 16 < Z.size
    ·have h16' : decide ((16 : Int) < (Z.size : Int)) = true := by rw [decide_eq_true_iff]; omega
     go_wp2
     go_ret2
     exact ⟨by rw [HR.out, HE2.out, if_pos h16, if_pos h16]; rfl, G3.drew.trans (hb4.mono G3.size)⟩
    ·have h16' : decide ((16 : Int) < (Z.size : Int)) = false := by rw [decide_eq_false_iff_not]; omega
     go_wp2
     go_ret2
     exact ⟨by rw [HR.out, HE2.out, if_neg h16, if_neg h16]; rfl, G3.drew.trans (hb4.mono G3.size)⟩
   ·obtain ⟨rfl, rfl⟩ : f = 242 ∧ c = #[] := by simpa using e1
    have hy : Y = bs (if a = 11 ∨ a = 12 then [98] else [105]) := by rw [HY.out, e2]; rfl
    have CG := Lib.hid (fun W (hW : W.cell? ⟨w.heap.size, 1, none⟩ = some (.func (.func 242) #[] #[])) => (show Calls Tryz.prog 242 #[.int .i64 a, .string K] W fun e w' => e = .returned (.string Y) ∧ Below W.heap.size W w' from by rw [hy]; exact (reckoned_any a K W).mono (fun e w' h => ⟨h.1, h.2 ▸ Below.refl _ _⟩)))
    clear e1 e2 hy
    go_region_held3 (fun W => W.cell? ⟨w.heap.size, 1, none⟩ = some (.func (.func 242) #[] #[])) (first | exact d1 | exact ⟨d1, e2⟩ | exact keep_cell (by assumption) (by assumption) | assumption | (constructor <;> first | exact keep_cell (by assumption) (by assumption) | assumption | go_keep) | go_keep) (first | (go_at_call 242; refine (CG.out _ (by first | exact d1 | assumption)).mono ?_; rintro e w4 ⟨rfl, hb4⟩))
    by_cases h16 : 16 < Z.size
    ·have h16' : decide ((16 : Int) < (Z.size : Int)) = true := by rw [decide_eq_true_iff]; omega
     go_wp2
     go_ret2
     exact ⟨by rw [HR.out, HE2.out, if_pos h16, if_pos h16]; rfl, G3.drew.trans (hb4.mono G3.size)⟩
    ·have h16' : decide ((16 : Int) < (Z.size : Int)) = false := by rw [decide_eq_false_iff_not]; omega
     go_wp2
     go_ret2
     exact ⟨by rw [HR.out, HE2.out, if_neg h16, if_neg h16]; rfl, G3.drew.trans (hb4.mono G3.size)⟩
end Go.Proofs.YtngehojibcmieaaGreatDoor
end
end
