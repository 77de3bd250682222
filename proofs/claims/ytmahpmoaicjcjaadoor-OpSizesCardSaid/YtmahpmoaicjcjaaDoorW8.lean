/- What is proved here: the walk of the law OpSizes, out of its cases. Conditions: none beyond those each theorem states. -/
import Derived.Test.YtmahpmoaicjcjaaDoorSN0
import Derived.Test.YtmahpmoaicjcjaaDoorSN1p
import Derived.Test.YtmahpmoaicjcjaaDoorSN1
import Derived.Test.YtmahpmoaicjcjaaDoorSN2
namespace Go.Proofs.YtmahpmoaicjcjaaDoor
open Go.ChangeShapes Go.WideShapes Go.RowKit

theorem sizes_right (o a b : Int) (w : World) (hn : Nms w) (h : right (o, a, b) = true) (hf : FitsI (o, a, b)) :
    Calls Tryd.prog 7 #[.agg #[.int .i64 o, .int .i64 a, .int .i64 b]] w fun e w' => e = .returned (.bool true) ∧ Below w.heap.size w w' := by
  have hk := right_kn h
  simp only at hk
  have c2 := fun W => args_any o W
  have hna : argsOf o = (nargs o : Int) := by unfold argsOf; rw [if_pos (kn_iff.2 hk)]
  rw [hna] at c2
  have c1 := fun W hW => encode_any o a b W hW hf
  obtain ⟨S, hS⟩ : ∃ S, S = bs (encI (o, a, b)) := ⟨_, rfl⟩
  rw [← hS] at c1
  have hSl : S.data.toList = opB o :: tailI (o, a, b) := by rw [hS, bs_data, encI_right h]
  have hSz : S.size = 1 + (tailI (o, a, b)).length := by rw [Lib.size_eq, hSl, List.length_cons]; omega
  have ht := tailI_len hf
  have ht2 := tail_two h
  simp only at ht ht2
  have h0 : 0 < S.size := by omega
  have hb1 : IntKind.i64.wrap (S[0].toNat : Int) = o := by rw [head_byte hSl h0, opB_val hk]; exact wrap_lit (by omega) (by omega)
  have c3 := fun W hW => name_any o W hW
  have g1 := onm_some (kn_iff.2 hk)
  have s2 : ¬ S.toList = [] := by rw [Lib.toList_data, hSl]; simp
  rcases nargs_012 o with hn0 | hn0 | hn0
  · rw [hn0] at c2 ht ht2
    have ho : o ≠ 1 := by intro ho; subst ho; exact absurd hn0 (by decide)
    have := ht2 ho
    exact szN0 o a b S (onm o) w hn c1 c2 c3 g1 s2 (by omega) (by omega) (by rw [beq_eq_false_iff_ne]; exact ho) (by omega) h0 hb1
  · rw [hn0] at c2 ht ht2
    by_cases ho : o = 1
    · exact szN1p o a b S (onm o) w hn c1 c2 c3 g1 s2 (by omega) (by omega) true (by rw [ho]; rfl) rfl h0 hb1
    · have := ht2 ho
      exact szN1 o a b S (onm o) w hn c1 c2 c3 g1 s2 (by omega) (by omega) (by rw [beq_eq_false_iff_ne]; exact ho) (by omega) h0 hb1
  · rw [hn0] at c2 ht ht2
    have ho : o ≠ 1 := by intro ho; subst ho; exact absurd hn0 (by decide)
    have := ht2 ho
    exact szN2 o a b S (onm o) w hn c1 c2 c3 g1 s2 (by omega) (by omega) (by rw [beq_eq_false_iff_ne]; exact ho) (by omega) h0 hb1
theorem sizes_walk (o a b : Int) (w : World) (hn : Nms w) (hf : FitsI (o, a, b)) :
    Calls Tryd.prog 7 #[.agg #[.int .i64 o, .int .i64 a, .int .i64 b]] w fun e w' => e = .returned (.bool true) ∧ Below w.heap.size w w' := by
  cases h : right (o, a, b)
  · exact sizes_wrong o a b w hn h hf
  · exact sizes_right o a b w hn h hf
end Go.Proofs.YtmahpmoaicjcjaaDoor
