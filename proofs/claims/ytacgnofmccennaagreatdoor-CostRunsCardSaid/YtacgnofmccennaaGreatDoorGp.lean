/- What is proved here: '==' and '!=' of two arrays of eight numbers. Conditions: none. -/
import Derived.Test.YtacgnofmccennaaGreatDoorChecked
import Derived.WalkKit
section
namespace Go.Proofs.YtacgnofmccennaaGreatDoor
open Go.RowKit

/-- Are eight numbers the same? -/
def eq8 (x0 x1 x2 x3 x4 x5 x6 x7 y0 y1 y2 y3 y4 y5 y6 y7 : Int) : Bool := (x0 == y0 && (x1 == y1 && (x2 == y2 && (x3 == y3 && (x4 == y4 && (x5 == y5 && (x6 == y6 && (x7 == y7))))))))
theorem eq8_in (x0 x1 x2 x3 x4 x5 x6 x7 y0 y1 y2 y3 y4 y5 y6 y7 : Int) (w : World) : (Op.equalIn 10000 24 (.agg #[.int .i64 x0, .int .i64 x1, .int .i64 x2, .int .i64 x3, .int .i64 x4, .int .i64 x5, .int .i64 x6, .int .i64 x7]) (.agg #[.int .i64 y0, .int .i64 y1, .int .i64 y2, .int .i64 y3, .int .i64 y4, .int .i64 y5, .int .i64 y6, .int .i64 y7])).run Tryz.prog w = .ok (eq8 x0 x1 x2 x3 x4 x5 x6 x7 y0 y1 y2 y3 y4 y5 y6 y7) w := by
  have u3 := Tryz.underlying3
  have a3 := Tryz.isAgg3
  have z3 := Tryz.sizeOf3
  unfold eq8
  rw [show (10000 : Nat) = 9999 + 1 from rfl, Op.equalIn]
  simp only [Sem.run_bind, run_underlying Tryz.underlying24, Result.andThen_ok]
  simp only [Std.Legacy.Range.forIn_eq_forIn_range', Std.Legacy.Range.size, Nat.sub_zero, Nat.add_sub_cancel, Nat.div_one, List.range'_succ, List.range'_zero, List.forIn_cons, List.forIn_nil]
  go_simp
  by_cases h0 : x0 = y0
  · rw [if_pos h0]
    by_cases h1 : x1 = y1
    · rw [if_pos h1]
      by_cases h2 : x2 = y2
      · rw [if_pos h2]
        by_cases h3 : x3 = y3
        · rw [if_pos h3]
          by_cases h4 : x4 = y4
          · rw [if_pos h4]
            by_cases h5 : x5 = y5
            · rw [if_pos h5]
              by_cases h6 : x6 = y6
              · rw [if_pos h6]
                by_cases h7 : x7 = y7
                · rw [if_pos h7]
                  simp [h0, h1, h2, h3, h4, h5, h6, h7]
                · rw [if_neg h7]; simp [h0, h1, h2, h3, h4, h5, h6, h7]
              · rw [if_neg h6]; simp [h0, h1, h2, h3, h4, h5, h6]
            · rw [if_neg h5]; simp [h0, h1, h2, h3, h4, h5]
          · rw [if_neg h4]; simp [h0, h1, h2, h3, h4]
        · rw [if_neg h3]; simp [h0, h1, h2, h3]
      · rw [if_neg h2]; simp [h0, h1, h2]
    · rw [if_neg h1]; simp [h0, h1]
  · rw [if_neg h0]; simp [h0]
/-- The same, as the walk meets it. -/
theorem run_eql8 (x0 x1 x2 x3 x4 x5 x6 x7 y0 y1 y2 y3 y4 y5 y6 y7 : Int) (w : World) : (binOp .eql 24 (.agg #[.int .i64 x0, .int .i64 x1, .int .i64 x2, .int .i64 x3, .int .i64 x4, .int .i64 x5, .int .i64 x6, .int .i64 x7]) (.agg #[.int .i64 y0, .int .i64 y1, .int .i64 y2, .int .i64 y3, .int .i64 y4, .int .i64 y5, .int .i64 y6, .int .i64 y7])).run Tryz.prog w = .ok (.bool (eq8 x0 x1 x2 x3 x4 x5 x6 x7 y0 y1 y2 y3 y4 y5 y6 y7)) w := by
  simp only [binOp]
  simp [Op.equal, Op.maxDepth, eq8_in]
theorem run_neq8 (x0 x1 x2 x3 x4 x5 x6 x7 y0 y1 y2 y3 y4 y5 y6 y7 : Int) (w : World) : (binOp .neq 24 (.agg #[.int .i64 x0, .int .i64 x1, .int .i64 x2, .int .i64 x3, .int .i64 x4, .int .i64 x5, .int .i64 x6, .int .i64 x7]) (.agg #[.int .i64 y0, .int .i64 y1, .int .i64 y2, .int .i64 y3, .int .i64 y4, .int .i64 y5, .int .i64 y6, .int .i64 y7])).run Tryz.prog w = .ok (.bool (!eq8 x0 x1 x2 x3 x4 x5 x6 x7 y0 y1 y2 y3 y4 y5 y6 y7)) w := by
  simp only [binOp]
  simp [Op.equal, Op.maxDepth, eq8_in]
theorem eq8_same (x0 x1 x2 x3 x4 x5 x6 x7 : Int) : eq8 x0 x1 x2 x3 x4 x5 x6 x7 x0 x1 x2 x3 x4 x5 x6 x7 = true := by simp [eq8]
end Go.Proofs.YtacgnofmccennaaGreatDoor
end
