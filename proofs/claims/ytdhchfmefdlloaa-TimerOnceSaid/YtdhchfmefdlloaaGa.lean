/- What is proved here: contracts of the timer's small functions (given, Now, cut, within, right). Conditions: the timer is one of ours, or none. -/
import Derived.Test.YtdhchfmefdlloaaRo
import Derived.Test.YtdhchfmefdlloaaDc
namespace Go.Proofs.Ytdhchfmefdlloaa
open Go.ChangeShapes Go.WideShapes Go.RowKit

section
variable {F : Nat → Prop} {w : World} {b mb : Nat} {pv : Value} {M : Int → Option Value} {pz : List Int} {now : Int} {L : List Wt} {n : Nat}
theorem TimI.cells (h : TimI F w b mb pv M pz now L n) : w.cell? ⟨b, 0, none⟩ = some (.pointer (some ⟨b, 0, none⟩)) ∧ w.cell? ⟨b, 1, none⟩ = some pv ∧ w.cell? ⟨b, 2, none⟩ = some (.int .i64 now) ∧ w.cell? ⟨b, 3, none⟩ = some (.map (some mb)) ∧ w.frozen? ⟨b, 2, none⟩ = false := by
  have e := Lib.cell_of_heap h.blk
  refine ⟨?_, ?_, ?_, ?_, by simp [World.frozen?, h.blk]⟩
  · rw [e]; rfl
  · rw [e]; rfl
  · rw [e]; rfl
  · rw [e]; rfl
end
theorem someT : (Try.prog.info? 53).isSome = true := by kernel_rfl
theorem eql_self (w : World) (b : Nat) : (binOp .eql 25 (.pointer (some ⟨b, 0, none⟩)) (.pointer (some ⟨b, 0, none⟩))).run Try.prog w = .ok (.bool true) w := by
  obtain ⟨j, hj⟩ := Option.isSome_iff_exists.1 someT
  exact run_eql_ptr_same w _ Try.underlying25 hj
theorem eql_none (w : World) (b : Nat) : (binOp .eql 25 (.pointer none) (.pointer (some ⟨b, 0, none⟩))).run Try.prog w = .ok (.bool false) w := by
  have h : ∀ d : Nat, (Op.equalIn (d + 1) 25 (.pointer none) (.pointer (some ⟨b, 0, none⟩))).run Try.prog w = .ok false w := fun d => by
    simp [Op.equalIn, run_underlying Try.underlying25]
  simp only [binOp]
  simp [Op.equal, Op.maxDepth, h 9999]
set_option maxRecDepth 100000
theorem given_self (b : Nat) (w : World) (h : w.cell? ⟨b, 0, none⟩ = some (.pointer (some ⟨b, 0, none⟩))) :
    Calls Try.prog 23 #[.pointer (some ⟨b, 0, none⟩)] w fun e w' => e = .returned (.bool true) ∧ w' = w := by
  have hq := eql_self w b
  go_enter Try.func23, Try.ntmps23
  go_wp2
  go_ret
  exact ⟨rfl, rfl⟩
theorem given_other (b : Nat) (w : World) (h : w.cell? ⟨b, 0, none⟩ = some (.pointer none)) :
    Calls Try.prog 23 #[.pointer (some ⟨b, 0, none⟩)] w fun e w' => e = .returned (.bool false) ∧ w' = w := by
  have hq := eql_none w b
  go_enter Try.func23, Try.ntmps23
  go_wp2
  go_ret
  exact ⟨rfl, rfl⟩
theorem given_nil (w : World) : Calls Try.prog 23 #[.pointer none] w fun e w' => e = .returned (.bool false) ∧ w' = w := by
  go_enter Try.func23, Try.ntmps23
  go_wp2
  go_ret
  exact ⟨rfl, rfl⟩
theorem now_self (b : Nat) (now : Int) (w : World) (h : w.cell? ⟨b, 0, none⟩ = some (.pointer (some ⟨b, 0, none⟩))) (h2 : w.cell? ⟨b, 2, none⟩ = some (.int .i64 now)) :
    Calls Try.prog 20 #[.pointer (some ⟨b, 0, none⟩)] w fun e w' => e = .returned (.int .i64 now) ∧ w' = w := by
  have CG := given_self b w h
  go_enter Try.func20, Try.ntmps20
  go_wp2_with (go_at_call 23; refine CG.mono ?_; rintro e w' ⟨rfl, rfl⟩)
  go_ret
  exact ⟨rfl, rfl⟩
theorem now_any {F : Nat → Prop} {w : World} {b : Nat} {pz : List Int} {now : Int} {L : List Wt} {n : Nat} (h : Tim F w b pz now L n) :
    Calls Try.prog 20 #[.pointer (some ⟨b, 0, none⟩)] w fun e w' => e = .returned (.int .i64 now) ∧ w' = w := by
  obtain ⟨mb, pv, M, h⟩ := h
  exact now_self b now w h.cells.1 h.cells.2.2.1
theorem now_not (v : Value) (w : World) (hg : Calls Try.prog 23 #[v] w fun e w' => e = .returned (.bool false) ∧ w' = w) :
    Calls Try.prog 20 #[v] w fun e w' => e = .returned (.int .i64 0) ∧ w' = w := by
  go_enter Try.func20, Try.ntmps20
  go_wp2_with (go_at_call 23; refine hg.mono ?_; rintro e w' ⟨rfl, rfl⟩)
  go_ret
  exact ⟨rfl, rfl⟩
theorem tick_not (v p : Value) (w : World) (hg : Calls Try.prog 23 #[v] w fun e w' => e = .returned (.bool false) ∧ w' = w) :
    Calls Try.prog 14 #[v, p] w fun e w' => e = .returned (.slice none 0 0) ∧ w' = w := by
  go_enter Try.func14, Try.ntmps14
  go_wp2_with (go_at_call 23; refine hg.mono ?_; rintro e w' ⟨rfl, rfl⟩)
  go_ret
  exact ⟨rfl, rfl⟩
theorem waiting_not (v : Value) (w : World) (hg : Calls Try.prog 23 #[v] w fun e w' => e = .returned (.bool false) ∧ w' = w) :
    Calls Try.prog 18 #[v] w fun e w' => e = .returned (.slice none 0 0) ∧ w' = w := by
  go_enter Try.func18, Try.ntmps18
  go_wp2_with (go_at_call 23; refine hg.mono ?_; rintro e w' ⟨rfl, rfl⟩)
  go_ret
  exact ⟨rfl, rfl⟩
theorem copy_not (v : Value) (w : World) (hg : Calls Try.prog 23 #[v] w fun e w' => e = .returned (.bool false) ∧ w' = w) :
    Calls Try.prog 13 #[v] w fun e w' => e = .returned (.pointer none) ∧ w' = w := by
  go_enter Try.func13, Try.ntmps13
  go_wp2_with (go_at_call 23; refine hg.mono ?_; rintro e w' ⟨rfl, rfl⟩)
  go_ret
  exact ⟨rfl, rfl⟩
theorem cut_any (z : Int) (w : World) : Calls Try.prog 32 #[.int .i64 z] w fun e w' => e = .returned (.int .i64 (cutJ z)) ∧ w' = w := by
  by_cases h1 : z < 0
  · go_enter Try.func32, Try.ntmps32
    go_wp2
    go_ret
    exact ⟨by unfold cutJ; congr 2 <;> omega, rfl⟩
  · by_cases h2 : 1048576 < z
    · go_enter Try.func32, Try.ntmps32
      go_wp2
      go_ret
      exact ⟨by unfold cutJ; congr 2 <;> omega, rfl⟩
    · go_enter Try.func32, Try.ntmps32
      go_wp2
      go_ret
      exact ⟨by unfold cutJ; congr 2 <;> omega, rfl⟩
theorem within_any (x a b : Int) (w : World) : Calls Try.prog 28 #[.int .i64 x, .int .i64 a, .int .i64 b] w fun e w' => e = .returned (.bool (decide (a ≤ x) && decide (x ≤ b))) ∧ w' = w := by
  by_cases h : a ≤ x
  · go_enter Try.func28, Try.ntmps28
    go_wp2
    go_ret
    exact ⟨by simp [h], rfl⟩
  · go_enter Try.func28, Try.ntmps28
    go_wp2
    go_ret
    exact ⟨by rw [decide_eq_false (by omega)]; rfl, rfl⟩
end Go.Proofs.Ytdhchfmefdlloaa
