/- What is proved here: the contract of the timer's inOrder: a row of releases is sorted in its place. Conditions: the row is its own, not too long. -/
import Derived.Test.YtdhchfmefdlloaaGa
import Derived.Test.YtdhchfmefdlloaaShelf
namespace Go.Proofs.Ytdhchfmefdlloaa
open Go.RowKit Go.Sort Go.Shelf Go.Lib

/-- What the timer compares by. -/
def cfD (x y : Int × Int) : Int := if x.1 ≠ y.1 then Lib.compareInt x.1 y.1 else Lib.compareInt x.2 y.2
theorem cmp_lt (a b : Int) : (Lib.compareInt a b < 0) ↔ a < b := by
  unfold Lib.compareInt
  by_cases h1 : a < b
  · simp [h1]
  · by_cases h2 : b < a <;> simp [h1, h2]
theorem ltD (x y : Int × Int) : ltOf cfD x y = decide (x.1 < y.1 ∨ x.1 = y.1 ∧ x.2 < y.2) := by
  unfold ltOf cfD
  by_cases h : x.1 = y.1
  · rw [if_neg (by simp [h])]
    rw [Bool.eq_iff_iff, decide_eq_true_iff, decide_eq_true_iff, cmp_lt]
    omega
  · rw [if_pos h]
    rw [Bool.eq_iff_iff, decide_eq_true_iff, decide_eq_true_iff, cmp_lt]
    omega
theorem swoD : SWO (ltOf cfD) where
  irrefl x := by rw [ltD]; simp
  trans x y z h1 h2 := by rw [ltD] at *; simp at *; omega
  ntrans x y z h1 h2 := by rw [ltD] at *; simp at *; omega
theorem totD (x y : Int × Int) (h1 : ltOf cfD x y = false) (h2 : ltOf cfD y x = false) : x = y := by
  rw [ltD] at *
  simp at *
  exact Prod.ext (by omega) (by omega)
theorem sortD (l : List (Int × Int)) : (l.mergeSort fun x y => !(ltOf cfD) y x) = srt l := by
  unfold srt
  congr 1
  funext x y
  rw [ltD, Bool.eq_iff_iff, le2_iff]
  simp
  omega
set_option maxHeartbeats 1000000 in
set_option maxRecDepth 100000 in
theorem closureD (x y : Int × Int) (W : World) : Calls Try.prog 34 #[.agg #[.int .i64 x.1, .int .i64 x.2], .agg #[.int .i64 y.1, .int .i64 y.2]] W fun e w' => e = .returned (.int .i64 (cfD x y)) ∧ ∃ q os', w' = grow (W.drewN q) os' := by
  have hcon := fun a b W' => Try.cmp_Compare_int a b W'
  by_cases h : x.1 = y.1
  · have e : cfD x y = Lib.compareInt x.2 y.2 := by unfold cfD; rw [if_neg (by simp [h])]
    have hc2 := hcon x.2 y.2
    rw [e]
    generalize Lib.compareInt x.2 y.2 = r at hc2 ⊢
    clear e hcon
    obtain ⟨x1, x2⟩ := x
    obtain ⟨y1, y2⟩ := y
    simp only at h hc2
    subst h
    go_enter Try.func34, Try.ntmps34
    go_wp2_with (go_at_call 35; refine (hc2 _).mono ?_; rintro e w' ⟨rfl, rfl⟩)
    go_ret
    exact ⟨rfl, 0, _, by rw [alloc_eq_grow, alloc_eq_grow, grow_grow]; rfl⟩
  · have e : cfD x y = Lib.compareInt x.1 y.1 := by unfold cfD; rw [if_pos h]
    have hc2 := hcon x.1 y.1
    rw [e]
    generalize Lib.compareInt x.1 y.1 = r at hc2 ⊢
    clear e hcon
    obtain ⟨x1, x2⟩ := x
    obtain ⟨y1, y2⟩ := y
    simp only at h hc2
    go_enter Try.func34, Try.ntmps34
    go_wp2_with (go_at_call 35; refine (hc2 _).mono ?_; rintro e w' ⟨rfl, rfl⟩)
    go_ret
    exact ⟨rfl, 0, _, by rw [alloc_eq_grow, alloc_eq_grow, grow_grow]; rfl⟩
theorem cmpD (blk off size : Nat) (w : World) : CmpLays Try.prog 34 #[] encP 2 cfD blk off size w := fun _ _ _ _ x y => closureD x y _
set_option maxHeartbeats 1000000 in
set_option maxRecDepth 100000 in
theorem inOrder_any (v : Value) (l : List (Int × Int)) (base : Nat) (w : World) (h : w.ownsRow base 48 2 v l.length (duC l)) (hn : l.length ≤ 1000000000000) :
    Calls Try.prog 26 #[v] w fun e w' => e = .returned v ∧ w'.ownsRow base 48 2 v l.length (duC (srt l)) ∧ w.grownBy w' v.ownBlock := by
  by_cases h0 : l.length = 0
  · obtain rfl := List.eq_nil_of_length_eq_zero h0
    obtain ⟨p, cap, rfl⟩ : ∃ p cap, v = .slice p 0 cap := by
      rcases h.2 with ⟨rfl, _⟩ | ⟨g, cap, cur, rfl, _⟩
      · exact ⟨_, _, rfl⟩
      · exact ⟨_, _, rfl⟩
    have hcon := fun fv => Try.slices_SortFunc_none p cap fv w
    have HH : Hid (w.ownsRow base 48 2 (.slice p 0 cap) ([] : List (Int × Int)).length (duC (srt []))) := by rw [srt_nil]; exact h
    clear h
    go_enter Try.func26, Try.ntmps26
    go_wp2_with (go_at_call 33; refine (hcon _).mono ?_; rintro e w' ⟨rfl, rfl⟩)
    go_ret
    exact ⟨rfl, HH.out, ⟨rfl, rfl, rfl, Nat.le_refl _, fun _ _ _ => rfl⟩⟩
  · rcases h.2 with ⟨rfl, h1⟩ | ⟨g, cap, cur, rfl, hb, hg, h1, h2, h3, h4⟩
    · exact absurd h1 h0
    · have eg : ∀ args w, (callFunc 34 args).run Try.prog w = .ok (.enter 34 args) w := enters_of Try.func34 (by kernel_rfl) rfl
      have hcon := Try.slices_SortFunc_due 2 Try.isAgg48 Try.sizeOf48 encP (fun _ => rfl) encP_cell cfD swoD 34 #[] g 0 cap l.toArray w eg (cmpD g 0 l.toArray.size w) (holds2 hg h4) (Array.getElem?_eq_some_iff.1 hg).1 (by simp; omega) totD
      rw [show l.toArray.toList = l from rfl, sortD, show l.toArray.size = l.length from rfl] at hcon
      have HO : Hid (∀ n os, (sortWorldK encP 2 w g 0 n (srt l).toArray os).ownsRow base 48 2 (.slice (some ⟨g, 0, none⟩) l.length cap) l.length (duC (srt l)) ∧ w.grownBy (sortWorldK encP 2 w g 0 n (srt l).toArray os) (some g)) :=
        fun n os => ⟨own2_sorted (srt_len l) hb hg h1 h2 h3, grownBy_sorted2 _⟩
      clear h hg h4 eg
      generalize (srt l).toArray = r at hcon HO
      go_enter Try.func26, Try.ntmps26
      go_wp2_with (go_at_call 33; refine hcon.mono ?_; rintro e w' ⟨rfl, n, os, rfl⟩)
      go_ret
      exact ⟨rfl, (HO.out n os).1, (HO.out n os).2⟩
end Go.Proofs.Ytdhchfmefdlloaa
