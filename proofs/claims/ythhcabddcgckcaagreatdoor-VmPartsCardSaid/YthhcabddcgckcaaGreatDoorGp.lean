/- What is proved here: '==' and '!=' of two arrays of eight numbers. Conditions: none. the fixed calls of the laws come out as asked. Condition: the table of names holds what its initialiser lays ('Nms'). -/
import Derived.Test.YthhcabddcgckcaaGreatDoorChecked
import Derived.WalkKit
import Derived.Test.YthhcabddcgckcaaGreatDoorGh
import Derived.Test.YthhcabddcgckcaaGreatDoorGo
import Derived.Test.YthhcabddcgckcaaGreatDoorGi
section
namespace Go.Proofs.YthhcabddcgckcaaGreatDoor
open Go.RowKit

/-- Are eight numbers the same? -/
def eq8 (x0 x1 x2 x3 x4 x5 x6 x7 y0 y1 y2 y3 y4 y5 y6 y7 : Int) : Bool := (x0 == y0 && (x1 == y1 && (x2 == y2 && (x3 == y3 && (x4 == y4 && (x5 == y5 && (x6 == y6 && (x7 == y7))))))))
theorem eq8_in (x0 x1 x2 x3 x4 x5 x6 x7 y0 y1 y2 y3 y4 y5 y6 y7 : Int) (w : World) : (Op.equalIn 10000 24 (.agg #[.int .i64 x0, .int .i64 x1, .int .i64 x2, .int .i64 x3, .int .i64 x4, .int .i64 x5, .int .i64 x6, .int .i64 x7]) (.agg #[.int .i64 y0, .int .i64 y1, .int .i64 y2, .int .i64 y3, .int .i64 y4, .int .i64 y5, .int .i64 y6, .int .i64 y7])).run Tryz.prog w = .ok (eq8 x0 x1 x2 x3 x4 x5 x6 x7 y0 y1 y2 y3 y4 y5 y6 y7) w := by
  have u3 := Tryz.underlying3
  have a3 := Tryz.isAgg3
  have z3 := Tryz.sizeOf3
  unfold eq8
  rw [show (10000 : Nat) = 9999 + 1 from rfl, Op.equalIn]
  simp only [Sem.run_bind, run_underlying Tryz.underlying24, Result.andThen_ok]
  simp only [Std.Legacy.Range.forIn_eq_forIn_range', Std.Legacy.Range.size, Nat.sub_zero, Nat.add_sub_cancel, Nat.div_one, List.range'_succ, List.range'_zero, List.forIn_cons, List.forIn_nil]
  go_simp
  by_cases h0 : x0 = y0
  · rw [if_pos h0]
    by_cases h1 : x1 = y1
    · rw [if_pos h1]
      by_cases h2 : x2 = y2
      · rw [if_pos h2]
        by_cases h3 : x3 = y3
        · rw [if_pos h3]
          by_cases h4 : x4 = y4
          · rw [if_pos h4]
            by_cases h5 : x5 = y5
            · rw [if_pos h5]
              by_cases h6 : x6 = y6
              · rw [if_pos h6]
                by_cases h7 : x7 = y7
                · rw [if_pos h7]
                  simp [h0, h1, h2, h3, h4, h5, h6, h7]
                · rw [if_neg h7]; simp [h0, h1, h2, h3, h4, h5, h6, h7]
              · rw [if_neg h6]; simp [h0, h1, h2, h3, h4, h5, h6]
            · rw [if_neg h5]; simp [h0, h1, h2, h3, h4, h5]
          · rw [if_neg h4]; simp [h0, h1, h2, h3, h4]
        · rw [if_neg h3]; simp [h0, h1, h2, h3]
      · rw [if_neg h2]; simp [h0, h1, h2]
    · rw [if_neg h1]; simp [h0, h1]
  · rw [if_neg h0]; simp [h0]
/-- The same, as the walk meets it. -/
theorem run_eql8 (x0 x1 x2 x3 x4 x5 x6 x7 y0 y1 y2 y3 y4 y5 y6 y7 : Int) (w : World) : (binOp .eql 24 (.agg #[.int .i64 x0, .int .i64 x1, .int .i64 x2, .int .i64 x3, .int .i64 x4, .int .i64 x5, .int .i64 x6, .int .i64 x7]) (.agg #[.int .i64 y0, .int .i64 y1, .int .i64 y2, .int .i64 y3, .int .i64 y4, .int .i64 y5, .int .i64 y6, .int .i64 y7])).run Tryz.prog w = .ok (.bool (eq8 x0 x1 x2 x3 x4 x5 x6 x7 y0 y1 y2 y3 y4 y5 y6 y7)) w := by
  simp only [binOp]
  simp [Op.equal, Op.maxDepth, eq8_in]
theorem run_neq8 (x0 x1 x2 x3 x4 x5 x6 x7 y0 y1 y2 y3 y4 y5 y6 y7 : Int) (w : World) : (binOp .neq 24 (.agg #[.int .i64 x0, .int .i64 x1, .int .i64 x2, .int .i64 x3, .int .i64 x4, .int .i64 x5, .int .i64 x6, .int .i64 x7]) (.agg #[.int .i64 y0, .int .i64 y1, .int .i64 y2, .int .i64 y3, .int .i64 y4, .int .i64 y5, .int .i64 y6, .int .i64 y7])).run Tryz.prog w = .ok (.bool (!eq8 x0 x1 x2 x3 x4 x5 x6 x7 y0 y1 y2 y3 y4 y5 y6 y7)) w := by
  simp only [binOp]
  simp [Op.equal, Op.maxDepth, eq8_in]
theorem eq8_same (x0 x1 x2 x3 x4 x5 x6 x7 : Int) : eq8 x0 x1 x2 x3 x4 x5 x6 x7 x0 x1 x2 x3 x4 x5 x6 x7 = true := by simp [eq8]
end Go.Proofs.YthhcabddcgckcaaGreatDoor
end

section
namespace Go.Proofs.YthhcabddcgckcaaGreatDoor
open Go.ChangeShapes Go.WideShapes Go.RowKit Go.Maps

theorem GotM.ok {L : List (Int × Int × Int)} {w : World} {e : Ending} {w' : World} (h : GotM L w e w') (t : Takes L) :
    ∃ b F, e = .returned (.tuple #[.pointer (some ⟨b, 0, none⟩), .int .i64 0]) ∧ Mac w' F b L fresh ∧ (∀ k, F k → w.heap.size ≤ k) ∧ Below w.heap.size w w' := by
  obtain ⟨hb, h⟩ := h
  rcases h with h | h | h
  · exact absurd t.l h.1
  · exact absurd t.t h.2.1
  · obtain ⟨_, _, b, F, e1, e2, e3⟩ := h; exact ⟨b, F, e1, e2, e3, hb⟩
theorem GotM.bad {L : List (Int × Int × Int)} {w : World} {e : Ending} {w' : World} (h : GotM L w e w') {x : Int} (hx : lE L = x) (h0 : x ≠ 0) :
    e = .returned (.tuple #[.pointer none, .int .i64 x]) ∧ Below w.heap.size w w' := by
  obtain ⟨hb, h⟩ := h
  rw [hx] at h
  rcases h with h | h | h
  · exact ⟨h.2, hb⟩
  · exact absurd h.1 h0
  · exact absurd h.1 h0
theorem mem_lit (w : World) (cs : Array Value) (M : List Int) (h : cs = (M.map (Value.int .i64)).toArray) (hl : M.length = 64) : MemAt (w.alloc (.cells cs 27)) w.heap.size M := by
  refine ⟨hl, ?_⟩
  subst h
  have h := World.rowIs_alloc w (M.map (Value.int .i64)).toArray 27 (fun i => .int .i64 (M.getD i 0)) (fun i hi => by
    simp only [List.size_toArray, List.length_map] at hi
    rw [List.getElem?_toArray, List.getElem?_map, List.getD_eq_getElem?_getD, List.getElem?_eq_getElem hi]; rfl)
  have e : (M.map (Value.int .i64)).toArray.size = 64 := by simpa using hl
  rw [e] at h
  exact h
theorem kX_step (w : World) (F : Nat → Prop) (b mb : Nat) (k : Nat) (t : Int × Int × Int) (ht : told kL (it kL k kX).1 = t) (h : Mac w F b kL (it kL k kX).1) (hm : MemAt w mb (it kL k kX).2) (hF : ¬ F mb) :
    Calls Tryz.prog 18 #[.pointer (some ⟨b, 0, none⟩), .pointer (some ⟨mb, 0, none⟩)] w fun e w' => e = .returned (.tuple #[.agg #[.int .i64 t.1, .int .i64 t.2.1], .int .i64 t.2.2]) ∧
      ∃ F', Mac w' F' b kL (it kL (k + 1) kX).1 ∧ MemAt w' mb (it kL (k + 1) kX).2 ∧ ¬ F' mb ∧ Chg F F' mb w w' := by
  have hx : kX.1 = begun (List.replicate 8 0) kIn := rfl
  have := stepn_any w F b mb kL (it kL k kX) h hm hF (Fine.it (x := kX) (Or.inl (by rw [hx]; exact kL_takes.begun _ _)) kL_takes k) kL_takes
  rw [ht] at this; exact this
theorem Chg.lowB {F F' : Nat → Prop} {x lo : Nat} {w w' : World} (g : Chg F F' x w w') (hF : ∀ k, F k → lo ≤ k) (hx : lo ≤ x) (hl : lo ≤ w.heap.size) : Below lo w w' :=
  ⟨g.os, g.tape, g.output, g.size, fun k hk => g.same k (by omega) (fun h => by have := hF k h; omega) (by omega)⟩
theorem Chg.loF {F F' : Nat → Prop} {x lo : Nat} {w w' : World} (g : Chg F F' x w w') (hF : ∀ k, F k → lo ≤ k) (hl : lo ≤ w.heap.size) : ∀ k, F' k → lo ≤ k := fun k hk => (g.foot k hk).elim (hF k) (fun h => by omega)
theorem k_goes' {k : Nat} (h : k < 15) : (it kL k kX).1.goes = decide (k < 14) := k_goes ⟨k, h⟩
theorem k_told' {k : Nat} (h : k < 14) : ∃ t1 t2, told kL (it kL k kX).1 = (t1, t2, 0) ∧ (k = 13 → t1 = 3) := by
  have := k_told ⟨k, h⟩
  refine ⟨(told kL (it kL k kX).1).1, (told kL (it kL k kX).1).2.1, ?_, fun e => ?_⟩
  · have h2 : (told kL (it kL k kX).1).2.2 = 0 := by
      rw [this]; simp only; split
      · rfl
      · split
        · rfl
        · split <;> rfl
    rw [← h2]
  · subst e; rw [this]; rfl
theorem lit_p (w : World) : RowP (w.alloc (.cells #[.int .i64 1, .int .i64 7] 69)) (some ⟨w.heap.size, 0, none⟩) 1 [(1, 7)] := by
  refine ⟨rfl, fun _ => ⟨w.heap.size, 0, rfl, by simp, fun i hi => ?_⟩⟩
  obtain rfl : i = 0 := by omega
  exact ⟨by simp, by simp⟩
theorem kh_any (w : World) (F : Nat → Prop) (b : Nat) (h : Mac w F b kL (it kL 1 kX).1) : Calls Tryz.prog 17 #[.pointer (some ⟨b, 0, none⟩)] w fun e w' => e = .returned (.int .i64 2) ∧ w = w' := by
  have := held8_any w F b kL _ h
  rw [k_held] at this; exact this
set_option maxHeartbeats 4000000 in
set_option maxRecDepth 100000 in
theorem known8_any (w : World) (hN : Nms w) : Calls Tryz.prog 9 #[] w fun e w' => e = .returned (.bool true) ∧ Below w.heap.size w w' := by
  obtain ⟨CS, hCS⟩ : ∃ CS : Array Value, CS = (cellsI kL).toArray := ⟨_, rfl⟩
  have B0 := below_alloc w (.cells CS 52)
  have hr1 : RowI (w.alloc (.cells CS 52)) (some ⟨w.heap.size, 0, none⟩) 11 kL := lit_row w CS kL 11 rfl (by rw [hCS]) (by decide)
  have N1 := Lib.hid (new_any (some ⟨w.heap.size, 0, none⟩) 11 11 kL _ hr1 (hN.below B0))
  have N2 := Lib.hid (fun W (hb : Below (w.alloc (.cells CS 52)).heap.size (w.alloc (.cells CS 52)) W) => new_any (some ⟨w.heap.size, 3, none⟩) 10 10 (kL.drop 1) W (by
    have h2 := hr1.below hb
    obtain ⟨_, h3⟩ := h2
    obtain ⟨b, off, he, hlt, hc⟩ := h3 (by omega)
    cases he
    refine ⟨rfl, fun _ => ⟨w.heap.size, 3, rfl, hlt, fun i hi => ?_⟩⟩
    have h4 := hc (i + 1) (by omega)
    have e : (kL.drop 1).getD i (0, 0, 0) = kL.getD (i + 1) (0, 0, 0) := by simp [List.getD_eq_getElem?_getD]
    rw [e, show 3 + i * 3 = 0 + (i + 1) * 3 by omega]
    exact h4) ((hN.below B0).below hb))
  have hCS2 : CS = #[.int .i64 23, .int .i64 1, .int .i64 0, .int .i64 15, .int .i64 0, .int .i64 0, .int .i64 1, .int .i64 0, .int .i64 0, .int .i64 5, .int .i64 4, .int .i64 0, .int .i64 18, .int .i64 1, .int .i64 2, .int .i64 21, .int .i64 2, .int .i64 0, .int .i64 15, .int .i64 3, .int .i64 0, .int .i64 16, .int .i64 1, .int .i64 0, .int .i64 22, .int .i64 0, .int .i64 0, .int .i64 24, .int .i64 1, .int .i64 0, .int .i64 25, .int .i64 0, .int .i64 0] := by rw [hCS]; rfl
  subst hCS2
  clear hr1 hN hCS
  go_enter Tryz.func9, Tryz.ntmps9
  have K0 := k_told 0
  have KG := k_goes
  go_wp2_with (first
    | (go_at_call 17; refine (kh_any _ F6 b (h6.alloc _)).mono ?_; rintro e w7 ⟨rfl, rfl⟩)
    | (go_at_call 18; refine (kX_step _ F b w2.heap.size 0 (1, 1, 0) K0 (h4.below b5) (m4.below b5) hF).mono ?_; rintro e w6 ⟨rfl, F6, h6, m6, hF6, g6⟩)
    | (go_at_call 13; refine (start_busy _ F b kL _ _ h4 rfl).mono ?_; rintro e w5 ⟨rfl, b5⟩)
    | (go_at_call 13; refine (start_run _ F b kL fresh kIn (hM3.alloc _) rfl rfl).mono ?_; rintro e w4 ⟨rfl, h4, g4⟩; have m4 : MemAt w4 w2.heap.size kM := (m3.below (below_alloc _ _)).chg g4 hF (by intro e; exact hF (e ▸ hM.fb)))
    | (go_at_call 18; refine (step_idle _ F b kL fresh ((hM.below b2).alloc _) rfl _).mono ?_; rintro e w3 ⟨rfl, b3⟩; have hM3 := ((hM.below b2).alloc _).below b3; have hF : ¬ F w2.heap.size := (fun e => absurd ((hM.below b2).lt _ e) (by omega)); have m3 : MemAt w3 w2.heap.size kM := (mem_lit w2 _ kM rfl rfl).below b3)
    | (go_at_call 10; refine (N2.out _ b1).mono ?_; rintro e w2 hG2; obtain ⟨rfl, b2⟩ := hG2.bad kL_bad (by decide))
    | (go_at_call 10; refine N1.out.mono ?_; rintro e w1 hG; obtain ⟨b, F, rfl, hM, hlo, b1⟩ := hG.ok kL_takes))
  have L6 : ∀ k, F6 k → w.heap.size ≤ k := by
    have a1 : ∀ k, F k → w.heap.size ≤ k := fun k hk => by have := hlo k hk; simp at this; omega
    exact g6.loF a1 (by have := h4.lt b h4.fb; have := a1 b hM.fb; have := b5.size; omega)
  have BL : Below w.heap.size w w6 := by
    have a1 : ∀ k, F k → w.heap.size ≤ k := fun k hk => by have := hlo k hk; simp at this; omega
    have t1 := keep_below B0 b1
    have t2 := keep_below t1 b2
    have t3 := keep_below t2 (keep_below (below_alloc _ _) b3)
    have t4 := keep_below t3 (below_alloc _ (.cells #[.int .i64 0, .int .i64 0] 43))
    have t5 := t4.trans (g4.lowB a1 (a1 b hM.fb) t4.size)
    have t6 := keep_below t5 b5
    exact t6.trans (g6.lowB a1 t2.size t6.size)
  have hE : ¬ F6 w6.heap.size := fun e => absurd (h6.lt _ e) (by omega)
  have hEm : w6.heap.size ≠ w2.heap.size := by have := m6.lt; omega
  have r0 := new_block w6 (.cells #[.int .i64 1, .int .i64 1] 43)
  have h7 := h6.alloc (.cells #[.int .i64 1, .int .i64 1] 43)
  have m7 := m6.below (below_alloc w6 (.cells #[.int .i64 1, .int .i64 1] 43))
  have B7 := keep_below BL (below_alloc w6 (.cells #[.int .i64 1, .int .i64 1] 43))
  have hmb0 : w.heap.size ≤ w2.heap.size := (keep_below (keep_below B0 b1) b2).size
  clear N1 N2 B0 b1 b2 hM hlo b3 hM3 m3 h4 g4 m4 b5 h6 m6 g6 BL hF
  generalize w6.alloc (.cells #[.int .i64 1, .int .i64 1] 43) = W7 at r0 h7 m7 B7 ⊢
  generalize w6.heap.size = EX at hE hEm r0 ⊢
  generalize w2.heap.size = mb at hEm m7 hF6 hmb0 ⊢
  go_loopw [14, 15] (fun nn i wr => ∃ (k : Nat) (F : Nat → Prop), k ≤ 13 ∧ nn = .int .i64 ((k : Int) + 1) ∧ i = .int .i64 (k : Int) ∧ Mac wr F b kL (it kL (k + 1) kX).1 ∧ MemAt wr mb (it kL (k + 1) kX).2 ∧ ¬ F mb ∧ ¬ F EX ∧ (∀ j, F j → w.heap.size ≤ j) ∧ wr.heap[EX]? = some (.cells #[.int .i64 1, .int .i64 1] 43 (0, 0)) ∧ Below w.heap.size w wr) (fun _ i _ => 30 - (intOf i).toNat)
  case atStart => exact ⟨0, F6, by omega, rfl, rfl, h7, m7, hF6, hE, L6, r0, B7⟩
  case round =>
    obtain ⟨k, F, hk, rfl, rfl, hM, hm, hFm, hFE, hFl, hx, hbl⟩ := hrel
    have i1 : (k : Int) < 30 := by omega
    have w1 : IntKind.i64.wrap ((k : Int) + 1 + 1) = (k : Int) + 1 + 1 := by rw [IntKind.wrap_i64]; omega
    have w2' : IntKind.i64.wrap ((k : Int) + 1) = (k : Int) + 1 := by rw [IntKind.wrap_i64]; omega
    have hg := k_goes' (k := k + 1) (by omega)
    have R := running_any wr F b kL _ hM
    rw [hg] at R
    by_cases h13 : k = 13
    · subst h13
      rw [show decide (13 + 1 < 14) = false by decide] at R
      have R := Lib.hid R
      obtain ⟨ke1, ke2⟩ := k_end
      have hM' : Mac wr F b kL (it kL 14 kX).1 := hM
      have hm' : MemAt wr mb (it kL 14 kX).2 := hm
      rw [ke1] at hM'
      rw [ke2] at hm'
      have cm := hm'.2.cell (i := 10) (by omega)
      have CP := Lib.hid (copy_any wr F b kL _ hM' (by decide) (by decide))
      obtain ⟨v, hv⟩ : ∃ v : V, v = { begun (List.replicate 8 0) kIn with goes := false, pl := 11, outs := (List.replicate 16 (false, 0)).set 1 (true, 7), flt := 1, stp := 14 } := ⟨_, rfl⟩
      rw [← hv] at hM' CP
      have v1 : v.stp = 14 := by rw [hv]
      have v2 : v.flt = 1 := by rw [hv]
      have v3 : v.goes = false := by rw [hv]
      have v4 : v.held = 0 := by rw [hv]; rfl
      have v5 : v.stk = [] := by rw [hv]; rfl
      have v6 : v.ret = List.replicate 8 0 := by rw [hv]; rfl
      have v7 : outTo v 16 = [(1, 7)] := by rw [hv]; rfl
      have ST : Hid (∀ W b' F', Mac W F' b' kL v → Calls Tryz.prog 22 #[.pointer (some ⟨b', 0, none⟩)] W fun e w' => e = .returned (.int .i64 14) ∧ W = w') := fun W b' F' h => by
        have := steps_any W F' b' kL v h; rw [v1] at this; exact this
      have FT : Hid (∀ W, Below wr.heap.size wr W → Calls Tryz.prog 23 #[.pointer (some ⟨b, 0, none⟩)] W fun e w' => e = .returned (.int .i64 1) ∧ W = w') := fun W h => by
        have := faults_any W F b kL v (hM'.below h); rw [v2] at this; exact this
      have AT : Hid (∀ W, Below wr.heap.size wr W → Calls Tryz.prog 15 #[.pointer (some ⟨b, 0, none⟩)] W fun e w' => e = .returned (.int .i64 (-1)) ∧ W = w') := fun W h => by
        have := at_any W F b kL v (hM'.below h); rw [v3, if_neg (by simp)] at this; exact this
      have HT : Hid (∀ W, Below wr.heap.size wr W → Calls Tryz.prog 17 #[.pointer (some ⟨b, 0, none⟩)] W fun e w' => e = .returned (.int .i64 0) ∧ W = w') := fun W h => by
        have := held8_any W F b kL v (hM'.below h); rw [v4] at this; exact this
      have SK : Hid (∀ W, Below wr.heap.size wr W → Calls Tryz.prog 16 #[.pointer (some ⟨b, 0, none⟩)] W fun e w' => ∃ a c, e = .returned (.slice a 0 c) ∧ Below W.heap.size W w') := fun W h => by
        refine (stack_any W F b kL v (hM'.below h) (by rw [v5]; decide)).mono ?_
        rintro e w' ⟨a, n, c, rfl, hr, hb⟩
        have hn : n = 0 := by rw [hr.1, v5]; rfl
        subst hn
        exact ⟨a, c, rfl, hb⟩
      have RT : Hid (∀ W, Below wr.heap.size wr W → Calls Tryz.prog 20 #[.pointer (some ⟨b, 0, none⟩)] W fun e w' => e = .returned (.agg #[.int .i64 0, .int .i64 0, .int .i64 0, .int .i64 0, .int .i64 0, .int .i64 0, .int .i64 0, .int .i64 0]) ∧ Below W.heap.size W w') := fun W h => by
        have := retained_any W F b kL v (hM'.below h); rw [v6] at this; exact this
      have OT : Hid (∀ W, Below wr.heap.size wr W → Calls Tryz.prog 19 #[.pointer (some ⟨b, 0, none⟩)] W fun e w' => ∃ a c, e = .returned (.slice a 1 c) ∧ RowP w' a 1 [(1, 7)] ∧ Below W.heap.size W w') := fun W h => by
        refine (outs_any W F b kL v (hM'.below h)).mono ?_
        rintro e w' ⟨x, rfl, ho, hb⟩
        rw [v7] at ho
        obtain ⟨a, c, rfl, hr⟩ := RowP.own ho
        exact ⟨a, c, rfl, hr, hb⟩
      have HM := Lib.hid hM'
      have hEs := (Array.getElem?_eq_some_iff.1 hx).1
      have q8 := fun W => run_eql8 0 0 0 0 0 0 0 0 0 0 0 0 0 0 0 0 W
      simp only [eq8_same] at q8
      have bne : ∀ bc : Nat, True := fun _ => trivial
      clear hv v1 v2 v3 v4 v5 v6 v7 hg hM hm hM' hm' ke1 ke2 bne
      go_wp2_with (first
        | (go_at_call 22; refine (ST.out _ bc Fc (hC.below (B38.trans (Below.refl _ _)))).mono ?_; rintro e w9 ⟨rfl, rfl⟩)
        | (go_at_call 20; refine (RT.out _ (b3.trans (B37.mono b3.size))).mono ?_; rintro e w8 ⟨rfl, b8⟩; have B38 := keep_below B37 b8)
        | (go_at_call 16; refine (SK.out _ (b3.trans (B36.mono b3.size))).mono ?_; rintro e w7 ⟨sa, sc, rfl, b7⟩; have B37 := keep_below B36 b7)
        | (go_at_call 17; refine (HT.out _ (b3.trans (B36.mono b3.size))).mono ?_; rintro e w7' ⟨rfl, rfl⟩)
        | (go_at_call 15; refine (AT.out _ (b3.trans (B36.mono b3.size))).mono ?_; rintro e w7'' ⟨rfl, rfl⟩)
        | (go_at_call 25; refine (same8_eq _ _ 1 _ _ [(1, 7)] _ (p5.below (below_alloc w5 (.cells #[.int .i64 1, .int .i64 7] 69))) (lit_p w5) (by omega)).mono ?_; rintro e w6 ⟨rfl, b6⟩; have B36 := keep_below (keep_below B35 (below_alloc w5 (.cells #[.int .i64 1, .int .i64 7] 69))) b6)
        | (go_at_call 26; refine (outs26_any _ 1 _ [(1, 7)] _ p4 (by omega)).mono ?_; rintro e w5 ⟨a5, n5, c5, rfl, p5, b5'⟩; obtain rfl : n5 = 1 := p5.1; have B35 := keep_below b4' b5')
        | (go_at_call 19; refine (OT.out _ b3).mono ?_; rintro e w4 ⟨a4, c4, rfl, p4, b4'⟩)
        | (go_at_call 23; refine (FT.out _ b3).mono ?_; rintro e w3'' ⟨rfl, rfl⟩)
        | (go_at_call 22; refine (ST.out _ b F (HM.out.below b3)).mono ?_; rintro e w3' ⟨rfl, rfl⟩)
        | (go_at_call 24; refine CP.out.mono ?_; rintro e w3 ⟨bc, Fc, rfl, hC, b3⟩; have hx3 := (b3.block EX hEs).trans hx; have q0 := (Lib.cell_of_heap hx3 0).trans (rfl : _ = some (Value.int .i64 1)); have q1 := (Lib.cell_of_heap hx3 1).trans (rfl : _ = some (Value.int .i64 1)); have cm3 : w3.cell? ⟨mb, 10, none⟩ = some (.int .i64 0) := keep_cell b3 cm; clear hx3)
        | (go_at_call 14; refine R.out.mono ?_; rintro e w8 ⟨rfl, rfl⟩))
      go_ret
      exact ⟨rfl, hbl.trans (b3.mono (hbl.size) |>.trans (B38.mono (Nat.le_trans hbl.size b3.size)))⟩
    · rw [show decide (k + 1 < 14) = true from by rw [decide_eq_true_eq]; omega] at R
      have R := Lib.hid R
      obtain ⟨t1, t2, ht, ht13⟩ := k_told' (k := k + 1) (by omega)
      have S := Lib.hid (kX_step wr F b mb (k + 1) (t1, t2, 0) ht hM hm hFm)
      have hEs := (Array.getElem?_eq_some_iff.1 hx).1
      have R2 : Hid (∀ W F2, Mac W F2 b kL (it kL (k + 1 + 1) kX).1 → Calls Tryz.prog 14 #[.pointer (some ⟨b, 0, none⟩)] W fun e w' => e = .returned (.bool (decide (k + 1 + 1 < 14))) ∧ W = w') := by
        intro W F2 h2
        have := running_any W F2 b kL _ h2
        rw [k_goes' (by omega)] at this; exact this
      have NX : Hid (∀ F3 w3 cs, Chg F F3 mb wr w3 → ¬ F3 EX ∧ (∀ j, F3 j → w.heap.size ≤ j) ∧ (w3.alloc (.cells cs 43)).heap[EX]? = some (.cells #[.int .i64 1, .int .i64 1] 43 (0, 0)) ∧ Below w.heap.size w (w3.alloc (.cells cs 43))) := by
        intro F3 w3 cs g3
        have t := hbl.trans (g3.lowB hFl hmb0 hbl.size)
        have e1 := (g3.same EX hEs hFE hEm).trans hx
        exact ⟨g3.out hEs hFE, g3.loF hFl hbl.size, (Go.Deep.blk_alloc_lt _ _ _ (Array.getElem?_eq_some_iff.1 e1).1).trans e1, keep_below t (below_alloc _ _)⟩
      by_cases h12 : k = 12
      · obtain rfl := ht13 (by omega)
        rw [show decide (k + 1 + 1 < 14) = false from by rw [decide_eq_false_iff_not]; omega] at R2
        have H12 := Lib.hid h12
        clear hg hM hm ht ht13 hx hbl hFl h12 h13
        go_wp2_with (first
          | (go_at_call 14; refine (R2.out _ F3 ((h3.alloc _))).mono ?_; rintro e w9 ⟨rfl, rfl⟩)
          | (go_at_call 18; refine S.out.mono ?_; rintro e w3 ⟨rfl, F3, h3, m3, hF3, g3⟩)
          | (go_at_call 14; refine R.out.mono ?_; rintro e w8 ⟨rfl, rfl⟩))
        go_roundw
        case rel =>
          obtain ⟨n1, n2, n3, n4⟩ := NX.out F3 w3 _ g3
          exact ⟨k + 1, F3, by have := H12.out; omega, by go_num, by go_num, h3.alloc _, m3.below (below_alloc _ _), hF3, n1, n2, n3, n4⟩
        case measure => simp [intOf]; omega
      · rw [show decide (k + 1 + 1 < 14) = true from by rw [decide_eq_true_eq]; omega] at R2
        clear hg hM hm ht ht13 hx hbl hFl
        go_wp2_with (first
          | (go_at_call 14; refine (R2.out _ F3 ((h3.alloc _))).mono ?_; rintro e w9 ⟨rfl, rfl⟩)
          | (go_at_call 18; refine S.out.mono ?_; rintro e w3 ⟨rfl, F3, h3, m3, hF3, g3⟩)
          | (go_at_call 14; refine R.out.mono ?_; rintro e w8 ⟨rfl, rfl⟩))
        go_roundw
        case rel =>
          obtain ⟨n1, n2, n3, n4⟩ := NX.out F3 w3 _ g3
          exact ⟨k + 1, F3, by omega, by go_num, by go_num, h3.alloc _, m3.below (below_alloc _ _), hF3, n1, n2, n3, n4⟩
        case measure => simp [intOf]; omega
end Go.Proofs.YthhcabddcgckcaaGreatDoor
end
