/- What is proved here: contracts of types.stackBehind, types.comesNext, (*types.spot).hand and types.wholeMatch. Conditions: those each theorem states. -/
import Derived.Test.YtkkoekfdncoifaaDoorSm
import Derived.Test.YtkkoekfdncoifaaDoorKn
namespace Go.Proofs.YtkkoekfdncoifaaDoor
open Go.ChangeShapes Go.WideShapes Go.RowKit Go.Maps

theorem wholeMatch_any (a : Option Addr) (n c : Nat) (L : List (Int × Int × Int)) (w : World) (hr : RowI w a n L) (hN : Nms w) :
    Calls Tryd.prog 17 #[.slice a n c] w (GotL (if wE L = 0 then mL L else []) (wE L) w) := by
  have cw := whole_any a n c L w hr hN
  by_cases h0 : wE L = 0
  · rw [if_pos h0]
    have hm := (wE_zero h0).1
    rw [h0] at cw ⊢
    have cm := fun W (h : Below w.heap.size w W) => match_any a n c L W (hr.below h) (hN.below h)
    unfold mA at cm
    rw [if_pos hm, hm] at cm
    have C := Lib.hid cw
    have CM := Lib.hid cm
    clear cw cm hm h0 hr hN
    go_enter Tryd.func17, Tryd.ntmps17
    go_wp2_with (first | (go_at_call 31; refine C.out.mono ?_; rintro e w1 ⟨rfl, hb1⟩) | (go_at_call 14; refine (CM.out _ hb1).mono ?_; rintro e w2 ⟨a2, n2, c2, rfl, hr2, hb2⟩))
    go_ret2
    exact ⟨_, _, _, rfl, hr2, keep_below hb1 hb2⟩
  · rw [if_neg h0]
    obtain ⟨x, hx⟩ : ∃ x, x = wE L := ⟨_, rfl⟩
    rw [← hx] at cw h0 ⊢
    have e1 : (x != 0) = true := by simpa using h0
    have e2 : (x == 0) = false := by simpa using h0
    have C := Lib.hid cw
    clear cw hr hN hx
    go_enter Tryd.func17, Tryd.ntmps17
    go_wp2_with (go_at_call 31; refine C.out.mono ?_; rintro e w1 ⟨rfl, hb1⟩)
    go_ret2
    exact ⟨none, 0, 0, rfl, Row.nil _ _, hb1⟩
/-- The places that may come next, as numbers. -/
def nxI (o x : Int) (p : Nat) : List Int := if o = 25 then [] else if o = 19 then [(p : Int) + 1 + x] else if o = 20 then [(p : Int) + 1, (p : Int) + 1 + x] else [(p : Int) + 1]
theorem comesNext_any (p : Nat) (o x y : Int) (hp : p ≤ 1000) (hx : o = 19 ∨ o = 20 → 0 ≤ x ∧ x ≤ 1000) (w : World) :
    Calls Tryd.prog 21 #[.int .i64 p, .agg #[.int .i64 o, .int .i64 x, .int .i64 y]] w fun e w' => ∃ a n c, e = .returned (.slice a n c) ∧ Row w' a n (nxI o x p) ∧ (∀ g, a = some g → w.heap.size ≤ g.block) ∧ Below w.heap.size w w' := by
  unfold nxI
  have G := below_alloc w (.cells #[.int .i64 o, .int .i64 x, .int .i64 y] 37)
  have hw1 : IntKind.i64.wrap ((p : Int) + 1) = (p : Int) + 1 := IntWalk.i64_in _ (by omega)
  by_cases h25 : o = 25
  · subst h25
    rw [if_pos rfl]
    go_enter Tryd.func21, Tryd.ntmps21
    go_wp2
    go_ret
    exact ⟨none, 0, 0, rfl, Row.nil _ _, fun g h => (by cases h), G⟩
  · rw [if_neg h25]
    have e25 : (o == 25) = false := by simpa using h25
    by_cases h19 : o = 19
    · subst h19
      rw [if_pos rfl]
      have hx2 := hx (Or.inl rfl)
      have hw2 : IntKind.i64.wrap ((p : Int) + 1 + x) = (p : Int) + 1 + x := IntWalk.i64_in _ (by omega)
      clear hx
      go_enter Tryd.func21, Tryd.ntmps21
      go_wp2
      go_ret
      refine ⟨_, _, _, rfl, ?_, fun g h => (by cases h; simp), keep_below G (below_alloc _ _)⟩
      have e := lit_ints (w.alloc (.cells #[.int .i64 19, .int .i64 x, .int .i64 y] 37)) #[.int .i64 ((p : Int) + 1 + x)] [(p : Int) + 1 + x] 1 rfl rfl (by simp)
      rw [show (w.alloc (.cells #[.int .i64 19, .int .i64 x, .int .i64 y] 37)).heap.size = w.heap.size + 1 by simp] at e
      exact e
    · rw [if_neg h19]
      have e19 : (o == 19) = false := by simpa using h19
      by_cases h20 : o = 20
      · subst h20
        rw [if_pos rfl]
        have hx2 := hx (Or.inr rfl)
        have hw2 : IntKind.i64.wrap ((p : Int) + 1 + x) = (p : Int) + 1 + x := IntWalk.i64_in _ (by omega)
        clear hx
        go_enter Tryd.func21, Tryd.ntmps21
        go_wp2
        go_ret
        refine ⟨_, _, _, rfl, ?_, fun g h => (by cases h; simp), keep_below G (below_alloc _ _)⟩
        have e := lit_ints (w.alloc (.cells #[.int .i64 20, .int .i64 x, .int .i64 y] 37)) #[.int .i64 ((p : Int) + 1), .int .i64 ((p : Int) + 1 + x)] [(p : Int) + 1, (p : Int) + 1 + x] 2 rfl rfl (by simp)
        rw [show (w.alloc (.cells #[.int .i64 20, .int .i64 x, .int .i64 y] 37)).heap.size = w.heap.size + 1 by simp] at e
        exact e
      · rw [if_neg h20]
        have e20 : (o == 20) = false := by simpa using h20
        clear hx
        go_enter Tryd.func21, Tryd.ntmps21
        go_wp2
        go_ret
        refine ⟨_, _, _, rfl, ?_, fun g h => (by cases h; simp), keep_below G (below_alloc _ _)⟩
        have e := lit_ints (w.alloc (.cells #[.int .i64 o, .int .i64 x, .int .i64 y] 37)) #[.int .i64 ((p : Int) + 1)] [(p : Int) + 1] 1 rfl rfl (by simp)
        rw [show (w.alloc (.cells #[.int .i64 o, .int .i64 x, .int .i64 y] 37)).heap.size = w.heap.size + 1 by simp] at e
        exact e
/-- The cells of a row of spots. -/
def spV (f : Nat → List UInt8 × Bool × Bool) (i : Nat) : Value := if i % 3 = 0 then .string (bs (f (i / 3)).1) else if i % 3 = 1 then .bool (f (i / 3)).2.1 else .bool (f (i / 3)).2.2
theorem spV_0 (f : Nat → List UInt8 × Bool × Bool) (q : Nat) : spV f (q * 3) = .string (bs (f q).1) := by unfold spV; rw [if_pos (by omega), show q * 3 / 3 = q by omega]
theorem spV_1 (f : Nat → List UInt8 × Bool × Bool) (q : Nat) : spV f (q * 3 + 1) = .bool (f q).2.1 := by unfold spV; rw [if_neg (by omega), if_pos (by omega), show (q * 3 + 1) / 3 = q by omega]
theorem spV_2 (f : Nat → List UInt8 × Bool × Bool) (q : Nat) : spV f (q * 3 + 2) = .bool (f q).2.2 := by unfold spV; rw [if_neg (by omega), if_neg (by omega), show (q * 3 + 2) / 3 = q by omega]
theorem spV_hand (f : Nat → List UInt8 × Bool × Bool) (q : Nat) (s : List UInt8) (i : Nat) :
    spV (hand f q s) i = if i = q * 3 then .string (bs s) else if i = q * 3 + 1 then .bool true else if i = q * 3 + 2 then .bool ((f q).2.2 || ((f q).2.1 && (f q).1 != s)) else spV f i := by
  by_cases h0 : i = q * 3
  · rw [if_pos h0, h0, spV_0]; simp [hand]
  · rw [if_neg h0]
    by_cases h1 : i = q * 3 + 1
    · rw [if_pos h1, h1, spV_1]; simp [hand]
    · rw [if_neg h1]
      by_cases h2 : i = q * 3 + 2
      · rw [if_pos h2, h2, spV_2]; simp [hand]
      · rw [if_neg h2]
        have hq : i / 3 ≠ q := by omega
        unfold spV hand
        rw [if_neg hq]
theorem ne_texts (a b : List UInt8) : (!((bs a).toList == (bs b).toList)) = (a != b) := by rw [bs_toList, bs_toList]; rfl
theorem grown_set (w : World) (b i : Nat) (v : Value) : w.grownBy (w.setCell ⟨b, i, none⟩ v) (some b) :=
  ⟨rfl, rfl, rfl, by simp [World.setCell], fun j _ hj => Go.Deep.blk_setCell_other _ _ _ _ (by intro e; exact hj (by rw [e]))⟩
theorem grown_trans {a b c : World} {r : Option Nat} (h : a.grownBy b r) (k : b.grownBy c r) : a.grownBy c r := h.andThen k (fun _ hj => Or.inr hj)
theorem hand_any (A n q : Nat) (f : Nat → List UInt8 × Bool × Bool) (s : List UInt8) (hq : q < n) (w : World) (hr : w.rowIs A 46 (n * 3) (spV f)) :
    Calls Tryd.prog 19 #[.pointer (some ⟨A, q * 3, none⟩), .string (bs s)] w fun e w' => e = .returned (.tuple #[]) ∧ w'.rowIs A 46 (n * 3) (spV (hand f q s)) ∧ w.grownBy w' (some A) := by
  have c0 := hr.cell (i := q * 3) (by omega)
  have c1 := hr.cell (i := q * 3 + 1) (by omega)
  have c2 := hr.cell (i := q * 3 + 2) (by omega)
  have z0 := hr.frozen (q * 3)
  have z1 := hr.frozen (q * 3 + 1)
  have z2 := hr.frozen (q * 3 + 2)
  have hlt := hr.lt
  rw [spV_0] at c0
  rw [spV_1] at c1
  rw [spV_2] at c2
  have hne := ne_texts (f q).1 s
  have HG := Lib.hid (spV_hand f q s)
  have HR := Lib.hid hr
  clear hr
  cases hh : (f q).2.1
  · rw [hh] at c1 HG
    have H2 := Lib.hid (spV_2 f q)
    clear hh hne
    generalize bs (f q).1 = T at c0
    go_enter Tryd.func19, Tryd.ntmps19
    go_wp2
    refine ⟨rfl, _, results_none rfl _ _ _, rfl, ((HR.out.set (q * 3) (.string (bs s))).set (q * 3 + 1) (.bool true)).congr (fun i _ => ?_), grown_trans (grown_set _ _ _ _) (grown_set _ _ _ _)⟩
    rw [HG.out i]
    by_cases h1 : i = q * 3 + 1
    · rw [if_pos h1, if_neg (by omega), if_pos h1]
    · rw [if_neg h1]
      by_cases h0 : i = q * 3
      · rw [if_pos h0, if_pos h0]
      · rw [if_neg h0, if_neg h0, if_neg h1]
        by_cases h2 : i = q * 3 + 2
        · rw [if_pos h2, h2, H2.out]; simp
        · rw [if_neg h2]
  · rw [hh] at c1 HG
    have H2 := Lib.hid (spV_2 f q)
    clear hh
    cases hd : ((f q).1 != s)
    · rw [hd] at hne HG
      clear hd
      generalize bs (f q).1 = T at c0 hne
      have hne2 : (T.toList == (bs s).toList) = true := by simpa using hne
      go_enter Tryd.func19, Tryd.ntmps19
      go_wp2
      refine ⟨rfl, _, results_none rfl _ _ _, rfl, ((HR.out.set (q * 3) (.string (bs s))).set (q * 3 + 1) (.bool true)).congr (fun i _ => ?_), grown_trans (grown_set _ _ _ _) (grown_set _ _ _ _)⟩
      rw [HG.out i]
      by_cases h1 : i = q * 3 + 1
      · rw [if_pos h1, if_neg (by omega), if_pos h1]
      · rw [if_neg h1]
        by_cases h0 : i = q * 3
        · rw [if_pos h0, if_pos h0]
        · rw [if_neg h0, if_neg h0, if_neg h1]
          by_cases h2 : i = q * 3 + 2
          · rw [if_pos h2, h2, H2.out]; simp
          · rw [if_neg h2]
    · rw [hd] at hne HG
      clear hd
      generalize bs (f q).1 = T at c0 hne
      have hne2 : (T.toList == (bs s).toList) = false := by simpa using hne
      go_enter Tryd.func19, Tryd.ntmps19
      go_wp2
      refine ⟨rfl, _, results_none rfl _ _ _, rfl, (((HR.out.set (q * 3 + 2) (.bool true)).set (q * 3) (.string (bs s))).set (q * 3 + 1) (.bool true)).congr (fun i _ => ?_), grown_trans (grown_trans (grown_set _ _ _ _) (grown_set _ _ _ _)) (grown_set _ _ _ _)⟩
      rw [HG.out i]
      by_cases h1 : i = q * 3 + 1
      · rw [if_pos h1, if_neg (by omega), if_pos h1]
      · rw [if_neg h1]
        by_cases h0 : i = q * 3
        · rw [if_pos h0, if_pos h0]
        · rw [if_neg h0, if_neg h0, if_neg h1]
          by_cases h2 : i = q * 3 + 2
          · rw [if_pos h2, if_pos h2]; simp
          · rw [if_neg h2, if_neg h2]
end Go.Proofs.YtkkoekfdncoifaaDoor
