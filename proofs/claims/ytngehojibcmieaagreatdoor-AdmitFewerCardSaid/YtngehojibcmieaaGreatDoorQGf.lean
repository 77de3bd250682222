/- What is proved here: contracts of types' twice, turned, reckoned, fitsOne and fits. Conditions: texts are not too long. contracts of types.stackBehind, types.comesNext, (*types.spot).hand and types.wholeMatch. Conditions: those each theorem states. facts for the walk of types.Stacks: how its rows are made and kept. contracts of types.Takes and types.Gives. Conditions: the table of names holds what its initialiser lays ('Nms'); texts are not too long. plain facts on what one instruction takes and gives. -/
import Derived.Test.YtngehojibcmieaaGreatDoorQGe
import Derived.StillTailTactics
import Derived.Test.YtngehojibcmieaaGreatDoorQGk
import Derived.Deep.CutRange
set_option maxRecDepth 100000
set_option maxHeartbeats 8000000
section
section
namespace Go.Proofs.YtngehojibcmieaaGreatDoor
open Go.ChangeShapes Go.WideShapes Go.RowKit Go.Maps
theorem twice_any (a : Int) (t : List UInt8) (ht : t.length ≤ 1000) (w : World) : Calls Tryz.prog 240 #[.int .i64 a, .string (bs t)] w fun e w' => e = .returned (.string (bs (t ++ t))) ∧ w = w' := by
 have hs := bs_size t
 rw [← bs_append]
 generalize bs t = s at hs ⊢
 have hcat : ¬ (9223372036854775807 < s.size + s.size) := by omega
 clear hs
 go_enter Tryz.func240, Tryz.ntmps240
 go_wp2
 go_ret
 exact ⟨rfl, rfl⟩
theorem turned_any (a : Int) (t : List UInt8) (h1 : 1 ≤ t.length) (ht : t.length ≤ 1000) (w : World) : Calls Tryz.prog 241 #[.int .i64 a, .string (bs t)] w fun e w' => e = .returned (.string (bs (t.drop 1 ++ t.take 1))) ∧ Below w.heap.size w w' := by
 have hs := bs_size t
 rw [← bs_append]
 have e1 : (bs t).extract 1 (bs t).size = bs (t.drop 1) := by rw [bs_extract, bs_size, List.take_length]
 have e2 : (bs t).extract 0 1 = bs (t.take 1) := by rw [bs_extract, List.drop_zero]
 have s1 : (bs (t.drop 1)).size ≤ 1000 := by rw [bs_size, List.length_drop]; omega
 have s2 : (bs (t.take 1)).size ≤ 1000 := by rw [bs_size, List.length_take]; omega
 generalize bs (t.drop 1) = p at e1 s1 ⊢
 generalize bs (t.take 1) = q at e2 s2 ⊢
 generalize bs t = s at hs e1 e2 ⊢
 have hcat : ¬ (9223372036854775807 < p.size + q.size) := by omega
 have hg : (1 : Int) ≤ (s.size : Int) := by omega
 clear hs h1 ht
 go_enter Tryz.func241, Tryz.ntmps241
 go_wp2
 go_quiet (fail)
 go_wp2
 go_ret
 exact ⟨rfl, ⟨rfl, rfl, rfl, Nat.le_refl _, fun _ _ => rfl⟩⟩
theorem reckoned_any (a : Int) (s : ByteArray) (w : World) : Calls Tryz.prog 242 #[.int .i64 a, .string s] w fun e w' => e = .returned (.string (bs (if a = 11 ∨ a = 12 then [98] else [105]))) ∧ w = w' := by
 by_cases h1 : a = 11
 ·subst h1
  go_enter Tryz.func242, Tryz.ntmps242
  go_wp2
  go_ret
  exact ⟨rfl, rfl⟩
 ·by_cases h2 : a = 12
  ·subst h2
   go_enter Tryz.func242, Tryz.ntmps242
   go_wp2
   go_ret
   exact ⟨rfl, rfl⟩
  ·rw [if_neg (by omega)]
   have e1 : (a == 11) = false := by simpa using h1
   have e2 : (a == 12) = false := by simpa using h2
   go_enter Tryz.func242, Tryz.ntmps242
   go_wp2
   go_ret
   exact ⟨rfl, rfl⟩
theorem one_eq (x y : UInt8) : ((bs [x]).toList == (bs [y]).toList) = (x == y) := by
 rw [bs_toList, bs_toList]; simp
theorem one_ne (x y : UInt8) (h : x ≠ y) : ((bs [x]).toList == [y]) = false ∧ ¬ (bs [x]).toList = [y] := by
 rw [bs_toList]; simp [h]
theorem fitsOne_any (x y : UInt8) (w : World) : Calls Tryz.prog 247 #[.string (bs [x]), .string (bs [y])] w fun e w' => e = .returned (.bool (fit1 x y)) ∧ w = w' := by
 unfold fit1
 by_cases hy : y = 32
 ·subst hy
  rw [if_pos rfl]
  have e1 : ((bs [32]).toList == [32]) = true := by rw [bs_toList]; rfl
  by_cases h1 : x = 105
  ·subst h1
   have e2 : ((bs [105]).toList == [105]) = true := by rw [bs_toList]; rfl
   have e3 : (bs [105]).toList = [105] := by rw [bs_toList]
   go_enter Tryz.func247, Tryz.ntmps247
   go_wp2
   go_ret
   exact ⟨rfl, rfl⟩
  ·obtain ⟨e2, e3⟩ := one_ne x 105 h1
   have e5 : (x == 105) = false := by simpa using h1
   by_cases h2 : x = 98
   ·subst h2
    have e6 : ((bs [98]).toList == [98]) = true := by rw [bs_toList]; rfl
    go_enter Tryz.func247, Tryz.ntmps247
    go_wp2
    go_ret
    exact ⟨rfl, rfl⟩
   ·obtain ⟨e6, e7⟩ := one_ne x 98 h2
    have e8 : (x == 98) = false := by simpa using h2
    rw [e5, e8]
    clear h1 h2 e5 e8
    go_enter Tryz.func247, Tryz.ntmps247
    go_wp2
    go_ret
    exact ⟨rfl, rfl⟩
 ·rw [if_neg hy]
  obtain ⟨e1, e2⟩ := one_ne y 32 hy
  have e4 := one_eq x y
  cases h3 : (x == y)
  ·rw [h3] at e4
   clear h3 hy
   go_enter Tryz.func247, Tryz.ntmps247
   go_wp2
   go_ret
   exact ⟨by rw [← e4]; rfl, rfl⟩
  ·rw [h3] at e4
   clear h3 hy
   go_enter Tryz.func247, Tryz.ntmps247
   go_wp2
   go_ret
   exact ⟨by rw [← e4]; rfl, rfl⟩
theorem fit_len {t u : List UInt8} (h : fit t u = true) : t.length = u.length := by
 induction t generalizing u with
 | nil => cases u with
  | nil => rfl
  | cons y u => simp [fit] at h
 | cons x t ih => cases u with
  | nil => simp [fit] at h
  | cons y u => simp only [fit, Bool.and_eq_true] at h; simp [ih h.2]
theorem fit_ne {t u : List UInt8} (h : t.length ≠ u.length) : fit t u = false := by
 cases hf : fit t u
 ·rfl
 ·exact absurd (fit_len hf) h
theorem drop_cons {l : List UInt8} {k : Nat} (h : k < l.length) : l.drop k = l[k] :: l.drop (k + 1) := List.drop_eq_getElem_cons h
theorem one_at {l : List UInt8} {k : Nat} (h : k < l.length) : (bs l).extract k (k + 1) = bs [l[k]] := by
 rw [bs_extract, List.drop_take]
 congr 1
 rw [drop_cons h, show k + 1 - k = 1 by omega]; rfl
theorem fits_any (t u : List UInt8) (ht : t.length ≤ 1000000) (w : World) : Calls Tryz.prog 243 #[.string (bs t), .string (bs u)] w fun e w' => e = .returned (.bool (fit t u)) ∧ Below w.heap.size w w' := by
 have s1 := bs_size t
 have s2 := bs_size u
 by_cases hl : t.length = u.length
 ·obtain ⟨R, hR⟩ : ∃ R, R = fit t u := ⟨_, rfl⟩
  rw [← hR]
  have H0 : Hid (R = fit (t.drop 0) (u.drop 0)) := by show _ = _; rw [hR]; rfl
  have HT := Lib.hid (fun k => one_at (l := t) (k := k))
  have HU := Lib.hid (fun k => one_at (l := u) (k := k))
  obtain ⟨s, hs⟩ : ∃ s, s = bs t := ⟨_, rfl⟩
  obtain ⟨r, hr⟩ : ∃ r, r = bs u := ⟨_, rfl⟩
  rw [← hs] at s1 HT ⊢
  rw [← hr] at s2 HU ⊢
  have hsz : s.size = r.size := by omega
  have e0 : ((s.size : Int) != (r.size : Int)) = false := by simp [hsz]
  clear hR hs hr
  have HS1 := Lib.hid s1
  have HS2 := Lib.hid s2
  have hm : r.size ≤ 1000000 := by omega
  have hm2 : s.size ≤ 1000000 := by omega
  clear s1 s2 hl
  have HZ := Lib.hid hsz
  clear hsz
  go_enter Tryz.func243, Tryz.ntmps243
  go_wp2
  go_loopw [13] (fun i wr => ∃ k : Nat, k ≤ r.size ∧ i = .int .i64 k ∧ Hid (R = fit (t.drop k) (u.drop k)) ∧ Below w.heap.size w wr) (fun i _ => r.size - (intOf i).toNat)
  case atStart => exact ⟨0, by omega, rfl, H0, Below.refl _ _⟩
  case round =>
   clear H0
   obtain ⟨k, hk, rfl, HR, hbl⟩ := hrel
   by_cases hlt : k < r.size
   ·have k1 : k < t.length := by rw [← HS1.out, HZ.out]; exact hlt
    have k2 : k < u.length := by rw [← HS2.out]; exact hlt
    have hlt1 : k < s.size := by rw [HZ.out]; exact hlt
    have x1 := HT.out k k1
    have x2 := HU.out k k2
    have HR2 := HR.out
    rw [drop_cons k1, drop_cons k2] at HR2
    generalize t[k] = x at x1 HR2
    generalize u[k] = y at x2 HR2
    have C := fitsOne_any x y
    generalize bs [x] = X at x1 C
    generalize bs [y] = Y at x2 C
    have g1 : (0 : Int) ≤ (k : Int) := by omega
    have g2 : (k : Int) + 1 ≤ (s.size : Int) := by omega
    have g3 : (k : Int) + 1 ≤ (r.size : Int) := by omega
    cases hv : fit1 x y
    ·rw [hv] at C
     have HQ : Hid (R = false) := by show _ = _; rw [HR2, fit, hv]; rfl
     have HC := Lib.hid C
     clear C HR2 hv HR
     go_wp2
     go_quiet (exact Calls.quiet_of_same ((HC.out _).mono (fun e w' h => ⟨h.1, h.2.symm⟩)))
     go_wp2
     go_ret
     exact ⟨by rw [HQ.out]; rfl, hbl.trans ⟨rfl, rfl, rfl, Nat.le_refl _, fun _ _ => rfl⟩⟩
    ·rw [hv] at C
     have HR3 : Hid (R = fit (t.drop (k + 1)) (u.drop (k + 1))) := by show _ = _; rw [HR2, fit, hv]; rfl
     have HC := Lib.hid C
     clear C HR2 hv HR
     go_wp2
     go_quiet (exact Calls.quiet_of_same ((HC.out _).mono (fun e w' h => ⟨h.1, h.2.symm⟩)))
     go_wp2
     go_roundw
     case rel => exact ⟨k + 1, by omega, by go_num, HR3, hbl.trans ⟨rfl, rfl, rfl, Nat.le_refl _, fun _ _ => rfl⟩⟩
     case measure => simp [intOf]; omega
   ·have HQ : Hid (R = true) := by
     show _ = _
     rw [HR.out, List.drop_eq_nil_of_le (by rw [← HS1.out, HZ.out]; omega), List.drop_eq_nil_of_le (by rw [← HS2.out]; omega)]; rfl
    go_wp2
    go_ret
    exact ⟨by rw [HQ.out]; rfl, hbl⟩
 ·rw [fit_ne hl]
  generalize bs t = s at s1 ⊢
  generalize bs u = r at s2 ⊢
  have e0 : ((s.size : Int) != (r.size : Int)) = true := by simp; omega
  have e1 : ¬ s.size = r.size := by omega
  clear s1 s2 hl
  go_enter Tryz.func243, Tryz.ntmps243
  go_wp2
  go_ret
  exact ⟨rfl, Below.refl _ _⟩
end Go.Proofs.YtngehojibcmieaaGreatDoor
end
section
namespace Go.Proofs.YtngehojibcmieaaGreatDoor
open Go.ChangeShapes Go.WideShapes Go.RowKit Go.Maps
theorem wholeMatch_any (a : Option Addr) (n c : Nat) (L : List (Int × Int × Int)) (w : World) (hr : RowI w a n L) (hN : Nms w) :
  Calls Tryz.prog 221 #[.slice a n c] w (GotL (if wE L = 0 then mL L else []) (wE L) w) := by
 have cw := whole_any a n c L w hr hN
 by_cases h0 : wE L = 0
 ·rw [if_pos h0]
  have hm := (wE_zero h0).1
  rw [h0] at cw ⊢
  have cm := fun W (h : Below w.heap.size w W) => match_any a n c L W (hr.below h) (hN.below h)
  unfold mA at cm
  rw [if_pos hm, hm] at cm
  have C := Lib.hid cw
  have CM := Lib.hid cm
  clear cw cm hm h0 hr hN
  go_enter Tryz.func221, Tryz.ntmps221
  go_wp2_with (first | (go_at_call 190; refine C.out.mono ?_; rintro e w1 ⟨rfl, hb1⟩) | (go_at_call 186; refine (CM.out _ hb1).mono ?_; rintro e w2 ⟨a2, n2, c2, rfl, hr2, hb2⟩))
  go_ret2
  exact ⟨_, _, _, rfl, hr2, keep_below hb1 hb2⟩
 ·rw [if_neg h0]
  obtain ⟨x, hx⟩ : ∃ x, x = wE L := ⟨_, rfl⟩
  rw [← hx] at cw h0 ⊢
  have e1 : (x != 0) = true := by simpa using h0
  have e2 : (x == 0) = false := by simpa using h0
  have C := Lib.hid cw
  clear cw hr hN hx
  go_enter Tryz.func221, Tryz.ntmps221
  go_wp2_with (go_at_call 190; refine C.out.mono ?_; rintro e w1 ⟨rfl, hb1⟩)
  go_ret2
  exact ⟨none, 0, 0, rfl, Row.nil _ _, hb1⟩
def nxI (o x : Int) (p : Nat) : List Int := if o = 25 then [] else if o = 19 then [(p : Int) + 1 + x] else if o = 20 then [(p : Int) + 1, (p : Int) + 1 + x] else [(p : Int) + 1]
theorem comesNext_any (p : Nat) (o x y : Int) (hp : p ≤ 1000) (hx : o = 19 ∨ o = 20 → 0 ≤ x ∧ x ≤ 1000) (w : World) :
  Calls Tryz.prog 225 #[.int .i64 p, .agg #[.int .i64 o, .int .i64 x, .int .i64 y]] w fun e w' => ∃ a n c, e = .returned (.slice a n c) ∧ Row w' a n (nxI o x p) ∧ (∀ g, a = some g → w.heap.size ≤ g.block) ∧ Below w.heap.size w w' := by
 unfold nxI
 have G := below_alloc w (.cells #[.int .i64 o, .int .i64 x, .int .i64 y] 103)
 have hw1 : IntKind.i64.wrap ((p : Int) + 1) = (p : Int) + 1 := IntWalk.i64_in _ (by omega)
 by_cases h25 : o = 25
 ·subst h25
  rw [if_pos rfl]
  go_enter Tryz.func225, Tryz.ntmps225
  go_wp2
  go_ret
  exact ⟨none, 0, 0, rfl, Row.nil _ _, fun g h => (by cases h), G⟩
 ·rw [if_neg h25]
  have e25 : (o == 25) = false := by simpa using h25
  by_cases h19 : o = 19
  ·subst h19
   rw [if_pos rfl]
   have hx2 := hx (Or.inl rfl)
   have hw2 : IntKind.i64.wrap ((p : Int) + 1 + x) = (p : Int) + 1 + x := IntWalk.i64_in _ (by omega)
   clear hx
   go_enter Tryz.func225, Tryz.ntmps225
   go_wp2
   go_ret
   refine ⟨_, _, _, rfl, ?_, fun g h => (by cases h; simp), keep_below G (below_alloc _ _)⟩
   have e := lit_ints (w.alloc (.cells #[.int .i64 19, .int .i64 x, .int .i64 y] 103)) #[.int .i64 ((p : Int) + 1 + x)] [(p : Int) + 1 + x] 1 rfl rfl (by simp)
   rw [show (w.alloc (.cells #[.int .i64 19, .int .i64 x, .int .i64 y] 103)).heap.size = w.heap.size + 1 by simp] at e
   exact e
  ·rw [if_neg h19]
   have e19 : (o == 19) = false := by simpa using h19
   by_cases h20 : o = 20
   ·subst h20
    rw [if_pos rfl]
    have hx2 := hx (Or.inr rfl)
    have hw2 : IntKind.i64.wrap ((p : Int) + 1 + x) = (p : Int) + 1 + x := IntWalk.i64_in _ (by omega)
    clear hx
    go_enter Tryz.func225, Tryz.ntmps225
    go_wp2
    go_ret
    refine ⟨_, _, _, rfl, ?_, fun g h => (by cases h; simp), keep_below G (below_alloc _ _)⟩
    have e := lit_ints (w.alloc (.cells #[.int .i64 20, .int .i64 x, .int .i64 y] 103)) #[.int .i64 ((p : Int) + 1), .int .i64 ((p : Int) + 1 + x)] [(p : Int) + 1, (p : Int) + 1 + x] 2 rfl rfl (by simp)
    rw [show (w.alloc (.cells #[.int .i64 20, .int .i64 x, .int .i64 y] 103)).heap.size = w.heap.size + 1 by simp] at e
    exact e
   ·rw [if_neg h20]
    have e20 : (o == 20) = false := by simpa using h20
    clear hx
    go_enter Tryz.func225, Tryz.ntmps225
    go_wp2
    go_ret
    refine ⟨_, _, _, rfl, ?_, fun g h => (by cases h; simp), keep_below G (below_alloc _ _)⟩
    have e := lit_ints (w.alloc (.cells #[.int .i64 o, .int .i64 x, .int .i64 y] 103)) #[.int .i64 ((p : Int) + 1)] [(p : Int) + 1] 1 rfl rfl (by simp)
    rw [show (w.alloc (.cells #[.int .i64 o, .int .i64 x, .int .i64 y] 103)).heap.size = w.heap.size + 1 by simp] at e
    exact e
def spV (f : Nat → List UInt8 × Bool × Bool) (i : Nat) : Value := if i % 3 = 0 then .string (bs (f (i / 3)).1) else if i % 3 = 1 then .bool (f (i / 3)).2.1 else .bool (f (i / 3)).2.2
theorem spV_0 (f : Nat → List UInt8 × Bool × Bool) (q : Nat) : spV f (q * 3) = .string (bs (f q).1) := by unfold spV; rw [if_pos (by omega), show q * 3 / 3 = q by omega]
theorem spV_1 (f : Nat → List UInt8 × Bool × Bool) (q : Nat) : spV f (q * 3 + 1) = .bool (f q).2.1 := by unfold spV; rw [if_neg (by omega), if_pos (by omega), show (q * 3 + 1) / 3 = q by omega]
theorem spV_2 (f : Nat → List UInt8 × Bool × Bool) (q : Nat) : spV f (q * 3 + 2) = .bool (f q).2.2 := by unfold spV; rw [if_neg (by omega), if_neg (by omega), show (q * 3 + 2) / 3 = q by omega]
theorem spV_hand (f : Nat → List UInt8 × Bool × Bool) (q : Nat) (s : List UInt8) (i : Nat) :
  spV (hand f q s) i = if i = q * 3 then .string (bs s) else if i = q * 3 + 1 then .bool true else if i = q * 3 + 2 then .bool ((f q).2.2 || ((f q).2.1 && (f q).1 != s)) else spV f i := by
 by_cases h0 : i = q * 3
 ·rw [if_pos h0, h0, spV_0]; simp [hand]
 ·rw [if_neg h0]
  by_cases h1 : i = q * 3 + 1
  ·rw [if_pos h1, h1, spV_1]; simp [hand]
  ·rw [if_neg h1]
   by_cases h2 : i = q * 3 + 2
   ·rw [if_pos h2, h2, spV_2]; simp [hand]
   ·rw [if_neg h2]
    have hq : i / 3 ≠ q := by omega
    unfold spV hand
    rw [if_neg hq]
theorem ne_texts (a b : List UInt8) : (!((bs a).toList == (bs b).toList)) = (a != b) := by rw [bs_toList, bs_toList]; rfl
theorem grown_set (w : World) (b i : Nat) (v : Value) : w.grownBy (w.setCell ⟨b, i, none⟩ v) (some b) :=
 ⟨rfl, rfl, rfl, by simp [World.setCell], fun j _ hj => Go.Deep.blk_setCell_other _ _ _ _ (by intro e; exact hj (by rw [e]))⟩
theorem grown_tr {a b c : World} {r : Option Nat} (h : a.grownBy b r) (k : b.grownBy c r) : a.grownBy c r := h.andThen k (fun _ hj => Or.inr hj)
theorem hand_any (A n q : Nat) (f : Nat → List UInt8 × Bool × Bool) (s : List UInt8) (hq : q < n) (w : World) (hr : w.rowIs A 252 (n * 3) (spV f)) :
  Calls Tryz.prog 223 #[.pointer (some ⟨A, q * 3, none⟩), .string (bs s)] w fun e w' => e = .returned (.tuple #[]) ∧ w'.rowIs A 252 (n * 3) (spV (hand f q s)) ∧ w.grownBy w' (some A) := by
 have c0 := hr.cell (i := q * 3) (by omega)
 have c1 := hr.cell (i := q * 3 + 1) (by omega)
 have c2 := hr.cell (i := q * 3 + 2) (by omega)
 have z0 := hr.frozen (q * 3)
 have z1 := hr.frozen (q * 3 + 1)
 have z2 := hr.frozen (q * 3 + 2)
 have hlt := hr.lt
 rw [spV_0] at c0
 rw [spV_1] at c1
 rw [spV_2] at c2
 have hne := ne_texts (f q).1 s
 have HG := Lib.hid (spV_hand f q s)
 have HR := Lib.hid hr
 clear hr
 cases hh : (f q).2.1
 ·rw [hh] at c1 HG
  have H2 := Lib.hid (spV_2 f q)
  clear hh hne
  generalize bs (f q).1 = T at c0
  go_enter Tryz.func223, Tryz.ntmps223
  go_wp2
  refine ⟨rfl, _, results_none rfl _ _ _, rfl, ((HR.out.set (q * 3) (.string (bs s))).set (q * 3 + 1) (.bool true)).congr (fun i _ => ?_), grown_tr (grown_set _ _ _ _) (grown_set _ _ _ _)⟩
  rw [HG.out i]
  by_cases h1 : i = q * 3 + 1
  ·rw [if_pos h1, if_neg (by omega), if_pos h1]
  ·rw [if_neg h1]
   by_cases h0 : i = q * 3
   ·rw [if_pos h0, if_pos h0]
   ·rw [if_neg h0, if_neg h0, if_neg h1]
    by_cases h2 : i = q * 3 + 2
    ·rw [if_pos h2, h2, H2.out]; simp
    ·rw [if_neg h2]
 ·rw [hh] at c1 HG
  have H2 := Lib.hid (spV_2 f q)
  clear hh
  cases hd : ((f q).1 != s)
  ·rw [hd] at hne HG
   clear hd
   generalize bs (f q).1 = T at c0 hne
   have hne2 : (T.toList == (bs s).toList) = true := by simpa using hne
   go_enter Tryz.func223, Tryz.ntmps223
   go_wp2
   refine ⟨rfl, _, results_none rfl _ _ _, rfl, ((HR.out.set (q * 3) (.string (bs s))).set (q * 3 + 1) (.bool true)).congr (fun i _ => ?_), grown_tr (grown_set _ _ _ _) (grown_set _ _ _ _)⟩
   rw [HG.out i]
   by_cases h1 : i = q * 3 + 1
   ·rw [if_pos h1, if_neg (by omega), if_pos h1]
   ·rw [if_neg h1]
    by_cases h0 : i = q * 3
    ·rw [if_pos h0, if_pos h0]
    ·rw [if_neg h0, if_neg h0, if_neg h1]
     by_cases h2 : i = q * 3 + 2
     ·rw [if_pos h2, h2, H2.out]; simp
     ·rw [if_neg h2]
  ·rw [hd] at hne HG
   clear hd
   generalize bs (f q).1 = T at c0 hne
   have hne2 : (T.toList == (bs s).toList) = false := by simpa using hne
   go_enter Tryz.func223, Tryz.ntmps223
   go_wp2
   refine ⟨rfl, _, results_none rfl _ _ _, rfl, (((HR.out.set (q * 3 + 2) (.bool true)).set (q * 3) (.string (bs s))).set (q * 3 + 1) (.bool true)).congr (fun i _ => ?_), grown_tr (grown_tr (grown_set _ _ _ _) (grown_set _ _ _ _)) (grown_set _ _ _ _)⟩
   rw [HG.out i]
   by_cases h1 : i = q * 3 + 1
   ·rw [if_pos h1, if_neg (by omega), if_pos h1]
   ·rw [if_neg h1]
    by_cases h0 : i = q * 3
    ·rw [if_pos h0, if_pos h0]
    ·rw [if_neg h0, if_neg h0, if_neg h1]
     by_cases h2 : i = q * 3 + 2
     ·rw [if_pos h2, if_pos h2]; simp
     ·rw [if_neg h2, if_neg h2]
end Go.Proofs.YtngehojibcmieaaGreatDoor
end
section
namespace Go.Proofs.YtngehojibcmieaaGreatDoor
open Go.ChangeShapes Go.WideShapes Go.RowKit Go.Maps
def GotT (P : List (List UInt8)) (x : Int) (w : World) (e : Ending) (w' : World) : Prop :=
 ∃ a n c, e = .returned (.tuple #[.slice a n (n + c), .int .i64 x]) ∧ RowS w' a n P ∧ Below w.heap.size w w'
theorem info_parts' {P : Program} {t : TypeId} {z : Value} {s b : Nat} (h : (P.info? t).map (fun i => (i.zero, i.size, i.bytes)) = some (some z, s, b)) : ∃ i, P.info? t = some i ∧ i.zero = some z ∧ i.size = s ∧ i.bytes = b := by
 obtain ⟨i, hi, he⟩ := Option.map_eq_some_iff.1 h
 simp only [Prod.mk.injEq] at he
 exact ⟨i, hi, he.1, he.2.1, he.2.2⟩
def none3 : Nat → List UInt8 × Bool × Bool := fun _ => ([], false, false)
theorem run_make_spots (n : Nat) (hn : n ≤ 1000) (w : World) :
  (Instr.makeSlice 250 (.int .i64 (n : Int)) (.int .i64 (n : Int))).run Tryz.prog w = .ok (.slice (some ⟨w.heap.size, 0, none⟩) n n) (w.alloc (.cells (madeCells #[.string ⟨#[]⟩, .bool false, .bool false] (n * 3)) 252)) := by
 obtain ⟨i, hi, h1, h2, h3⟩ := info_parts' spot_info
 have hb : (i.bytes : Int) * (n : Int) ≤ 281474976710656 := by rw [h3]; omega
 have hr := run_make (P := Tryz.prog) w 250 252 i _ Tryz.underlying250 hi h1 .i64 .i64 n n (by omega) (Int.le_refl _) hb (by omega)
 simp only [Int.toNat_natCast, h2] at hr
 exact hr
theorem spots_made (w : World) (n : Nat) : (w.alloc (.cells (madeCells #[.string ⟨#[]⟩, .bool false, .bool false] (n * 3)) 252)).rowIs w.heap.size 252 (n * 3) (spV none3) := by
 refine ⟨_, Go.Deep.blk_alloc_new _ _, size_madeCells _ _, fun i hi => ?_⟩
 unfold madeCells spV none3
 have h3 := Nat.mod_lt i (show 3 > 0 by decide)
 rcases (show i % 3 = 0 ∨ i % 3 = 1 ∨ i % 3 = 2 by omega) with h | h | h <;> simp [hi, h, bs]
theorem texts_made (w : World) (n : Nat) : (w.alloc (.cells (madeCells #[.string ⟨#[]⟩] n) 9)).rowIs w.heap.size 9 n (fun _ => .string (bs [])) := World.rowIs_made w _ n 9
theorem keep_row {W w9 : World} {b n t : Nat} {f : Nat → Value} (hb : Below W.heap.size W w9) (h : W.rowIs b t n f) : w9.rowIs b t n f := h.of_block (hb.block b h.lt)
theorem mid_below {lo : Nat} {w w' : World} (h : Below w.heap.size w w') : Mid lo w w' := ⟨h.size, fun i _ hi => h.block i hi⟩
theorem mid_grown {lo : Nat} {W0 w w' : World} {A : Nat} (h : Mid lo W0 w) (g : w.grownBy w' (some A)) (hA : A < lo ∨ W0.heap.size ≤ A) : Mid lo W0 w' :=
 ⟨Nat.le_trans h.1 g.size, fun i h1 h2 => (g.block i (Nat.lt_of_lt_of_le h2 h.1) (by intro e; cases e; omega)).trans (h.2 i h1 h2)⟩
theorem mid_trans {lo : Nat} {W0 w w' : World} (h : Mid lo W0 w) (g : Below w.heap.size w w') : Mid lo W0 w' :=
 ⟨Nat.le_trans h.1 g.size, fun i h1 h2 => (g.block i (Nat.lt_of_lt_of_le h2 h.1)).trans (h.2 i h1 h2)⟩
theorem mid_refl (lo : Nat) (w : World) : Mid lo w w := ⟨Nat.le_refl _, fun _ _ _ => rfl⟩
def Made3 (w1 : World) (n : Nat) (m s t : Value) (wx : World) : Prop :=
 ∃ b A B, m = .map (some b) ∧ s = .slice (some ⟨A, 0, none⟩) n n ∧ t = .slice (some ⟨B, 0, none⟩) n n ∧ A ≠ B ∧ w1.heap.size ≤ A ∧ w1.heap.size ≤ B ∧ wx.rowIs A 252 (n * 3) (spV none3) ∧ wx.rowIs B 9 n (fun _ => .string (bs [])) ∧
  Below w1.heap.size w1 wx ∧ ∃ lo W0, Fxs lo W0 b 25 ∧ Mid lo W0 wx ∧ (A < lo ∨ W0.heap.size ≤ A) ∧ (B < lo ∨ W0.heap.size ≤ B)
abbrev X1 (n : Nat) : Obj := .cells (madeCells #[.string ⟨#[]⟩, .bool false, .bool false] (n * 3)) 252
abbrev X2 (n : Nat) : Obj := .cells (madeCells #[.string ⟨#[]⟩] n) 9
theorem asz (w : World) (o : Obj) : (w.alloc o).heap.size = w.heap.size + 1 := by simp
theorem made_a {w1 w2 : World} {n b : Nat} (hF : Fxs w1.drew.heap.size w2 b 25) (hb : Below w1.drew.heap.size w1.drew w2) : Made3 w1 n (.map (some b)) (.slice (some ⟨w2.heap.size, 0, none⟩) n n) (.slice (some ⟨w2.heap.size + 1, 0, none⟩) n n) ((w2.alloc (X1 n)).alloc (X2 n)) := by
 have hb' : Below w1.heap.size w1 w2 := (Below.refl _ _).drew.trans hb
 have hs := hb'.size
 have k2 := texts_made (w2.alloc (X1 n)) n
 rw [asz] at k2
 exact ⟨b, _, _, rfl, rfl, rfl, by omega, hs, by omega, (spots_made w2 n).alloc _, k2, keep_below (keep_below hb' (below_alloc _ _)) (below_alloc _ _), _, w2, hF, mid_trans (mid_below (below_alloc _ _)) (below_alloc _ _), Or.inr (Nat.le_refl _), Or.inr (by omega)⟩
theorem made_b {w1 w2 : World} {n b : Nat} (hF : Fxs w1.drew.heap.size w2 b 25) (hb : Below w1.drew.heap.size w1.drew w2) : Made3 w1 n (.map (some b)) (.slice (some ⟨w2.heap.size + 1, 0, none⟩) n n) (.slice (some ⟨w2.heap.size, 0, none⟩) n n) ((w2.alloc (X2 n)).alloc (X1 n)) := by
 have hb' : Below w1.heap.size w1 w2 := (Below.refl _ _).drew.trans hb
 have hs := hb'.size
 have k2 := spots_made (w2.alloc (X2 n)) n
 rw [asz] at k2
 exact ⟨b, _, _, rfl, rfl, rfl, by omega, by omega, hs, k2, (texts_made w2 n).alloc _, keep_below (keep_below hb' (below_alloc _ _)) (below_alloc _ _), _, w2, hF, mid_trans (mid_below (below_alloc _ _)) (below_alloc _ _), Or.inr (by omega), Or.inr (Nat.le_refl _)⟩
theorem made_c {w1 w2 : World} {n b : Nat} (hF : Fxs (w1.alloc (X1 n)).drew.heap.size w2 b 25) (hb : Below (w1.alloc (X1 n)).drew.heap.size (w1.alloc (X1 n)).drew w2) : Made3 w1 n (.map (some b)) (.slice (some ⟨w1.heap.size, 0, none⟩) n n) (.slice (some ⟨w2.heap.size, 0, none⟩) n n) (w2.alloc (X2 n)) := by
 have hb' : Below w1.heap.size w1 w2 := keep_below (below_alloc w1 (X1 n)).drew hb
 have hs := hb.size
 have e := asz w1 (X1 n)
 have hs2 : w1.heap.size + 1 ≤ w2.heap.size := by rw [← e]; exact hs
 have k1 : w2.rowIs w1.heap.size 252 (n * 3) (spV none3) := keep_row hb (spots_made w1 n).drew
 exact ⟨b, _, _, rfl, rfl, rfl, by omega, Nat.le_refl _, by omega, k1.alloc _, texts_made w2 n, keep_below hb' (below_alloc _ _), _, w2, hF, mid_below (below_alloc _ _), Or.inl (by show w1.heap.size < (w1.alloc (X1 n)).heap.size; omega), Or.inr (Nat.le_refl _)⟩
theorem made_d {w1 w2 : World} {n b : Nat} (hF : Fxs ((w1.alloc (X1 n)).alloc (X2 n)).drew.heap.size w2 b 25) (hb : Below ((w1.alloc (X1 n)).alloc (X2 n)).drew.heap.size ((w1.alloc (X1 n)).alloc (X2 n)).drew w2) : Made3 w1 n (.map (some b)) (.slice (some ⟨w1.heap.size, 0, none⟩) n n) (.slice (some ⟨w1.heap.size + 1, 0, none⟩) n n) w2 := by
 have hb' : Below w1.heap.size w1 w2 := keep_below (keep_below (below_alloc w1 (X1 n)) (below_alloc _ (X2 n))).drew hb
 have e := asz w1 (X1 n)
 have e2 := asz (w1.alloc (X1 n)) (X2 n)
 have k2 := texts_made (w1.alloc (X1 n)) n
 rw [asz] at k2
 exact ⟨b, _, _, rfl, rfl, rfl, by omega, Nat.le_refl _, by omega, keep_row hb ((spots_made w1 n).alloc (X2 n)).drew, keep_row hb k2.drew, hb', _, w2, hF, mid_refl _ _, Or.inl (by show w1.heap.size < ((w1.alloc (X1 n)).alloc (X2 n)).heap.size; omega), Or.inl (by show w1.heap.size + 1 < ((w1.alloc (X1 n)).alloc (X2 n)).heap.size; omega)⟩
theorem made_e {w1 w2 : World} {n b : Nat} (hF : Fxs (w1.alloc (X2 n)).drew.heap.size w2 b 25) (hb : Below (w1.alloc (X2 n)).drew.heap.size (w1.alloc (X2 n)).drew w2) : Made3 w1 n (.map (some b)) (.slice (some ⟨w2.heap.size, 0, none⟩) n n) (.slice (some ⟨w1.heap.size, 0, none⟩) n n) (w2.alloc (X1 n)) := by
 have hb' : Below w1.heap.size w1 w2 := keep_below (below_alloc w1 (X2 n)).drew hb
 have hs := hb.size
 have e := asz w1 (X2 n)
 have hs2 : w1.heap.size + 1 ≤ w2.heap.size := by rw [← e]; exact hs
 have k1 : w2.rowIs w1.heap.size 9 n (fun _ => .string (bs [])) := keep_row hb (texts_made w1 n).drew
 exact ⟨b, _, _, rfl, rfl, rfl, by omega, by omega, Nat.le_refl _, spots_made w2 n, k1.alloc _, keep_below hb' (below_alloc _ _), _, w2, hF, mid_below (below_alloc _ _), Or.inr (Nat.le_refl _), Or.inl (by show w1.heap.size < (w1.alloc (X2 n)).heap.size; omega)⟩
theorem made_f {w1 w2 : World} {n b : Nat} (hF : Fxs ((w1.alloc (X2 n)).alloc (X1 n)).drew.heap.size w2 b 25) (hb : Below ((w1.alloc (X2 n)).alloc (X1 n)).drew.heap.size ((w1.alloc (X2 n)).alloc (X1 n)).drew w2) : Made3 w1 n (.map (some b)) (.slice (some ⟨w1.heap.size + 1, 0, none⟩) n n) (.slice (some ⟨w1.heap.size, 0, none⟩) n n) w2 := by
 have hb' : Below w1.heap.size w1 w2 := keep_below (keep_below (below_alloc w1 (X2 n)) (below_alloc _ (X1 n))).drew hb
 have e := asz w1 (X2 n)
 have e2 := asz (w1.alloc (X2 n)) (X1 n)
 have k2 := spots_made (w1.alloc (X2 n)) n
 rw [asz] at k2
 exact ⟨b, _, _, rfl, rfl, rfl, by omega, by omega, Nat.le_refl _, keep_row hb k2.drew, keep_row hb ((texts_made w1 n).alloc (X1 n)).drew, hb', _, w2, hF, mid_refl _ _, Or.inl (by show w1.heap.size + 1 < ((w1.alloc (X2 n)).alloc (X1 n)).heap.size; omega), Or.inl (by show w1.heap.size < ((w1.alloc (X2 n)).alloc (X1 n)).heap.size; omega)⟩
end Go.Proofs.YtngehojibcmieaaGreatDoor
end
section
namespace Go.Proofs.YtngehojibcmieaaGreatDoor
open Go.ChangeShapes Go.WideShapes Go.RowKit Go.Maps
theorem gv4_only {o : Int} (h : gv o = gv 4) : o = 4 := by
 have h2 := congrFun (congrFun h 0) [1, 2]
 have e : gv 4 0 [1, 2] = [2, 1] := by decide
 rw [e] at h2
 unfold gv at h2
 split at h2
 ·simp at h2
 ·split at h2
  ·simp at h2
  ·split at h2
   ·assumption
   ·split at h2
    ·simp at h2
    ·split at h2
     ·simp at h2
     ·simp at h2
theorem keep_set {W : World} {q p : Addr} {v z : Value} (hne : p.block ≠ q.block) (h : W.cell? p = some z) : (W.setCell q v).cell? p = some z := by
 rw [World.cell?_of_block (w := W) (Go.Deep.blk_setCell_other _ _ _ _ hne)]; exact h
theorem GvV.shape {lo : Nat} {w : World} {v : Value} {f : Int → List UInt8 → List UInt8} (h : GvV lo w v f) : ∃ n c, v = .func (.func n) #[] c := by
 rcases h with ⟨b, s, e, _⟩ | ⟨e, _⟩ | ⟨e, _⟩ | ⟨e, _⟩ <;> exact ⟨_, _, e⟩
end Go.Proofs.YtngehojibcmieaaGreatDoor
end
section
namespace Go.Proofs.YtngehojibcmieaaGreatDoor
end Go.Proofs.YtngehojibcmieaaGreatDoor
end
end
