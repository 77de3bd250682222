/- What is proved here: the walk of the law TypesMore. Condition: the table of names holds what its initialiser lays ('Nms'). -/
import Derived.Test.YtkkoekfdncoifaaDoorKnown
import Derived.Test.YtkkoekfdncoifaaDoorTy4
import Derived.Test.YtkkoekfdncoifaaDoorAp
namespace Go.Proofs.YtkkoekfdncoifaaDoor
open Go.ChangeShapes Go.WideShapes Go.RowKit Go.Maps

theorem wpList_append_g {P : Program} (w : World) {ops : Array Oper} {rest : List Oper} {o : Oper} {a : Act} {Q : Exit → Act → World → Prop} (hw : Region.wanted o (yielded ops a.tmps) = true) (s x : Operand) (t : TypeId)
    (ho : o.op = .call { callee := .builtin .append, args := #[s, x], argTypes := #[t, t] })
    (base : Nat) (e : TypeId) (i : TypeInfo) (z : Value) (size bytes : Nat) (ht : P.underlying t = some (.slice e)) (hi : P.info? e = some i) (hz : i.zero = some z)
    (hsize : i.size = size) (hby : i.bytes = bytes) (hzs : z.cells.size = size) (hsz : 0 < size)
    (v : Value) (n : Nat) (xs : List Value) (hs : a.eval s = v) (hown : w.ownsRow base e size v n xs)
    (ad : Addr) (m c : Nat) (news : List Value) (hx : a.eval x = .slice (some ad) m c) (hl : news.length = m * size) (hnews : ∀ j u, news[j]? = some u → w.cell? (ad.add j) = some u) (h1 : ∀ u ∈ news, u.oneCell' = true)
    (h63 : n + m ≤ maxLen) (hbytes : (n + m) * bytes ≤ 140737488355328) (hbase : base ≤ w.heap.size)
    (h : ∀ v' w', w'.ownsRow base e size v' (n + m) (xs ++ news) → w.grownBy w' v.ownBlock → (v' = .slice none 0 0 ↔ v = .slice none 0 0 ∧ m = 0) → wpList P ops Q rest (a.put o.dst v') w') : wpList P ops Q (o :: rest) a w := by
  unfold wpList
  rw [if_pos hw]
  exact Or.inl (wp_append_own w s x t ho base e i z size bytes ht hi hz hsize hby hzs hsz v n xs hs hown ad m c news hx hl hnews h1 h63 hbytes hbase h)
theorem RowS.cells {w : World} {b off n : Nat} {P : List (List UInt8)} (h : RowS w (some ⟨b, off, none⟩) n P) : ∀ j u, (cellsS P)[j]? = some u → w.cell? ((⟨b, off, none⟩ : Addr).add j) = some u := by
  intro j u hj
  have hjl : j < P.length := by
    obtain ⟨h1, _⟩ := List.getElem?_eq_some_iff.1 hj
    rw [cellsS, List.length_map] at h1; exact h1
  obtain ⟨b', off', e', hlt, hc⟩ := h.2 (by have := h.1; omega)
  simp only [Option.some.injEq, Addr.mk.injEq] at e'
  obtain ⟨rfl, rfl, _⟩ := e'
  rw [add_plain', hc j (by have := h.1; omega), ← hj, cellsS, List.getElem?_map, List.getD_eq_getElem?_getD, List.getElem?_eq_getElem hjl]; rfl
theorem cellsS_one (P : List (List UInt8)) : ∀ u ∈ cellsS P, u.oneCell' = true := by
  intro u hu
  unfold cellsS at hu
  obtain ⟨y, _, rfl⟩ := List.mem_map.1 hu
  rfl
theorem cellsS_append (P Q : List (List UInt8)) : cellsS (P ++ Q) = cellsS P ++ cellsS Q := by simp [cellsS]
theorem RowS.take {w : World} {a : Option Addr} {n : Nat} {P : List (List UInt8)} (h : RowS w a n P) {m : Nat} (hm : m ≤ n) : RowS w a m (P.take m) := by
  have hl := h.1
  refine ⟨by rw [List.length_take]; omega, fun h0 => ?_⟩
  obtain ⟨b, off, rfl, hlt, hc⟩ := h.2 (by omega)
  refine ⟨b, off, rfl, hlt, fun i hi => ?_⟩
  have e : (P.take m).getD i [] = P.getD i [] := by
    rw [List.getD_eq_getElem?_getD, List.getD_eq_getElem?_getD, List.getElem?_take_of_lt hi]
  rw [e]; exact hc i (by omega)
theorem two_at {A B : List (Int × Int × Int)} {k : Nat} (h : k + 1 = A.length) : two A B = A.take k ++ B := by
  unfold two; rw [← h]; rfl
theorem tE_long {L : List (Int × Int × Int)} (h : 200 < L.length) : tE L ≠ 0 := by
  intro e
  have := wE_len (tE_zero e).1
  omega
set_option maxHeartbeats 2000000 in
set_option maxRecDepth 100000 in
/-- One of the two has an error: then nothing more is asked. -/
theorem more_bad (a b : Option Addr) (k m c d : Nat) (A B : List (Int × Int × Int)) (sm : Int) (hsm : IntKind.i64.wrap ((k : Int) + 1 + (m : Int)) = sm) (h200 : decide (200 < sm) = false) (w : World) (hN : Nms w) (hA : RowI w a (k + 1) A) (hB : RowI w b m B) (hbad : tE A ≠ 0 ∨ tE B ≠ 0) :
    Calls Tryd.prog 5 #[.slice a (k + 1) c, .slice b m d] w fun e w' => e = .returned (.bool true) ∧ Below w.heap.size w w' := by
  have HNm := Lib.hid hN
  have KN := Lib.hid (fun W (h : Below w.heap.size w W) => known_any W (HNm.out.below h))
  have ca := stacks_any a (k + 1) c A w hA hN
  have cb := fun W (h : Below w.heap.size w W) => stacks_any b m d B W (hB.below h) (HNm.out.below h)
  unfold GotT at ca cb
  obtain ⟨x, hx⟩ : ∃ x, x = tE A := ⟨_, rfl⟩
  obtain ⟨y, hy⟩ : ∃ y, y = tE B := ⟨_, rfl⟩
  rw [← hx] at ca hbad
  rw [← hy] at cb hbad
  have d0 : decide ((k : Int) + 1 < 1) = false := by rw [decide_eq_false_iff_not]; omega
  have CA := Lib.hid ca
  have CB := Lib.hid cb
  clear ca cb hA hB hN hx hy
  rcases hbad with h | h
  · have e1 : (x != 0) = true := by simpa using h
    have e2 : (x == 0) = false := by simpa using h
    go_enter Tryd.func5, Tryd.ntmps5
    go_wp2_with fail
    refine CA.out.mono ?_
    rintro e w1 ⟨a1, n1, c1, rfl, r1, hb1⟩
    go_wp2_with fail
    refine (CB.out _ hb1).mono ?_
    rintro e w2 ⟨a2, n2, c2, rfl, r2, hb2⟩
    go_wp2_with (go_at_call 8; refine (KN.out _ (keep_below hb1 hb2)).mono ?_; rintro e w3 ⟨rfl, hb3⟩)
    go_ret
    exact ⟨rfl, keep_below (keep_below hb1 hb2) hb3⟩
  · have e1 : (y != 0) = true := by simpa using h
    have e2 : (y == 0) = false := by simpa using h
    cases hz : (x != 0)
    all_goals
      go_enter Tryd.func5, Tryd.ntmps5
      go_wp2_with fail
      refine CA.out.mono ?_
      rintro e w1 ⟨a1, n1, c1, rfl, r1, hb1⟩
      go_wp2_with fail
      refine (CB.out _ hb1).mono ?_
      rintro e w2 ⟨a2, n2, c2, rfl, r2, hb2⟩
      go_wp2_with (go_at_call 8; refine (KN.out _ (keep_below hb1 hb2)).mono ?_; rintro e w3 ⟨rfl, hb3⟩)
      go_ret
      exact ⟨rfl, keep_below (keep_below hb1 hb2) hb3⟩
set_option maxHeartbeats 2000000 in
set_option maxRecDepth 100000 in
/-- The first one leaves something: then nothing more is asked. -/
theorem more_left (a b : Option Addr) (k m c d : Nat) (A B : List (Int × Int × Int)) (hn : k + 1 + m ≤ 200) (w : World) (hN : Nms w) (hA : RowI w a (k + 1) A) (hB : RowI w b m B) (h1 : tE A = 0) (h2 : tE B = 0) (he : sf A k ≠ []) :
    Calls Tryd.prog 5 #[.slice a (k + 1) c, .slice b m d] w fun e w' => e = .returned (.bool true) ∧ Below w.heap.size w w' := by
  have HNm := Lib.hid hN
  have KN := Lib.hid (fun W (h : Below w.heap.size w W) => known_any W (HNm.out.below h))
  have ca := stacks_any a (k + 1) c A w hA hN
  have cb := fun W (h : Below w.heap.size w W) => stacks_any b m d B W (hB.below h) (HNm.out.below h)
  unfold GotT tA at ca cb
  rw [if_pos h1, h1] at ca
  rw [if_pos h2, h2] at cb
  have hsm : IntKind.i64.wrap ((k : Int) + 1 + (m : Int)) = (k : Int) + 1 + (m : Int) := IntWalk.i64_in _ (by omega)
  have h200 : decide (200 < (k : Int) + 1 + (m : Int)) = false := by rw [decide_eq_false_iff_not]; omega
  have d0 : decide ((k : Int) + 1 < 1) = false := by rw [decide_eq_false_iff_not]; omega
  have hk := hA.1
  have CA := Lib.hid ca
  have CB := Lib.hid cb
  have hlast : (tL A).getD k [] = sf A k := tL_at (by omega)
  have hne : ((bs (sf A k)).toList == []) = false ∧ ¬ (bs (sf A k)).toList = [] := by rw [bs_toList]; simp [he]
  have HLs := Lib.hid hlast
  have HKl := Lib.hid hk
  obtain ⟨e5, e6⟩ := hne
  clear ca cb hA hB hN h1 h2 hk hlast he
  go_enter Tryd.func5, Tryd.ntmps5
  go_wp2_with fail
  refine CA.out.mono ?_
  rintro e w1 ⟨a1, n1, c1, rfl, r1, hb1⟩
  obtain rfl : k + 1 = n1 := by have := r1.1; rw [tL_len, ← HKl.out] at this; exact this.symm
  go_wp2_with fail
  refine (CB.out _ hb1).mono ?_
  rintro e w2 ⟨a2, n2, c2, rfl, r2, hb2⟩
  obtain ⟨b1, o1, rfl, hB1, hc1⟩ := (r1.below hb2).at_ (k := k) (by omega)
  rw [HLs.out] at hc1
  have hw1 : IntKind.i64.wrap ((k : Int) + 1 - 1) = (k : Int) := by rw [IntWalk.i64_in _ (by omega)]; omega
  clear hsm
  go_wp2_with (go_at_call 8; refine (KN.out _ (keep_below hb1 hb2)).mono ?_; rintro e w3 ⟨rfl, hb3⟩)
  go_ret
  exact ⟨rfl, keep_below (keep_below hb1 hb2) hb3⟩
set_option maxHeartbeats 4000000 in
set_option maxRecDepth 100000 in
theorem more_main (a b : Option Addr) (k m c d : Nat) (A B : List (Int × Int × Int)) (hn : k + 1 + m ≤ 200) (hkc : k ≤ c) (w : World) (hN : Nms w) (hA : RowI w a (k + 1) A) (hB : RowI w b m B) (h1 : tE A = 0) (h2 : tE B = 0) (he : sf A k = []) :
    Calls Tryd.prog 5 #[.slice a (k + 1) c, .slice b m d] w fun e w' => e = .returned (.bool true) ∧ Below w.heap.size w w' := by
  obtain ⟨i0, hi, hz0, hz1, hz2⟩ := info_parts' ins_info
  obtain ⟨j0, hj, hy0, hy1, hy2⟩ := info_parts' str_info
  have HNm := Lib.hid hN
  have KN := Lib.hid (fun W (h : Below w.heap.size w W) => known_any W (HNm.out.below h))
  have ca := stacks_any a (k + 1) c A w hA hN
  have cb := fun W (h : Below w.heap.size w W) => stacks_any b m d B W (hB.below h) (HNm.out.below h)
  unfold GotT tA at ca cb
  rw [if_pos h1, h1] at ca
  rw [if_pos h2, h2] at cb
  have hsm : IntKind.i64.wrap ((k : Int) + 1 + (m : Int)) = (k : Int) + 1 + (m : Int) := IntWalk.i64_in _ (by omega)
  have h200 : decide (200 < (k : Int) + 1 + (m : Int)) = false := by rw [decide_eq_false_iff_not]; omega
  have d0 : decide ((k : Int) + 1 < 1) = false := by rw [decide_eq_false_iff_not]; omega
  have hk := hA.1
  have hmB := (wE_len (tE_zero h2).1).1
  rw [← hB.1] at hmB
  have hkA : A.length - 1 = k := by omega
  have HT : Hid (two A B = A.take k ++ B) := two_at hk
  have HE2 : Hid (tE (two A B) = 0) := two_err h1 h2 (by rw [hkA]; exact he) (by rw [← hk, ← hB.1]; exact hn)
  have HL2 : Hid (tL (two A B) = (tL A).take k ++ tL B) := by
    have := two_stacks (B := B) h1 (by rw [hkA]; exact he)
    rw [hkA] at this; exact this
  have CA := Lib.hid ca
  have CB := Lib.hid cb
  have hlast : (tL A).getD k [] = [] := by rw [tL_at (by omega), he]
  have HLs := Lib.hid hlast
  have HKl := Lib.hid hk
  have HMl := Lib.hid hB.1
  have hkc' : (k : Int) ≤ (c : Int) := by omega
  have HA := Lib.hid hA
  have HB := Lib.hid hB
  clear ca cb hA hB hN h1 h2 hk hlast he hkA
  go_enter Tryd.func5, Tryd.ntmps5
  go_wp2_with fail
  refine CA.out.mono ?_
  rintro e w1 ⟨a1, n1, c1, rfl, r1, hb1⟩
  obtain rfl : k + 1 = n1 := by have := r1.1; rw [tL_len, ← HKl.out] at this; exact this.symm
  have hkc1 : k ≤ k + 1 + c1 := by omega
  generalize k + 1 + c1 = cc at hkc1 ⊢
  go_wp2_with fail
  refine (CB.out _ hb1).mono ?_
  rintro e w2 ⟨a2, n2, c2, rfl, r2, hb2⟩
  obtain rfl : m = n2 := by have := r2.1; rw [tL_len, ← HMl.out] at this; exact this.symm
  generalize m + c2 = cd at ⊢
  have G := keep_below hb1 hb2
  have s1 := r1.below hb2
  obtain ⟨b1, o1, rfl, hB1, hc1⟩ := s1.at_ (k := k) (by omega)
  obtain ⟨b2, o2, rfl, hB2, _⟩ := r2.at_ (k := 0) (by omega)
  rw [HLs.out] at hc1
  have hw1 : IntKind.i64.wrap ((k : Int) + 1 - 1) = (k : Int) := by rw [IntWalk.i64_in _ (by omega)]; omega
  have e5 : ((bs []).toList == []) = true := by rw [bs_toList]; rfl
  have e6 : (bs []).toList = [] := bs_toList _
  have RA := HA.out.below G
  have RB := HB.out.below G
  obtain ⟨b3, o3, rfl, hadl, _⟩ := RA.2 (by omega)
  obtain ⟨b4, o4, rfl, hbdl, _⟩ := RB.2 (by omega)
  have hLl : (cellsI (A.take k)).length = k * 3 := by rw [cellsI_length, List.length_take, ← HKl.out]; omega
  have hMl : (cellsI B).length = m * 3 := by rw [cellsI_length, ← HMl.out]
  have HO : Hid ((w2.alloc (.cells #[] 37)).ownsRow w2.heap.size 37 3 (.slice (some ⟨w2.heap.size, 0, none⟩) 0 0) 0 []) := by
    refine ⟨by simp, Or.inr ⟨w2.heap.size, 0, #[], rfl, Nat.le_refl _, new_block _ _, by omega, by unfold maxLen; omega, rfl, rfl⟩⟩
  have HcA : Hid (∀ (W : World), Below w2.heap.size w2 W → ∀ j u, (cellsI (A.take k))[j]? = some u → W.cell? ((⟨b3, o3, none⟩ : Addr).add j) = some u) := fun W hW => ((RA.take (m := k) (by omega)).below hW).cells rfl
  have HcB : Hid (∀ (W : World), Below w2.heap.size w2 W → ∀ j u, (cellsI B)[j]? = some u → W.cell? ((⟨b4, o4, none⟩ : Addr).add j) = some u) := fun W hW => (RB.below hW).cells rfl
  have B0 := below_alloc w2 (.cells #[] 37)
  have HS1 := Lib.hid s1
  have HS2 := Lib.hid r2
  clear hsm RA RB s1 r1 r2 CA CB HA HB
  go_wp2_with (at_builtin; refine wpList_append_own _ rfl _ _ 22 rfl w2.heap.size 37 i0 (.agg #[.int .i64 0, .int .i64 0, .int .i64 0]) 3 24 Tryd.underlying22 hi hz0 hz1 hz2 rfl (by decide) _ _ _ rfl HO.out ⟨b3, o3, none⟩ k c (cellsI (A.take k)) rfl hLl (HcA.out _ B0) (cellsI_one (A.take k)) ?c3 ?c4 ?c5 ?_)
  case c3 => unfold maxLen; omega
  case c4 => omega
  case c5 => simp
  intro v1 w4 hown1 hgrow1 _
  have B1 : Below w2.heap.size w2 w4 := B0.grown hgrow1 (by simp) (fun g hg => by simp [Value.ownBlock] at hg; omega)
  have hv1 : ∀ g, v1.ownBlock = some g → w2.heap.size ≤ g := fun g hg => (hown1.lt g hg).1
  obtain ⟨A1, c1', rfl, _⟩ := RowI.own hown1
  clear hgrow1 HO
  go_wp2_with (at_builtin; refine wpList_append_own _ rfl _ _ 22 rfl w2.heap.size 37 i0 (.agg #[.int .i64 0, .int .i64 0, .int .i64 0]) 3 24 Tryd.underlying22 hi hz0 hz1 hz2 rfl (by decide) _ _ _ rfl hown1 ⟨b4, o4, none⟩ m d (cellsI B) rfl hMl (HcB.out _ B1) (cellsI_one B) ?c3 ?c4 ?c5 ?_)
  case c3 => unfold maxLen; omega
  case c4 => omega
  case c5 => exact B1.size
  intro v2 w5 hown2 hgrow2 _
  have B2 : Below w2.heap.size w2 w5 := B1.grown hgrow2 B1.size hv1
  have hown3 : w5.ownsRow w2.heap.size 37 3 v2 (k + m) (cellsI (two A B)) := by
    have := hown2
    rw [HT.out, cellsI_append]
    simpa using this
  obtain ⟨A5, c5, rfl, hR5⟩ := RowI.own hown3
  have G5 := keep_below G B2
  have cs := stacks_any A5 (k + m) c5 (two A B) w5 hR5 (HNm.out.below G5)
  unfold GotT tA at cs
  rw [HE2.out, if_pos rfl, HL2.out] at cs
  have CS := Lib.hid cs
  clear hown1 hown2 hown3 hgrow2 B0 B1 hR5 hv1 HcA HcB hLl hMl hadl hbdl cs hc1
  go_wp2_with fail
  refine CS.out.mono ?_
  rintro e w6 ⟨a6, n6, c6, rfl, r6, hb6⟩
  have G6 := keep_below G5 hb6
  have B6 := keep_below B2 hb6
  have S1 := HS1.out.below B6
  have S2 := HS2.out.below B6
  have hP1 : (cellsS ((tL A).take k)).length = k * 1 := by rw [cellsS, List.length_map, List.length_take, tL_len, ← HKl.out]; omega
  have hP2 : (cellsS (tL B)).length = m * 1 := by rw [cellsS, List.length_map, tL_len, ← HMl.out]; omega
  have HO : Hid ((w6.alloc (.cells #[] 9)).ownsRow w6.heap.size 9 1 (.slice (some ⟨w6.heap.size, 0, none⟩) 0 0) 0 []) := by
    refine ⟨by simp, Or.inr ⟨w6.heap.size, 0, #[], rfl, Nat.le_refl _, new_block _ _, by omega, by unfold maxLen; omega, rfl, rfl⟩⟩
  have HcA : Hid (∀ (W : World), Below w6.heap.size w6 W → ∀ j u, (cellsS ((tL A).take k))[j]? = some u → W.cell? ((⟨b1, o1, none⟩ : Addr).add j) = some u) := fun W hW => ((S1.take (m := k) (by omega)).below hW).cells
  have HcB : Hid (∀ (W : World), Below w6.heap.size w6 W → ∀ j u, (cellsS (tL B))[j]? = some u → W.cell? ((⟨b2, o2, none⟩ : Addr).add j) = some u) := fun W hW => (S2.below hW).cells
  have hkc2 : (k : Int) ≤ (cc : Int) := by omega
  have B0 := below_alloc w6 (.cells #[] 9)
  have HR6 := Lib.hid r6
  clear S1 S2 CS HS1 HS2 r6 hb6 B6 B2 G5
  go_wp2_with (at_builtin; refine wpList_append_g _ (by rfl) _ _ 24 rfl w6.heap.size 9 j0 (.string ⟨#[]⟩) 1 16 Tryd.underlying24 hj hy0 hy1 hy2 rfl (by decide) _ _ _ rfl HO.out ⟨b1, o1, none⟩ k cc (cellsS ((tL A).take k)) rfl hP1 (HcA.out _ B0) (cellsS_one _) ?c3 ?c4 ?c5 ?_)
  case c3 => unfold maxLen; omega
  case c4 => omega
  case c5 => simp
  intro v1 w7 hown1 hgrow1 _
  have B1 : Below w6.heap.size w6 w7 := B0.grown hgrow1 (by simp) (fun g hg => by simp [Value.ownBlock] at hg; omega)
  have hv1 : ∀ g, v1.ownBlock = some g → w6.heap.size ≤ g := fun g hg => (hown1.lt g hg).1
  obtain ⟨A7, c7, rfl, _⟩ := RowS.own hown1
  clear hgrow1 HO
  go_wp2_with (at_builtin; refine wpList_append_g _ (by rfl) _ _ 24 rfl w6.heap.size 9 j0 (.string ⟨#[]⟩) 1 16 Tryd.underlying24 hj hy0 hy1 hy2 rfl (by decide) _ _ _ rfl hown1 ⟨b2, o2, none⟩ m cd (cellsS (tL B)) rfl hP2 (HcB.out _ B1) (cellsS_one _) ?c3 ?c4 ?c5 ?_)
  case c3 => unfold maxLen; omega
  case c4 => omega
  case c5 => exact B1.size
  intro v2 w8 hown2 hgrow2 _
  have B2 : Below w6.heap.size w6 w8 := B1.grown hgrow2 B1.size hv1
  have hown3 : w8.ownsRow w6.heap.size 9 1 v2 (k + m) (cellsS ((tL A).take k ++ tL B)) := by
    have := hown2
    rw [cellsS_append]
    simpa using this
  obtain ⟨A9, c9, rfl, hR9⟩ := RowS.own hown3
  have hn6 : n6 ≤ 1000000 := by have := HR6.out.1; rw [List.length_append, List.length_take, tL_len, tL_len, ← HKl.out, ← HMl.out] at this; omega
  have CE := Lib.hid (same_any a6 A9 n6 (k + m) (n6 + c6) c9 ((tL A).take k ++ tL B) w8 (HR6.out.below B2) hR9 hn6)
  have G8 := keep_below G6 B2
  clear hown1 hown2 hown3 hgrow2 B0 B1 hR9 hv1 HcA HcB hP1 hP2
  go_wp2_with (first | (go_at_call 13; refine CE.out.mono ?_; rintro e w9 ⟨rfl, hb9⟩) | (go_at_call 8; refine (KN.out _ (keep_below G8 hb9)).mono ?_; rintro e w10 ⟨rfl, hb10⟩))
  go_ret
  exact ⟨rfl, keep_below (keep_below G8 hb9) hb10⟩
set_option maxHeartbeats 2000000 in
set_option maxRecDepth 100000 in
theorem more_walk (a b : Option Addr) (n m c d : Nat) (A B : List (Int × Int × Int)) (hnm : n ≤ maxLen) (hnc : n ≤ c) (w : World) (hN : Nms w) (hA : RowI w a n A) (hB : RowI w b m B) :
    Calls Tryd.prog 5 #[.slice a n c, .slice b m d] w fun e w' => e = .returned (.bool true) ∧ Below w.heap.size w w' := by
  have HNm := Lib.hid hN
  have KN := Lib.hid (fun W (h : Below w.heap.size w W) => known_any W (HNm.out.below h))
  cases n with
  | zero =>
    have d0 : decide (((0 : Nat) : Int) < 1) = true := by decide
    clear hA hB hN
    go_enter Tryd.func5, Tryd.ntmps5
    go_wp2_with (go_at_call 8; refine (KN.out _ (Below.refl _ _)).mono ?_; rintro e w1 ⟨rfl, hb1⟩)
    go_ret
    exact ⟨rfl, hb1⟩
  | succ k =>
    obtain ⟨sm, hsm⟩ : ∃ sm, IntKind.i64.wrap ((k : Int) + 1 + (m : Int)) = sm := ⟨_, rfl⟩
    cases h200 : decide (200 < sm)
    · by_cases h1 : tE A = 0
      · by_cases h2 : tE B = 0
        · have l1 := wE_len (tE_zero h1).1
          have l2 := wE_len (tE_zero h2).1
          rw [← hA.1] at l1
          rw [← hB.1] at l2
          have hn : k + 1 + m ≤ 200 := by
            rw [IntWalk.i64_in _ (by omega)] at hsm
            have := of_decide_eq_false h200
            omega
          by_cases he : sf A k = []
          · exact more_main a b k m c d A B hn (by omega) w hN hA hB h1 h2 he
          · exact more_left a b k m c d A B hn w hN hA hB h1 h2 he
        · exact more_bad a b k m c d A B sm hsm h200 w hN hA hB (Or.inr h2)
      · exact more_bad a b k m c d A B sm hsm h200 w hN hA hB (Or.inl h1)
    · have d0 : decide ((k : Int) + 1 < 1) = false := by rw [decide_eq_false_iff_not]; omega
      clear hA hB hN
      go_enter Tryd.func5, Tryd.ntmps5
      go_wp2_with (go_at_call 8; refine (KN.out _ (Below.refl _ _)).mono ?_; rintro e w1 ⟨rfl, hb1⟩)
      go_ret
      exact ⟨rfl, hb1⟩
end Go.Proofs.YtkkoekfdncoifaaDoor
