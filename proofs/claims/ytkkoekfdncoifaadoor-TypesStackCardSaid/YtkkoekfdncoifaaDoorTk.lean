/- What is proved here: contracts of types.Takes and types.Gives. Conditions: the table of names holds what its initialiser lays ('Nms'); texts are not too long. -/
import Derived.Test.YtkkoekfdncoifaaDoorSm
import Derived.Test.YtkkoekfdncoifaaDoorReg
namespace Go.Proofs.YtkkoekfdncoifaaDoor
open Go.ChangeShapes Go.WideShapes Go.RowKit Go.Maps

/-- What an instruction takes, and what it gives; of one that is not right nothing. -/
def tkI (i : Int × Int × Int) : List UInt8 := if right i = true then tk i.1 else []
def gvI (i : Int × Int × Int) (t : List UInt8) : List UInt8 := if right i = true ∧ fit t (tk i.1) = true then gv i.1 i.2.1 t else []
theorem gv4_only {o : Int} (h : gv o = gv 4) : o = 4 := by
  have h2 := congrFun (congrFun h 0) [1, 2]
  have e : gv 4 0 [1, 2] = [2, 1] := by decide
  rw [e] at h2
  unfold gv at h2
  split at h2
  · simp at h2
  · split at h2
    · simp at h2
    · split at h2
      · assumption
      · split at h2
        · simp at h2
        · split at h2
          · simp at h2
          · simp at h2
theorem run_field53 (W : World) (f : Fn) (c : Array Value) (g : Value) : (Instr.field 53 (.agg #[.func f #[] c, g]) 0).run Tryd.prog W = .ok (.func f #[] c) W := by kernel_rfl
set_option maxHeartbeats 2000000 in
set_option maxRecDepth 100000 in
theorem takes_any (o x y : Int) (w : World) (hN : Nms w) : Calls Tryd.prog 15 #[.agg #[.int .i64 o, .int .i64 x, .int .i64 y]] w fun e w' => e = .returned (.string (bs (tkI (o, x, y)))) ∧ Below w.heap.size w w' := by
  have G := below_alloc w (.cells #[.int .i64 o, .int .i64 x, .int .i64 y] 37)
  have cr := right_any o x y (w.alloc (.cells #[.int .i64 o, .int .i64 x, .int .i64 y] 37)) (hN.below G)
  have B0 := new_block w (.cells #[.int .i64 o, .int .i64 x, .int .i64 y] 37)
  cases hr : right (o, x, y)
  · rw [hr] at cr
    have HQ : Hid (tkI (o, x, y) = []) := by show _ = _; unfold tkI; rw [hr]; rfl
    have C := Lib.hid cr
    clear cr hr hN B0
    go_enter Tryd.func15, Tryd.ntmps15
    go_wp2_with (go_at_call 29; refine C.out.mono ?_; rintro e w1 ⟨rfl, hb1⟩)
    go_ret
    exact ⟨by rw [HQ.out]; rfl, keep_below G hb1⟩
  · rw [hr] at cr
    have HQ : Hid (tkI (o, x, y) = tk o) := by show _ = _; unfold tkI; rw [hr]; rfl
    have hk := right_kn hr
    have h1 : 1 ≤ o := hk.1
    have h2 : o ≤ (25 : Nat) := hk.2
    have C := Lib.hid cr
    clear cr hr hN hk
    go_enter Tryd.func15, Tryd.ntmps15
    go_wp2_with (go_at_call 29; refine C.out.mono ?_; rintro e w1 ⟨rfl, hb1⟩)
    have c0 : w1.cell? ⟨w.heap.size, 0, none⟩ = some (.int .i64 o) := keep_cell hb1 (by simp)
    clear C
    have hfd := run_field53
    go_region_held3 (fun W => W.cell? ⟨w.heap.size, 0, none⟩ = some (.int .i64 o)) (first | exact c0 | exact keep_cell (by assumption) (by assumption) | assumption) (first | (go_at_call 18; refine (effects_any _).mono ?_; rintro e w2 ⟨b, rfl, hF, hb2⟩; obtain ⟨t, g, hL, ⟨bt, rfl, _, ht⟩, hg⟩ := hF.look h1 h2 (by decide); have hl := hL w2 (Below.refl _ _); clear hL) | (go_at_call 51; refine (took_any _ _ _ ht).mono ?_; rintro e w3 ⟨rfl, rfl⟩))
    go_wp2
    go_ret
    exact ⟨by rw [HQ.out]; rfl, (keep_below G hb1).drew.trans (hb2.mono (keep_below G hb1).size)⟩
theorem keep_set {W : World} {q p : Addr} {v z : Value} (hne : p.block ≠ q.block) (h : W.cell? p = some z) : (W.setCell q v).cell? p = some z := by
  rw [World.cell?_of_block (w := W) (Go.Deep.blk_setCell_other _ _ _ _ hne)]; exact h
theorem keep_set2 {W : World} {b : Nat} {p : Addr} {v u z : Value} (hne : p.block ≠ b) (h : W.cell? p = some z) : ((W.setCell ⟨b, 0, none⟩ v).setCell ⟨b, 1, none⟩ u).cell? p = some z :=
  keep_set hne (keep_set hne h)
theorem GvV.set2 {lo : Nat} {w : World} {v : Value} {f : Int → List UInt8 → List UInt8} {b : Nat} (hg : GvV lo w v f) (z0 : w.cell? ⟨b, 0, none⟩ = some .nilFunc) (x y : Value) : GvV lo ((w.setCell ⟨b, 0, none⟩ x).setCell ⟨b, 1, none⟩ y) v f := by
  rcases hg with ⟨bg, sg, e1, l, e2, e3⟩ | hg
  · refine Or.inl ⟨bg, sg, e1, l, keep_set2 ?_ e2, e3⟩
    intro e; simp only at e; rw [e, z0] at e2; cases e2
  · exact Or.inr hg
theorem GvV.shape {lo : Nat} {w : World} {v : Value} {f : Int → List UInt8 → List UInt8} (h : GvV lo w v f) : ∃ n c, v = .func (.func n) #[] c := by
  rcases h with ⟨b, s, e, _⟩ | ⟨e, _⟩ | ⟨e, _⟩ | ⟨e, _⟩ <;> exact ⟨_, _, e⟩
set_option maxHeartbeats 2000000 in
set_option maxRecDepth 100000 in
theorem gives_any (o x y : Int) (t : List UInt8) (ht : t.length ≤ 1000) (w : World) (hN : Nms w) : Calls Tryd.prog 16 #[.agg #[.int .i64 o, .int .i64 x, .int .i64 y], .string (bs t)] w fun e w' => e = .returned (.string (bs (gvI (o, x, y) t))) ∧ Below w.heap.size w w' := by
  have G := below_alloc w (.cells #[.int .i64 o, .int .i64 x, .int .i64 y] 37)
  have cr := right_any o x y (w.alloc (.cells #[.int .i64 o, .int .i64 x, .int .i64 y] 37)) (hN.below G)
  have B0 := new_block w (.cells #[.int .i64 o, .int .i64 x, .int .i64 y] 37)
  have HS := Lib.hid ht
  clear ht
  cases hr : right (o, x, y)
  · rw [hr] at cr
    have HQ : Hid (gvI (o, x, y) t = []) := by show _ = _; unfold gvI; rw [hr]; rfl
    have C := Lib.hid cr
    clear cr hr hN B0
    generalize bs t = s
    go_enter Tryd.func16, Tryd.ntmps16
    go_wp2_with (go_at_call 29; refine C.out.mono ?_; rintro e w1 ⟨rfl, hb1⟩)
    go_ret
    exact ⟨by rw [HQ.out]; rfl, keep_below G hb1⟩
  · rw [hr] at cr
    have hk := right_kn hr
    have h1 : 1 ≤ o := hk.1
    have h2 : o ≤ (25 : Nat) := hk.2
    have HR := Lib.hid hr
    have C := Lib.hid cr
    clear cr hr hN hk
    obtain ⟨s, hs⟩ : ∃ s, s = bs t := ⟨_, rfl⟩
    rw [← hs]
    have HSs := Lib.hid hs
    clear hs
    have hsf := @run_store_func Tryd.prog
    go_enter Tryd.func16, Tryd.ntmps16
    go_wp2_with (go_at_call 29; refine C.out.mono ?_; rintro e w1 ⟨rfl, hb1⟩)
    have c0 : w1.cell? ⟨w.heap.size, 0, none⟩ = some (.int .i64 o) := keep_cell hb1 (by simp)
    have c1 : w1.cell? ⟨w.heap.size, 1, none⟩ = some (.int .i64 x) := keep_cell hb1 (by simp)
    clear C
    go_region_held3 (fun W => W.cell? ⟨w.heap.size, 0, none⟩ = some (.int .i64 o)) (first | exact c0 | exact keep_cell (by assumption) (by assumption) | exact keep_cell (below_alloc _ _) (by assumption) | assumption | exact keep_cell (below_alloc _ _) (keep_cell hb2 c0) | exact keep_set2 (Nat.ne_of_lt z5) (by assumption) | go_keep) (first | (go_at_call 18; refine (effects_any _).mono ?_; rintro e w2 ⟨b, rfl, hF, hb2⟩; obtain ⟨tt, g, hL, ⟨bt, rfl, _, ht⟩, hg⟩ := hF.look h1 h2 (by decide); obtain ⟨f, c, rfl⟩ := hg.shape; have hl := hL w2 (Below.refl _ _); have hl2 := hL _ (below_alloc w2 (.cells #[.nilFunc, .nilFunc] 53)); clear hL; try (have hz : w2.heap[w1.heap.size]? = some (.cells #[.nilFunc, .nilFunc] 53 (0, 0)) := (hb2.block w1.heap.size (by simp)).trans (new_block w1.drew _); have z0 := (Lib.cell_of_heap hz 0).trans (rfl : _ = some Value.nilFunc); have z1 := (Lib.cell_of_heap hz 1).trans (rfl : _ = some Value.nilFunc); have z2 := Lib.frozen_of_heap hz 0; have z3 := Lib.frozen_of_heap hz 1; have z4 : w1.heap.size < w2.heap.size := cell_lt z0; have z5 : w.heap.size < w1.heap.size := cell_lt c0)))
    · have k1 := keep_below (keep_below G hb1).drew (hb2.mono (Nat.le_refl _))
      have jB : Below w.heap.size w (w2.alloc (.cells #[.func (.func 51) #[] #[.pointer (some ⟨bt, 0, none⟩)], .func (.func f) #[] c] 53)) := keep_below k1 (below_alloc _ _)
      have kk := keeps_below (below_alloc w2 (.cells #[.func (.func 51) #[] #[.pointer (some ⟨bt, 0, none⟩)], .func (.func f) #[] c] 53))
      have j0 : (w2.alloc (.cells #[.func (.func 51) #[] #[.pointer (some ⟨bt, 0, none⟩)], .func (.func f) #[] c] 53)).cell? ⟨w2.heap.size, 0, none⟩ = some (.func (.func 51) #[] #[.pointer (some ⟨bt, 0, none⟩)]) := by simp
      have j1 : (w2.alloc (.cells #[.func (.func 51) #[] #[.pointer (some ⟨bt, 0, none⟩)], .func (.func f) #[] c] 53)).cell? ⟨w2.heap.size, 1, none⟩ = some (.func (.func f) #[] c) := by simp
      have jt := kk _ _ ht
      have jx := kk _ _ (keep_cell hb2 c1)
      have jg := hg.keep kk
      generalize w2.alloc (.cells #[.func (.func 51) #[] #[.pointer (some ⟨bt, 0, none⟩)], .func (.func f) #[] c] 53) = W at jB j0 j1 jt jx jg ⊢
      clear kk k1 hF hl hl2 hb2 ht hg
      generalize w2.heap.size = PP at j0 j1 ⊢
      clear c0 c1 hb1 h1
      go_wp2_with fail
      refine (took_any _ _ _ jt).mono ?_
      rintro e w3 ⟨rfl, rfl⟩
      go_wp2_with fail
      have CF := fits_any t (tk o) (by have := HS.out; omega) W
      rw [← HSs.out] at CF
      cases hf : fit t (tk o)
      · rw [hf] at CF
        have HQ2 : gvI (o, x, y) t = [] := by unfold gvI; rw [hf]; simp
        refine CF.mono ?_
        rintro e w3 ⟨rfl, hb3⟩
        clear hf CF
        go_wp2
        go_ret
        exact ⟨by rw [HQ2]; rfl, keep_below jB hb3⟩
      · rw [hf] at CF
        have HQ1 : gvI (o, x, y) t = gv o x t := by unfold gvI; rw [hf, HR.out]; simp
        refine CF.mono ?_
        rintro e w3 ⟨rfl, hb3⟩
        clear CF
        have j0' := keep_cell hb3 j0
        have j1' := keep_cell hb3 j1
        have jx' := keep_cell hb3 jx
        clear j0 j1 jx jt
        rcases jg.keep (keeps_below hb3) with ⟨bg, sg, e1, _, e2, e3⟩ | ⟨e1, e2⟩ | ⟨e1, e2⟩ | ⟨e1, e2⟩
        · have HQ2 : gvI (o, x, y) t = sg := by rw [HQ1, e3]
          have CG : Calls Tryd.prog 52 #[.int .i64 x, .string s, .pointer (some ⟨bg, 0, none⟩)] w3 fun e w' => e = .returned (.string (bs sg)) ∧ Below w3.heap.size w3 w' := (gave_any (bs sg) s x w3 bg e2).mono (fun e w' h => ⟨h.1, h.2 ▸ Below.refl _ _⟩)
          clear HQ1 e3 hf jg
          obtain ⟨rfl, rfl⟩ : f = 52 ∧ c = #[.pointer (some ⟨bg, 0, none⟩)] := by simpa using e1
          have HQ := Lib.hid HQ2
          clear HQ2
          go_wp2_with fail
          refine CG.mono ?_
          rintro e w4 ⟨rfl, hb4⟩
          go_wp2
          go_ret
          exact ⟨by rw [HQ.out]; rfl, keep_below (keep_below jB hb3) hb4⟩
        · have HQ2 : gvI (o, x, y) t = t ++ t := by rw [HQ1, e2]; rfl
          have CG : Calls Tryd.prog 34 #[.int .i64 x, .string s] w3 fun e w' => e = .returned (.string (bs (t ++ t))) ∧ Below w3.heap.size w3 w' := by rw [HSs.out]; exact (twice_any x t HS.out w3).mono (fun e w' h => ⟨h.1, h.2 ▸ Below.refl _ _⟩)
          clear HQ1 e2 hf jg
          generalize t ++ t = Z at HQ2 CG
          obtain ⟨rfl, rfl⟩ : f = 34 ∧ c = #[] := by simpa using e1
          have HQ := Lib.hid HQ2
          clear HQ2
          go_wp2_with fail
          refine CG.mono ?_
          rintro e w4 ⟨rfl, hb4⟩
          go_wp2
          go_ret
          exact ⟨by rw [HQ.out]; rfl, keep_below (keep_below jB hb3) hb4⟩
        · have HQ2 : gvI (o, x, y) t = t.drop 1 ++ t.take 1 := by rw [HQ1, e2]; rfl
          have ho : o = 4 := gv4_only e2
          have hl4 : t.length = 2 := by have := fit_len hf; rw [ho] at this; exact this
          have CG : Calls Tryd.prog 35 #[.int .i64 x, .string s] w3 fun e w' => e = .returned (.string (bs (t.drop 1 ++ t.take 1))) ∧ Below w3.heap.size w3 w' := by rw [HSs.out]; exact turned_any x t (by omega) HS.out w3
          clear HQ1 e2 hf jg ho hl4
          generalize t.drop 1 ++ t.take 1 = Z at HQ2 CG
          obtain ⟨rfl, rfl⟩ : f = 35 ∧ c = #[] := by simpa using e1
          have HQ := Lib.hid HQ2
          clear HQ2
          go_wp2_with fail
          refine CG.mono ?_
          rintro e w4 ⟨rfl, hb4⟩
          go_wp2
          go_ret
          exact ⟨by rw [HQ.out]; rfl, keep_below (keep_below jB hb3) hb4⟩
        · have HQ2 : gvI (o, x, y) t = (if x = 11 ∨ x = 12 then [98] else [105]) := by rw [HQ1, e2]; rfl
          have CG : Calls Tryd.prog 36 #[.int .i64 x, .string s] w3 fun e w' => e = .returned (.string (bs (if x = 11 ∨ x = 12 then [98] else [105]))) ∧ Below w3.heap.size w3 w' := (reckoned_any x s w3).mono (fun e w' h => ⟨h.1, h.2 ▸ Below.refl _ _⟩)
          clear HQ1 e2 hf jg
          obtain ⟨Z, hZ⟩ : ∃ Z : List UInt8, Z = (if x = 11 ∨ x = 12 then [98] else [105]) := ⟨_, rfl⟩
          rw [← hZ] at HQ2 CG
          clear hZ
          obtain ⟨rfl, rfl⟩ : f = 36 ∧ c = #[] := by simpa using e1
          have HQ := Lib.hid HQ2
          clear HQ2
          go_wp2_with fail
          refine CG.mono ?_
          rintro e w4 ⟨rfl, hb4⟩
          go_wp2
          go_ret
          exact ⟨by rw [HQ.out]; rfl, keep_below (keep_below jB hb3) hb4⟩
    · have k1 := keep_below (keep_below G hb1).drew (hb2.mono (Nat.le_refl _))
      have jB : Below w.heap.size w (w2.alloc (.cells #[.func (.func 51) #[] #[.pointer (some ⟨bt, 0, none⟩)], .func (.func f) #[] c] 53)) := keep_below k1 (below_alloc _ _)
      have kk := keeps_below (below_alloc w2 (.cells #[.func (.func 51) #[] #[.pointer (some ⟨bt, 0, none⟩)], .func (.func f) #[] c] 53))
      have j0 : (w2.alloc (.cells #[.func (.func 51) #[] #[.pointer (some ⟨bt, 0, none⟩)], .func (.func f) #[] c] 53)).cell? ⟨w2.heap.size, 0, none⟩ = some (.func (.func 51) #[] #[.pointer (some ⟨bt, 0, none⟩)]) := by simp
      have j1 : (w2.alloc (.cells #[.func (.func 51) #[] #[.pointer (some ⟨bt, 0, none⟩)], .func (.func f) #[] c] 53)).cell? ⟨w2.heap.size, 1, none⟩ = some (.func (.func f) #[] c) := by simp
      have jt := kk _ _ ht
      have jx := kk _ _ (keep_cell hb2 c1)
      have jg := hg.keep kk
      generalize w2.alloc (.cells #[.func (.func 51) #[] #[.pointer (some ⟨bt, 0, none⟩)], .func (.func f) #[] c] 53) = W at jB j0 j1 jt jx jg ⊢
      clear kk k1 hF hl hl2 hb2 ht hg
      generalize w2.heap.size = PP at j0 j1 ⊢
      clear c0 c1 hb1 h1
      go_wp2_with fail
      refine (took_any _ _ _ jt).mono ?_
      rintro e w3 ⟨rfl, rfl⟩
      go_wp2_with fail
      have CF := fits_any t (tk o) (by have := HS.out; omega) W
      rw [← HSs.out] at CF
      cases hf : fit t (tk o)
      · rw [hf] at CF
        have HQ2 : gvI (o, x, y) t = [] := by unfold gvI; rw [hf]; simp
        refine CF.mono ?_
        rintro e w3 ⟨rfl, hb3⟩
        clear hf CF
        go_wp2
        go_ret
        exact ⟨by rw [HQ2]; rfl, keep_below jB hb3⟩
      · rw [hf] at CF
        have HQ1 : gvI (o, x, y) t = gv o x t := by unfold gvI; rw [hf, HR.out]; simp
        refine CF.mono ?_
        rintro e w3 ⟨rfl, hb3⟩
        clear CF
        have j0' := keep_cell hb3 j0
        have j1' := keep_cell hb3 j1
        have jx' := keep_cell hb3 jx
        clear j0 j1 jx jt
        rcases jg.keep (keeps_below hb3) with ⟨bg, sg, e1, _, e2, e3⟩ | ⟨e1, e2⟩ | ⟨e1, e2⟩ | ⟨e1, e2⟩
        · have HQ2 : gvI (o, x, y) t = sg := by rw [HQ1, e3]
          have CG : Calls Tryd.prog 52 #[.int .i64 x, .string s, .pointer (some ⟨bg, 0, none⟩)] w3 fun e w' => e = .returned (.string (bs sg)) ∧ Below w3.heap.size w3 w' := (gave_any (bs sg) s x w3 bg e2).mono (fun e w' h => ⟨h.1, h.2 ▸ Below.refl _ _⟩)
          clear HQ1 e3 hf jg
          obtain ⟨rfl, rfl⟩ : f = 52 ∧ c = #[.pointer (some ⟨bg, 0, none⟩)] := by simpa using e1
          have HQ := Lib.hid HQ2
          clear HQ2
          go_wp2_with fail
          refine CG.mono ?_
          rintro e w4 ⟨rfl, hb4⟩
          go_wp2
          go_ret
          exact ⟨by rw [HQ.out]; rfl, keep_below (keep_below jB hb3) hb4⟩
        · have HQ2 : gvI (o, x, y) t = t ++ t := by rw [HQ1, e2]; rfl
          have CG : Calls Tryd.prog 34 #[.int .i64 x, .string s] w3 fun e w' => e = .returned (.string (bs (t ++ t))) ∧ Below w3.heap.size w3 w' := by rw [HSs.out]; exact (twice_any x t HS.out w3).mono (fun e w' h => ⟨h.1, h.2 ▸ Below.refl _ _⟩)
          clear HQ1 e2 hf jg
          generalize t ++ t = Z at HQ2 CG
          obtain ⟨rfl, rfl⟩ : f = 34 ∧ c = #[] := by simpa using e1
          have HQ := Lib.hid HQ2
          clear HQ2
          go_wp2_with fail
          refine CG.mono ?_
          rintro e w4 ⟨rfl, hb4⟩
          go_wp2
          go_ret
          exact ⟨by rw [HQ.out]; rfl, keep_below (keep_below jB hb3) hb4⟩
        · have HQ2 : gvI (o, x, y) t = t.drop 1 ++ t.take 1 := by rw [HQ1, e2]; rfl
          have ho : o = 4 := gv4_only e2
          have hl4 : t.length = 2 := by have := fit_len hf; rw [ho] at this; exact this
          have CG : Calls Tryd.prog 35 #[.int .i64 x, .string s] w3 fun e w' => e = .returned (.string (bs (t.drop 1 ++ t.take 1))) ∧ Below w3.heap.size w3 w' := by rw [HSs.out]; exact turned_any x t (by omega) HS.out w3
          clear HQ1 e2 hf jg ho hl4
          generalize t.drop 1 ++ t.take 1 = Z at HQ2 CG
          obtain ⟨rfl, rfl⟩ : f = 35 ∧ c = #[] := by simpa using e1
          have HQ := Lib.hid HQ2
          clear HQ2
          go_wp2_with fail
          refine CG.mono ?_
          rintro e w4 ⟨rfl, hb4⟩
          go_wp2
          go_ret
          exact ⟨by rw [HQ.out]; rfl, keep_below (keep_below jB hb3) hb4⟩
        · have HQ2 : gvI (o, x, y) t = (if x = 11 ∨ x = 12 then [98] else [105]) := by rw [HQ1, e2]; rfl
          have CG : Calls Tryd.prog 36 #[.int .i64 x, .string s] w3 fun e w' => e = .returned (.string (bs (if x = 11 ∨ x = 12 then [98] else [105]))) ∧ Below w3.heap.size w3 w' := (reckoned_any x s w3).mono (fun e w' h => ⟨h.1, h.2 ▸ Below.refl _ _⟩)
          clear HQ1 e2 hf jg
          obtain ⟨Z, hZ⟩ : ∃ Z : List UInt8, Z = (if x = 11 ∨ x = 12 then [98] else [105]) := ⟨_, rfl⟩
          rw [← hZ] at HQ2 CG
          clear hZ
          obtain ⟨rfl, rfl⟩ : f = 36 ∧ c = #[] := by simpa using e1
          have HQ := Lib.hid HQ2
          clear HQ2
          go_wp2_with fail
          refine CG.mono ?_
          rintro e w4 ⟨rfl, hb4⟩
          go_wp2
          go_ret
          exact ⟨by rw [HQ.out]; rfl, keep_below (keep_below jB hb3) hb4⟩
    · have k1 : Below w.heap.size w w2 := keep_below (keep_below (keep_below G hb1).drew (below_alloc w1.drew _)) hb2
      have jB : Below w.heap.size w ((w2.setCell ⟨w1.heap.size, 0, none⟩ (.func (.func 51) #[] #[.pointer (some ⟨bt, 0, none⟩)])).setCell ⟨w1.heap.size, 1, none⟩ (.func (.func f) #[] c)) :=
        (k1.setCell (p := ⟨w1.heap.size, 0, none⟩) (Nat.le_of_lt z5) _).setCell (p := ⟨w1.heap.size, 1, none⟩) (Nat.le_of_lt z5) _
      have hne : bt ≠ w1.heap.size := by intro e; rw [e, z0] at ht; cases ht
      have j0 : ((w2.setCell ⟨w1.heap.size, 0, none⟩ (.func (.func 51) #[] #[.pointer (some ⟨bt, 0, none⟩)])).setCell ⟨w1.heap.size, 1, none⟩ (.func (.func f) #[] c)).cell? ⟨w1.heap.size, 0, none⟩ = some (.func (.func 51) #[] #[.pointer (some ⟨bt, 0, none⟩)]) := by
        simp [World.cell?, World.setCell, Array.getElem?_modify, hz]
      have j1 : ((w2.setCell ⟨w1.heap.size, 0, none⟩ (.func (.func 51) #[] #[.pointer (some ⟨bt, 0, none⟩)])).setCell ⟨w1.heap.size, 1, none⟩ (.func (.func f) #[] c)).cell? ⟨w1.heap.size, 1, none⟩ = some (.func (.func f) #[] c) := by
        simp [World.cell?, World.setCell, Array.getElem?_modify, hz]
      have jt := keep_set2 (v := .func (.func 51) #[] #[.pointer (some ⟨bt, 0, none⟩)]) (u := .func (.func f) #[] c) (b := w1.heap.size) hne ht
      have jx := keep_set2 (v := .func (.func 51) #[] #[.pointer (some ⟨bt, 0, none⟩)]) (u := .func (.func f) #[] c) (b := w1.heap.size) (p := ⟨w.heap.size, 1, none⟩) (Nat.ne_of_lt z5) (keep_cell hb2 (keep_cell (below_alloc w1 (.cells #[.nilFunc, .nilFunc] 53)).drew c1))
      have jg := hg.set2 z0 (.func (.func 51) #[] #[.pointer (some ⟨bt, 0, none⟩)]) (.func (.func f) #[] c)
      generalize ((w2.setCell ⟨w1.heap.size, 0, none⟩ (.func (.func 51) #[] #[.pointer (some ⟨bt, 0, none⟩)])).setCell ⟨w1.heap.size, 1, none⟩ (.func (.func f) #[] c)) = W at jB j0 j1 jt jx jg ⊢
      clear k1 hF hl hl2 hb2 ht hg hne z0 z1 z2 z3 z4 z5 hz
      generalize w1.heap.size = PP at j0 j1 ⊢
      clear c0 c1 hb1 h1
      go_wp2_with fail
      refine (took_any _ _ _ jt).mono ?_
      rintro e w3 ⟨rfl, rfl⟩
      go_wp2_with fail
      have CF := fits_any t (tk o) (by have := HS.out; omega) W
      rw [← HSs.out] at CF
      cases hf : fit t (tk o)
      · rw [hf] at CF
        have HQ2 : gvI (o, x, y) t = [] := by unfold gvI; rw [hf]; simp
        refine CF.mono ?_
        rintro e w3 ⟨rfl, hb3⟩
        clear hf CF
        go_wp2
        go_ret
        exact ⟨by rw [HQ2]; rfl, keep_below jB hb3⟩
      · rw [hf] at CF
        have HQ1 : gvI (o, x, y) t = gv o x t := by unfold gvI; rw [hf, HR.out]; simp
        refine CF.mono ?_
        rintro e w3 ⟨rfl, hb3⟩
        clear CF
        have j0' := keep_cell hb3 j0
        have j1' := keep_cell hb3 j1
        have jx' := keep_cell hb3 jx
        clear j0 j1 jx jt
        rcases jg.keep (keeps_below hb3) with ⟨bg, sg, e1, _, e2, e3⟩ | ⟨e1, e2⟩ | ⟨e1, e2⟩ | ⟨e1, e2⟩
        · have HQ2 : gvI (o, x, y) t = sg := by rw [HQ1, e3]
          have CG : Calls Tryd.prog 52 #[.int .i64 x, .string s, .pointer (some ⟨bg, 0, none⟩)] w3 fun e w' => e = .returned (.string (bs sg)) ∧ Below w3.heap.size w3 w' := (gave_any (bs sg) s x w3 bg e2).mono (fun e w' h => ⟨h.1, h.2 ▸ Below.refl _ _⟩)
          clear HQ1 e3 hf jg
          obtain ⟨rfl, rfl⟩ : f = 52 ∧ c = #[.pointer (some ⟨bg, 0, none⟩)] := by simpa using e1
          have HQ := Lib.hid HQ2
          clear HQ2
          go_wp2_with fail
          refine CG.mono ?_
          rintro e w4 ⟨rfl, hb4⟩
          go_wp2
          go_ret
          exact ⟨by rw [HQ.out]; rfl, keep_below (keep_below jB hb3) hb4⟩
        · have HQ2 : gvI (o, x, y) t = t ++ t := by rw [HQ1, e2]; rfl
          have CG : Calls Tryd.prog 34 #[.int .i64 x, .string s] w3 fun e w' => e = .returned (.string (bs (t ++ t))) ∧ Below w3.heap.size w3 w' := by rw [HSs.out]; exact (twice_any x t HS.out w3).mono (fun e w' h => ⟨h.1, h.2 ▸ Below.refl _ _⟩)
          clear HQ1 e2 hf jg
          generalize t ++ t = Z at HQ2 CG
          obtain ⟨rfl, rfl⟩ : f = 34 ∧ c = #[] := by simpa using e1
          have HQ := Lib.hid HQ2
          clear HQ2
          go_wp2_with fail
          refine CG.mono ?_
          rintro e w4 ⟨rfl, hb4⟩
          go_wp2
          go_ret
          exact ⟨by rw [HQ.out]; rfl, keep_below (keep_below jB hb3) hb4⟩
        · have HQ2 : gvI (o, x, y) t = t.drop 1 ++ t.take 1 := by rw [HQ1, e2]; rfl
          have ho : o = 4 := gv4_only e2
          have hl4 : t.length = 2 := by have := fit_len hf; rw [ho] at this; exact this
          have CG : Calls Tryd.prog 35 #[.int .i64 x, .string s] w3 fun e w' => e = .returned (.string (bs (t.drop 1 ++ t.take 1))) ∧ Below w3.heap.size w3 w' := by rw [HSs.out]; exact turned_any x t (by omega) HS.out w3
          clear HQ1 e2 hf jg ho hl4
          generalize t.drop 1 ++ t.take 1 = Z at HQ2 CG
          obtain ⟨rfl, rfl⟩ : f = 35 ∧ c = #[] := by simpa using e1
          have HQ := Lib.hid HQ2
          clear HQ2
          go_wp2_with fail
          refine CG.mono ?_
          rintro e w4 ⟨rfl, hb4⟩
          go_wp2
          go_ret
          exact ⟨by rw [HQ.out]; rfl, keep_below (keep_below jB hb3) hb4⟩
        · have HQ2 : gvI (o, x, y) t = (if x = 11 ∨ x = 12 then [98] else [105]) := by rw [HQ1, e2]; rfl
          have CG : Calls Tryd.prog 36 #[.int .i64 x, .string s] w3 fun e w' => e = .returned (.string (bs (if x = 11 ∨ x = 12 then [98] else [105]))) ∧ Below w3.heap.size w3 w' := (reckoned_any x s w3).mono (fun e w' h => ⟨h.1, h.2 ▸ Below.refl _ _⟩)
          clear HQ1 e2 hf jg
          obtain ⟨Z, hZ⟩ : ∃ Z : List UInt8, Z = (if x = 11 ∨ x = 12 then [98] else [105]) := ⟨_, rfl⟩
          rw [← hZ] at HQ2 CG
          clear hZ
          obtain ⟨rfl, rfl⟩ : f = 36 ∧ c = #[] := by simpa using e1
          have HQ := Lib.hid HQ2
          clear HQ2
          go_wp2_with fail
          refine CG.mono ?_
          rintro e w4 ⟨rfl, hb4⟩
          go_wp2
          go_ret
          exact ⟨by rw [HQ.out]; rfl, keep_below (keep_below jB hb3) hb4⟩
end Go.Proofs.YtkkoekfdncoifaaDoor
