/- What is proved here: contracts of (*vm.Machine).take, lay and takeTwo. Conditions: there is what is taken; the stack is not too long. -/
import Derived.Test.YthncbnalnfbpnaaGreatDoorGr
import Derived.BigRegion
import Derived.Maps.AppendAt
section
namespace Go.Proofs.YthncbnalnfbpnaaGreatDoor
open Go.ChangeShapes Go.WideShapes Go.RowKit Go.Maps

theorem own_pop' {w : World} {g cap m : Nat} {xs : List Value} {x : Value} (h : w.ownsRow 0 3 1 (.slice (some ⟨g, 0, none⟩) (m + 1) cap) (m + 1) (xs ++ [x])) :
    w.ownsRow 0 3 1 (.slice (some ⟨g, 0, none⟩) m cap) m xs := by
  have hl := h.1
  simp at hl
  refine ⟨by simpa using hl, ?_⟩
  rcases h.2 with ⟨h1, h2⟩ | ⟨g', cap', cur, h1, h2, h3, h4, h5, h6, h7⟩
  · omega
  · simp only [Value.slice.injEq, Option.some.injEq, Addr.mk.injEq] at h1
    obtain ⟨⟨rfl, _, _⟩, _, rfl⟩ := h1
    refine Or.inr ⟨g, cap, cur, rfl, h2, h3, by omega, h5, h6, ?_⟩
    have := congrArg (List.take m) h7
    rw [List.take_take, Nat.mul_one] at this
    rw [Nat.mul_one]
    have e : min m (m + 1) = m := by omega
    rw [e] at this
    rw [this, List.take_append_of_le_length (by omega), List.take_of_length_le (by omega)]
theorem own_last' {w : World} {v : Value} {m : Nat} {xs : List Value} {x : Value} (h : w.ownsRow 0 3 1 v (m + 1) (xs ++ [x])) :
    ∃ g cap, v = .slice (some ⟨g, 0, none⟩) (m + 1) cap ∧ m + 1 ≤ cap ∧ w.cell? ⟨g, m, none⟩ = some x := by
  have hl := h.1
  simp at hl
  rcases h.2 with ⟨_, h2⟩ | ⟨g, cap, cur, h1, h2, h3, h4, _, h6, h7⟩
  · omega
  · refine ⟨g, cap, h1, h4, ?_⟩
    subst h1
    rw [h.cellAt m (by omega), List.getElem?_append_right (by omega)]
    simp [hl]
/-- A stack that is another one. -/
theorem MacC.stack {w w' : World} {F F' : Nat → Prop} {b bm : Nat} {rv st lp st' : Value} {L : List (Int × Int × Int)} {v : V} {s : List Int} (h : MacC w F b rv bm st lp L v)
    (hs : w'.ownsRow 0 3 1 st' s.length (s.map (Value.int .i64))) (hk : ∀ i, F i → some i ≠ st.ownBlock → w'.heap[i]? = w.heap[i]?)
    (hF : ∀ i, F i → F' i) (hF2 : ∀ k, st'.ownBlock = some k → F' k) (hF3 : ∀ k, F' k → k < w'.heap.size) (hb' : ∀ k, st'.ownBlock = some k → k ≠ b) :
    MacC (w'.setCell ⟨b, 13, none⟩ st') F' b rv bm st' lp L { v with stk := s } := by
  have nb : ∀ k, st.ownBlock = some k → k ≠ b := fun k => h.ne_stk
  have keep : ∀ i t cur, F i → w.heap[i]? = some (.cells cur t (0, 0)) → t ≠ 3 → w'.heap[i]? = w.heap[i]? := by
    intro i t cur hi hc ht
    refine hk i hi ?_
    intro e
    obtain ⟨cur2, hc2⟩ := own_type h.stk e.symm
    rw [hc] at hc2; simp at hc2; exact ht hc2.2
  obtain ⟨cb, hcb, hcn, hcf⟩ := h.cells
  have hb : w'.heap[b]? = w.heap[b]? := keep b _ _ h.fb hcb (by decide)
  have hmap : w'.heap[bm]? = w.heap[bm]? := by
    refine hk bm h.fm ?_
    intro e
    obtain ⟨cur2, hc2⟩ := own_type h.stk e.symm
    obtain ⟨es, c, hm⟩ := h.map.isMap
    rw [hm] at hc2; cases hc2
  exact {
    cells := ((h.cells.of_block hb).set 13 st').congr (fun j hj => by
      unfold mcell
      by_cases e : j = 13
      · subst e; simp
      · rw [if_neg e]
        simp only [e, if_false])
    row := own_of_block h.row (fun g hg => by
      obtain ⟨cur, hc⟩ := own_type h.row hg
      rw [Go.Deep.blk_setCell_other _ _ _ _ (h.ne_row hg)]; exact keep g _ _ (h.fr g hg) hc (by decide))
    map := h.map.of_block (by rw [Go.Deep.blk_setCell_other _ _ _ _ h.ne_map]; exact hmap)
    stk := own_of_block hs (fun g hg => Go.Deep.blk_setCell_other _ _ _ _ (hb' g hg))
    lps := own_of_block h.lps (fun g hg => by
      obtain ⟨cur, hc⟩ := own_type h.lps hg
      rw [Go.Deep.blk_setCell_other _ _ _ _ (h.ne_lps hg)]; exact keep g _ _ (h.fl g hg) hc (by decide))
    fb := hF _ h.fb
    fm := hF _ h.fm
    fr := fun k hk => hF _ (h.fr k hk)
    fs := hF2
    fl := fun k hk => hF _ (h.fl k hk)
    lt := fun k hk => by have := hF3 k hk; simpa [World.setCell] using this
    rl := h.rl
    ll := h.ll
    il := h.il
    ol := h.ol }
theorem take_any (w : World) (F : Nat → Prop) (b : Nat) (L : List (Int × Int × Int)) (v : V) (s : List Int) (x : Int) (h : Mac w F b L v) (hs : v.stk = s ++ [x]) (hl : s.length ≤ 1000) :
    Calls Tryz.prog 126 #[.pointer (some ⟨b, 0, none⟩)] w fun e w' => e = .returned (.int .i64 x) ∧ Mac w' F b L { v with stk := s } ∧ Chg F F b w w' := by
  obtain ⟨rv, bm, st, lp, h⟩ := h
  have hS := h.stk
  rw [hs] at hS
  simp only [List.length_append, List.length_cons, List.length_nil, Nat.zero_add, List.map_append, List.map_cons, List.map_nil] at hS
  obtain ⟨g, cap, rfl, hcap, hg⟩ := own_last' hS
  obtain ⟨m, hm⟩ : ∃ m, m = s.length := ⟨_, rfl⟩
  rw [← hm] at hS hcap hg h hl
  have c13 := h.c13
  have z13 := h.fz 13
  have hR : MacC (w.setCell ⟨b, 13, none⟩ (.slice (some ⟨g, 0, none⟩) m cap)) F b rv bm (.slice (some ⟨g, 0, none⟩) m cap) lp L { v with stk := s } :=
    h.stack (by rw [← hm]; exact own_pop' hS) (fun _ _ _ => rfl) (fun _ h => h) (fun k hk => h.fs k hk) h.lt (fun k hk => h.ne_stk hk)
  have HR := Lib.hid hR
  have HC := Lib.hid (chg_set (F := F) (i := 13) (x := b) (w := w) (u := .slice (some ⟨g, 0, none⟩) m cap) h.fb)
  have e1 : IntKind.i64.wrap ((m : Int) + 1 - 1) = (m : Int) := by rw [IntKind.wrap_i64]; omega
  have e2 : IntKind.i64.wrap (m : Int) = (m : Int) := by rw [IntKind.wrap_i64]; omega
  have e3 : (m : Int) < (m : Int) + 1 := by omega
  have e4 : m < m + 1 := by omega
  have e5 : m ≤ cap := by omega
  have e6 : (m : Int) ≤ (cap : Int) := by omega
  clear hR hS h hs hm
  go_enter Tryz.func126, Tryz.ntmps126
  go_wp2
  go_ret
  exact ⟨rfl, HR.out.hm, HC.out⟩
theorem int_info : (Tryz.prog.info? 3).map (fun i => (i.zero, i.size, i.bytes)) = some (some (.int .i64 0), 1, 8) := by kernel_rfl
theorem parts_info {i : Option TypeInfo} {z : Value} {s b : Nat} (h : i.map (fun i => (i.zero, i.size, i.bytes)) = some (some z, s, b)) : ∃ j, i = some j ∧ j.zero = some z ∧ j.size = s ∧ j.bytes = b := by
  obtain ⟨j, hj, e⟩ := Option.map_eq_some_iff.1 h
  simp only [Prod.mk.injEq] at e
  exact ⟨j, hj, e.1, e.2.1, e.2.2⟩
theorem lay_any (w : World) (F : Nat → Prop) (b : Nat) (L : List (Int × Int × Int)) (v : V) (x : Int) (h : Mac w F b L v) (hl : v.stk.length ≤ 1000) :
    Calls Tryz.prog 125 #[.pointer (some ⟨b, 0, none⟩), .int .i64 x] w fun e w' => e = .returned (.tuple #[]) ∧ ∃ F', Mac w' F' b L { v with stk := v.stk ++ [x] } ∧ Chg F F' b w w' := by
  obtain ⟨rv, bm, st, lp, h⟩ := h
  obtain ⟨i0, hi, hz0, hz1, hz2⟩ := parts_info int_info
  have c13 := h.c13
  have z13 := h.fz 13
  have gO := own_of_block (w' := w.alloc (.cells #[.int .i64 x] 3)) h.stk (fun g hg => Go.Deep.blk_alloc_lt _ _ _ (h.lt g (h.fs g hg)))
  have hlt := h.lt b h.fb
  have H := Lib.hid h
  clear h
  go_enter Tryz.func125, Tryz.ntmps125
  go_wp2_with (at_builtin; refine wpList_append_own_at (w.alloc (.cells #[.int .i64 x] 3)) rfl _ _ 22 rfl 0 3 i0 (.int .i64 0) 1 8 Tryz.underlying22 hi hz0 hz1 hz2 rfl (by decide) _ _ _ rfl gO ⟨w.heap.size, 0, none⟩ 1 1 [.int .i64 x] rfl rfl ?c1 ?c2 ?c3 ?c4 ?c5 ?_)
  case c1 =>
    intro j t hj
    match j, hj with
    | 0, hj => simp at hj; subst hj; simp [Addr.add]
  case c2 => intro t ht; simp at ht; subst ht; rfl
  case c3 => unfold maxLen; omega
  case c4 => omega
  case c5 => omega
  · intro v' w5 hown' hg _ ho
    have nb : some b ≠ st.ownBlock := fun e => H.out.ne_stk e.symm rfl
    have hb5 : w5.heap[b]? = w.heap[b]? := (hg.block b (by simp; omega) nb).trans (Go.Deep.blk_alloc_lt _ _ _ hlt)
    have d13 : w5.cell? ⟨b, 13, none⟩ = some st := (World.cell?_of_block hb5).trans c13
    have y13 : w5.frozen? ⟨b, 13, none⟩ = false := (World.frozen?_of_block hb5).trans z13
    have hsz := hg.size
    simp only [World.alloc, Array.size_push] at hsz
    have hst : ∀ k, v'.ownBlock = some k → st.ownBlock = some k ∨ w.heap.size + 1 = k := fun k hk => by
      rcases ho with e | e
      · exact Or.inl (e ▸ hk)
      · rw [e] at hk; cases hk; exact Or.inr rfl
    have hR : MacC (w5.setCell ⟨b, 13, none⟩ v') (fun k => F k ∨ v'.ownBlock = some k) b rv bm v' lp L { v with stk := v.stk ++ [x] } := by
      refine (H.out.blocks (w' := w.alloc (.cells #[.int .i64 x] 3)) (by simp) (fun i hi => Go.Deep.blk_alloc_lt _ _ _ (H.out.lt i hi))).stack (w' := w5) (by simpa using hown') (fun i hi hne => ?_) (fun _ h => Or.inl h) (fun k hk => Or.inr hk) ?_ ?_
      · exact hg.block i (by have := H.out.lt i hi; simp; omega) hne
      · rintro k (hk | hk)
        · have := H.out.lt k hk; omega
        · exact (hown'.lt k hk).2
      · intro k hk e
        rcases hst k hk with e2 | e2
        · exact H.out.ne_stk e2 e
        · omega
    have hC : Chg F (fun k => F k ∨ v'.ownBlock = some k) b w (w5.setCell ⟨b, 13, none⟩ v') := by
      refine ⟨hg.os, hg.tape, hg.output, by simp only [World.setCell, Array.size_modify]; omega, fun k hk hf hx => ?_, ?_⟩
      · rw [Go.Deep.blk_setCell_other _ _ _ _ hx, hg.block k (by simp; omega) (fun e => hf (H.out.fs k e.symm)), Go.Deep.blk_alloc_lt _ _ _ hk]
      · rintro k (hk | hk)
        · exact Or.inl hk
        · rcases hst k hk with e | e
          · exact Or.inl (H.out.fs k e)
          · exact Or.inr (by omega)
    have hv : ∃ a c, v' = .slice a (v.stk.length + 1) c := by
      rcases hown'.2 with ⟨_, h2⟩ | ⟨g, cap, cur, h1, _⟩
      · omega
      · exact ⟨_, _, h1⟩
    obtain ⟨a', c', rfl⟩ := hv
    have HR := Lib.hid hR
    have HC := Lib.hid hC
    clear hR hC ho hst hsz hb5 hg hown' H gO nb c13 z13
    go_wp2
    exact ⟨rfl, _, results_none rfl _ _ _, rfl, _, HR.out.hm, HC.out⟩
end Go.Proofs.YthncbnalnfbpnaaGreatDoor
end
