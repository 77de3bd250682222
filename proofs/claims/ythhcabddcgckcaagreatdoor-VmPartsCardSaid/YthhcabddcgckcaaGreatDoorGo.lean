/- What is proved here: the contracts of the law's Outs and of the document's Same. Conditions: the rows are not too long. the contract of the document's Same, of rows that are the same. Conditions: the rows are not too long. the contract of the law's Outs. Conditions: the row is not too long. a law for a region whose operations may come in any order, each of which gives one value, and one of which makes a block. Conditions: those the theorem states. the contract of (*vm.Machine).Copy. Conditions: the stack and the loops are not too long. the contract of (*vm.Machine).Copy. Conditions: the stack and the loops are not too long. -/
import Derived.Test.YthhcabddcgckcaaGreatDoorGn
import Derived.Deep.RegionLaw
import Derived.Deep.AppendLies
import Derived.RegionTactic
import Derived.ChangeAlike
import Derived.WalkLawsBesides
import Derived.Test.YthhcabddcgckcaaGreatDoorGb
import Derived.Test.YthhcabddcgckcaaGreatDoorGj
import Derived.Deep.RegionHeld3
section
namespace Go.Proofs.YthhcabddcgckcaaGreatDoor
open Go.ChangeShapes Go.WideShapes Go.RowKit Go.Maps

/-- A row of pairs. -/
def RowP (w : World) (a : Option Addr) (n : Nat) (l : List (Int × Int)) : Prop :=
  n = l.length ∧ (0 < n → ∃ b off, a = some ⟨b, off, none⟩ ∧ b < w.heap.size ∧ ∀ i, i < n → w.cell? ⟨b, off + i * 2, none⟩ = some (.int .i64 (l.getD i (0, 0)).1) ∧ w.cell? ⟨b, off + i * 2 + 1, none⟩ = some (.int .i64 (l.getD i (0, 0)).2))
theorem RowP.below {w w' : World} {a : Option Addr} {n : Nat} {l : List (Int × Int)} (h : RowP w a n l) (hb : Below w.heap.size w w') : RowP w' a n l := by
  refine ⟨h.1, fun hn => ?_⟩
  obtain ⟨b, off, e, hlt, hc⟩ := h.2 hn
  exact ⟨b, off, e, Nat.lt_of_lt_of_le hlt hb.size, fun i hi => ⟨keep_cell hb (hc i hi).1, keep_cell hb (hc i hi).2⟩⟩
theorem ouC_at (l : List (Int × Int)) (i : Nat) (h : i < l.length) : (ouC l)[i * 2]? = some (.int .i64 (l.getD i (0, 0)).1) ∧ (ouC l)[i * 2 + 1]? = some (.int .i64 (l.getD i (0, 0)).2) := by
  induction l generalizing i with
  | nil => simp at h
  | cons x l ih =>
    rcases i with _ | i
    · simp [ouC]
    · have := ih i (by simpa using h)
      have e : ouC (x :: l) = .int .i64 x.1 :: .int .i64 x.2 :: ouC l := rfl
      rw [e, show (i + 1) * 2 = i * 2 + 1 + 1 by omega, show i * 2 + 1 + 1 + 1 = (i * 2 + 1) + 1 + 1 by omega]
      simpa using this
theorem RowP.own {w : World} {base e : Nat} {v : Value} {m : Nat} {l : List (Int × Int)} (h : w.ownsRow base e 2 v m (ouC l)) : ∃ a c, v = .slice a m c ∧ RowP w a m l := by
  have hl := h.1
  rw [ouC_len] at hl
  have hm : m = l.length := by omega
  rcases h.2 with ⟨h1, h2⟩ | ⟨g, cap, cur, h1, h2, h3, h4⟩
  · subst h2; exact ⟨none, 0, h1, hm, fun h => absurd h (by omega)⟩
  · subst h1
    have hlt := (h.lt g rfl).2
    refine ⟨_, cap, rfl, hm, fun _ => ⟨g, 0, rfl, hlt, fun i hi => ?_⟩⟩
    obtain ⟨k1, k2⟩ := ouC_at l i (by omega)
    rw [show 0 + i * 2 = i * 2 by omega, h.cellAt (i * 2) (by omega), h.cellAt (i * 2 + 1) (by omega)]
    exact ⟨k1, k2⟩
theorem RowP.at_ {w : World} {a : Option Addr} {n k : Nat} {l : List (Int × Int)} (h : RowP w a n l) (hk : k < n) : ∃ b off x y, a = some ⟨b, off, none⟩ ∧ b < w.heap.size ∧ l[k]? = some (x, y) ∧
    w.cell? ⟨b, off + k * 2, none⟩ = some (.int .i64 x) ∧ w.cell? ⟨b, off + k * 2 + 1, none⟩ = some (.int .i64 y) := by
  obtain ⟨b, off, e, hlt, hc⟩ := h.2 (by omega)
  obtain ⟨h1, h2⟩ := hc k hk
  have hl : k < l.length := by have := h.1; omega
  refine ⟨b, off, (l.getD k (0, 0)).1, (l.getD k (0, 0)).2, e, hlt, ?_, h1, h2⟩
  simp [hl]
theorem ref_info : (Tryz.prog.info? 69).map (fun i => (i.zero, i.size, i.bytes)) = some (some (.agg #[.int .i64 0, .int .i64 0]), 2, 16) := by kernel_rfl
end Go.Proofs.YthhcabddcgckcaaGreatDoor
end

section
namespace Go.Proofs.YthhcabddcgckcaaGreatDoor
open Go.ChangeShapes Go.WideShapes Go.RowKit Go.Maps

set_option maxRecDepth 100000 in
theorem same8_eq (a a2 : Option Addr) (n c c2 : Nat) (l : List (Int × Int)) (w : World) (h1 : RowP w a n l) (h2 : RowP w a2 n l) (hn : n ≤ 1000) :
    Calls Tryz.prog 25 #[.slice a n c, .slice a2 n c2] w fun e w' => e = .returned (.bool true) ∧ Below w.heap.size w w' := by
  go_enter Tryz.func25, Tryz.ntmps25
  go_wp2
  go_loopw [5] (fun i wr => ∃ k : Nat, k ≤ n ∧ i = .int .i64 k ∧ Below w.heap.size w wr) (fun i _ => n - (intOf i).toNat)
  case atStart => exact ⟨0, by omega, rfl, Below.refl _ _⟩
  case round =>
    obtain ⟨k, hk1, rfl, hbl⟩ := hrel
    by_cases hlt : k < n
    · obtain ⟨b1, o1, x, y, rfl, hB1, hx, c1, d1⟩ := (h1.below hbl).at_ hlt
      obtain ⟨b2, o2, x2, y2, rfl, hB2, hx2, c2', d2⟩ := (h2.below hbl).at_ hlt
      rw [hx] at hx2
      simp only [Option.some.injEq, Prod.mk.injEq] at hx2
      obtain ⟨rfl, rfl⟩ := hx2
      have i1 : (0 : Int) ≤ (k : Int) := by omega
      have i2 : (k : Int) < (n : Int) := by omega
      clear hx h1 h2
      go_wp2
      go_region
      go_wp2
      go_roundw
      case rel => exact ⟨k + 1, by omega, by go_num, hbl.drew⟩
      case measure => simp [intOf]; omega
    · obtain rfl : k = n := by omega
      go_wp2
      go_ret
      exact ⟨rfl, hbl⟩
end Go.Proofs.YthhcabddcgckcaaGreatDoor
end

section
namespace Go.Proofs.YthhcabddcgckcaaGreatDoor
open Go.ChangeShapes Go.WideShapes Go.RowKit Go.Maps

theorem ouC_take {l : List (Int × Int)} {k : Nat} {x y : Int} (h : l[k]? = some (x, y)) : ouC (l.take (k + 1)) = ouC (l.take k) ++ [.int .i64 x, .int .i64 y] ∧ (l.take (k + 1)).length = (l.take k).length + 1 ∧ (l.take k).length = k := by
  obtain ⟨hk, e⟩ := List.getElem?_eq_some_iff.1 h
  rw [List.take_succ_eq_append_getElem hk, e, ouC_snoc]
  refine ⟨rfl, ?_, ?_⟩ <;> simp <;> omega
set_option maxHeartbeats 2000000 in
set_option maxRecDepth 100000 in
theorem outs26_any (a : Option Addr) (n c : Nat) (l : List (Int × Int)) (w : World) (h : RowP w a n l) (hn : n ≤ 100) :
    Calls Tryz.prog 26 #[.slice a n c] w fun e w' => ∃ a' n' c', e = .returned (.slice a' n' c') ∧ RowP w' a' n' l ∧ Below w.heap.size w w' := by
  obtain ⟨i0, hi, hz0, hz1, hz2⟩ := parts_info ref_info
  have HN := Lib.hid h.1
  go_enter Tryz.func26, Tryz.ntmps26
  go_wp2
  go_loopw [3, 4] (fun x i wr => ∃ k : Nat, k ≤ n ∧ i = .int .i64 k ∧ wr.ownsRow w.heap.size 69 2 x k (ouC (l.take k)) ∧ Below w.heap.size w wr) (fun _ i _ => n - (intOf i).toNat)
  case atStart => exact ⟨0, by omega, rfl, World.ownsRow_nil _ _ _ _, Below.refl _ _⟩
  case round =>
    obtain ⟨k, hk1, rfl, hown, hbl⟩ := hrel
    have hbs := hbl.size
    by_cases hlt : k < n
    · obtain ⟨b1, o1, x, y, rfl, hB1, hx, c1, d1⟩ := (h.below hbl).at_ hlt
      obtain ⟨e1, e2, e3⟩ := ouC_take hx
      have HE := Lib.hid e1
      have i1 : (0 : Int) ≤ (k : Int) := by omega
      have i2 : (k : Int) < (n : Int) := by omega
      have gO : ((wr.alloc (.cells #[.int .i64 x, .int .i64 y] 69)).drew).ownsRow w.heap.size 69 2 u3 k (ouC (l.take k)) := hown.alloc _
      have hnews : ∀ j u, ([.int .i64 x, .int .i64 y] : List Value)[j]? = some u → ((wr.alloc (.cells #[.int .i64 x, .int .i64 y] 69)).drew).cell? ((⟨wr.heap.size, 0, none⟩ : Addr).add j) = some u :=
        fun j u hj => World.news_of_block (new_block wr (.cells #[.int .i64 x, .int .i64 y] 69)) j u hj
      have hone : ∀ u ∈ ([.int .i64 x, .int .i64 y] : List Value), u.oneCell' = true := by intro u hu; simp at hu; rcases hu with rfl | rfl <;> rfl
      have h63 : k + 1 ≤ maxLen := by unfold maxLen; omega
      have hH : ((wr.alloc (.cells #[.int .i64 x, .int .i64 y] 69)).drew).heap.size = wr.heap.size + 1 := by simp [World.drew]
      have G1 : Below w.heap.size w ((wr.alloc (.cells #[.int .i64 x, .int .i64 y] 69)).drew) := (hbl.alloc hbs _).drew
      clear h hx e1 e2 e3 hbl
      go_wp2_with fail
      go_region_law (refine step_append_lies _ rfl (.tmp 11) (.tmp 23) 65 rfl w.heap.size 69 i0 (.agg #[.int .i64 0, .int .i64 0]) 2 16 Tryz.underlying65 hi hz0 hz1 hz2 rfl (by decide) u3 k (ouC (l.take k)) (by simp [Act.eval]) gO ⟨wr.heap.size, 0, none⟩ 1 1 [.int .i64 x, .int .i64 y] (by simp [Act.eval]) rfl hnews hone (by omega) h63 (by omega) (by omega) _ hH ?_; intro g cap w2 hown3 hgrow hat hltg)
      all_goals
        have hb5 : Below w.heap.size w w2 := G1.grown hgrow (by omega) (fun g hg => (gO.lt g hg).1)
        have hO5 : w2.ownsRow w.heap.size 69 2 (.slice (some ⟨g, 0, none⟩) (k + 1) cap) (k + 1) (ouC (l.take (k + 1))) := by rw [HE.out]; exact hown3
        clear hown gO hown3 hnews hone hgrow hat G1
        go_wp2
        go_roundw
        case rel => exact ⟨k + 1, by omega, by go_num, hO5, hb5⟩
        case measure => simp [intOf]; omega
    · obtain rfl : k = n := by omega
      go_wp2
      go_ret
      have hl : l.take k = l := by rw [HN.out]; exact List.take_length
      rw [hl] at hown
      obtain ⟨a', c', rfl, hr⟩ := RowP.own hown
      exact ⟨_, _, _, rfl, hr, hbl⟩
end Go.Proofs.YthhcabddcgckcaaGreatDoor
end

section
namespace Go.Proofs.YthhcabddcgckcaaGreatDoor
open Go.ChangeShapes Go.WideShapes Go.RowKit

theorem act_ext {a a' : Act} (hd : a.defers = a'.defers) (hs : a.tmps.size = a'.tmps.size) (h : ∀ k, k < a.tmps.size → a.eval (.tmp k) = a'.eval (.tmp k)) : a = a' := by
  obtain ⟨t, d⟩ := a
  obtain ⟨t', d'⟩ := a'
  simp only at hd hs
  subst hd
  congr 1
  apply Array.ext hs
  intro i h1 h2
  have := h i h1
  unfold Act.eval at this
  simpa [h1, h2] using this
structure DetI (T n : Nat) (dst : Nat → Nat) (val : Nat → Value) (bx : Nat) (X : Value) (a0 : Act) (W0 W1 : World) (listed : Array Bool) (a : Act) (w : World) : Prop where
  size : a.tmps.size = T
  defs : a.defers = []
  lsz : listed.size = n
  x0 : a.eval (.tmp 0) = X
  vals : ∀ i, i < n → listed.getD i true = true → a.eval (.tmp (dst i)) = val i
  oth : ∀ k, (∀ i, i < n → dst i ≠ k) → a.eval (.tmp k) = a0.eval (.tmp k)
  w0 : listed.getD bx true = false → w = W0
  w1 : listed.getD bx true = true → w = W1
theorem region_det {P : Program} {id : Nat} {ops : Array Oper} {Q : Exit → Act → World → Prop} {a : Act} {w : World} (T n : Nat) (dst : Nat → Nat) (val : Nat → Value) (dep : Nat → List Nat) (bx : Nat) (X : Value) (W0 W1 : World) (A1 : Act)
    (hm : P.follows .mixedOrders = true) (hn : ops.size = n) (hbx : bx < n) (hinj : ∀ i j, i < n → j < n → dst i = dst j → i = j) (h0 : ∀ i, i < n → dst i ≠ 0 ∧ dst i < T) (hT : a.tmps.size = T) (hdef : a.defers = []) (hX : a.eval (.tmp 0) = X)
    (hg : ∀ (i : Nat) o, ops[i]? = some o → o.guard = none ∧ o.dst = some (dst i) ∧ (∀ d ∈ dep i, d < i ∧ ∃ e ∈ o.after, e.on = d ∧ Region.binds .any e = true) ∧ ∀ e ∈ o.after, e.on < i)
    (hx : ∀ (i : Nat) o, ops[i]? = some o → ∀ a' : Act, a'.eval (.tmp 0) = X → (∀ j ∈ dep i, a'.eval (.tmp (dst j)) = val j) →
      (i = bx → (execOp a'.eval o).run P W0 = .ok (.value (val i)) W1) ∧ (i ≠ bx → ∀ W, (W = W0 ∨ W = W1) → (execOp a'.eval o).run P W = .ok (.value (val i)) W))
    (hW : W0 = w.drew) (k1 : A1.tmps.size = T) (k2 : A1.defers = []) (k3 : ∀ i, i < n → A1.eval (.tmp (dst i)) = val i) (k4 : ∀ k, k < T → (∀ i, i < n → dst i ≠ k) → A1.eval (.tmp k) = a.eval (.tmp k))
    (hQ : Q .normal A1 W1) : (Code.region id ops true).wp P Q a w := by
  refine wp_region_any hm (wpAny_inv (I := DetI T n dst val bx X a W0 W1) ?_ ?_ ?_ ops.size _ a _ (by simp) ?_ ?_)
  · intro i o ho e he
    exact (hg i o ho).2.2.2 e he
  · intro listed a' w' hall h
    have e1 : a' = A1 := by
      refine act_ext (by rw [h.defs, k2]) (by rw [h.size, k1]) fun k hk => ?_
      by_cases hd : ∃ i, i < n ∧ dst i = k
      · obtain ⟨i, hi, rfl⟩ := hd
        rw [h.vals i hi (hall i), k3 i hi]
      · have hd2 : ∀ i, i < n → dst i ≠ k := fun i hi e => hd ⟨i, hi, e⟩
        rw [h.oth k hd2, k4 k (by rw [← h.size]; exact hk) hd2]
    rw [e1, h.w1 (hall bx)]
    exact hQ
  · intro listed a' w' i o ho hl hdeps h
    obtain ⟨g1, g2, g3, _⟩ := hg i o ho
    have hi : i < n := by rw [← hn]; exact (Array.getElem?_eq_some_iff.1 ho).1
    have hd : ∀ j ∈ dep i, a'.eval (.tmp (dst j)) = val j := by
      intro j hj
      obtain ⟨hji, e, he, h1, h2⟩ := g3 j hj
      exact h.vals j (by omega) (by rw [← h1]; exact listed_true (hdeps e he h2))
    obtain ⟨x1, x2⟩ := hx i o ho a' h.x0 hd
    have hdi := h0 i hi
    have put : ∀ w'', (i = bx → w'' = W1) → (i ≠ bx → w'' = w') → DetI T n dst val bx X a W0 W1 (listed.setIfInBounds i true) (a'.put (some (dst i)) (val i)) w'' := by
      intro w'' e1 e2
      refine ⟨by rw [size_put]; exact h.size, by rw [defs_put]; exact h.defs, by simpa using h.lsz, by rw [eval_other _ hdi.1]; exact h.x0, ?_, ?_, ?_, ?_⟩
      · intro j hj hjl
        by_cases e : j = i
        · subst e; rw [eval_same _ (by rw [h.size]; exact hdi.2)]
        · rw [eval_other _ (fun e3 => e (hinj i j hi hj e3).symm)]; exact h.vals j hj (listed_of hjl e)
      · intro k hk; rw [eval_other _ (hk i hi)]; exact h.oth k hk
      · intro hb
        have hne : i ≠ bx := by
          intro e; subst e
          have : (listed.setIfInBounds i true).getD i true = true := by
            have : i < listed.size := by rw [h.lsz]; exact hi
            simp [this]
          rw [this] at hb; cases hb
        rw [e2 hne]; exact h.w0 (by rw [getD_set_ne true hne] at hb; exact hb)
      · intro hb
        by_cases e : i = bx
        · exact e1 e
        · rw [e2 e]; exact h.w1 (by rw [getD_set_ne true e] at hb; exact hb)
    refine ⟨g1, ?_⟩
    unfold Oper.wp
    by_cases e : i = bx
    · have hw0 := h.w0 (by rw [← e]; exact hl)
      rw [hw0, x1 e]
      simp only [Oper.upon, g2]
      exact put W1 (fun _ => rfl) (fun h => absurd e h)
    · have hww : w' = W0 ∨ w' = W1 := by
        cases hq : listed.getD bx true
        · exact Or.inl (h.w0 hq)
        · exact Or.inr (h.w1 hq)
      rw [x2 e w' hww]
      simp only [Oper.upon, g2]
      exact put w' (fun h => absurd h e) (fun _ => rfl)
  · unfold unlB
    have := List.countP_le_length (p := fun x => !x) (l := (Array.replicate ops.size false).toList)
    simpa using this
  · refine ⟨hT, hdef, by simp [hn], hX, ?_, fun _ _ => rfl, fun _ => ?_, ?_⟩
    · intro i hi hl; simp [hn, hi] at hl
    · exact hW.symm
    · intro hb; simp [hn, hbx] at hb
end Go.Proofs.YthhcabddcgckcaaGreatDoor
end

section
namespace Go.Proofs.YthhcabddcgckcaaGreatDoor
open Go.ChangeShapes Go.WideShapes Go.RowKit Go.Maps

theorem ln24 : (Tryz.prog.info? 24).map (·.size) = some 8 := by kernel_rfl
theorem step_load_mid {P : Program} {ops : Array Oper} {o : Oper} {a : Act} {w : World} {K : Act → World → Prop} {Q : Exit → Act → World → Prop} {E : Prop} (hgd : o.guard = none) (ty : TypeId) (x : Operand) (ho : o.op = .load ty x)
    (b of : Nat) (hx : a.eval x = .pointer (some ⟨b, of, none⟩)) (cs : List Value) (d : TypeDesc) (hc : w.rangeAt b of cs)
    (hu : P.underlying ty = some d) (hd : d.isRow = true) (hi : (P.info? ty).map (·.size) = some cs.length)
    (h : K (a.put o.dst (.agg cs.toArray)) w) : if Region.wanted o (yielded ops a.tmps) = true then Oper.wp P o a w K Q else E := by
  have hw : Region.wanted o (yielded ops a.tmps) = true := by simp [Region.wanted, hgd]
  rw [if_pos hw]
  exact wp_load_mid ty x ho b of hx cs d hc hu hd hi h
theorem step_build {P : Program} {ops : Array Oper} {o : Oper} {a : Act} {w : World} {K : Act → World → Prop} {Q : Exit → Act → World → Prop} {E : Prop} (hgd : o.guard = none) (t : TypeId) (parts : Array (Nat × Operand)) (ho : o.op = .build t parts) (v : Value) (ps : Array (Nat × Value))
    (hr : (Instr.build t ps).run P w = .ok v w) (hp : (parts.map fun p => (p.1, a.eval p.2)) = ps) (h : K (a.put o.dst v) w) : if Region.wanted o (yielded ops a.tmps) = true then Oper.wp P o a w K Q else E := by
  have hw : Region.wanted o (yielded ops a.tmps) = true := by simp [Region.wanted, hgd]
  rw [if_pos hw]
  unfold Oper.wp
  simp only [execOp, ho]
  have : (Instr.build t (parts.map fun (i, x) => (i, a.eval x))).run P w = .ok v w := by rw [← hp] at hr; exact hr
  simp [this, Result.andThen]
  exact h
/-- The cells of a copy, ahead of its own. -/
def cpyC (rv : Value) (U : Nat → Value) : List Value := (List.range 74).map fun i => if i = 0 then .pointer none else if i = 1 then rv else if i = 2 then .map none else U i
def cutU (U : Nat → Value) (o n : Nat) : List Value := (List.range n).map fun j => U (o + j)
theorem run_copy (rv : Value) (hrv : ∃ a n c, rv = .slice a n c) (U : Nat → Value) (w : World) : (Instr.build 61 #[(1, rv), (3, .agg (cutU U 3 8).toArray), (4, .agg (cutU U 11 63).toArray)]).run Tryz.prog w = .ok (.agg (cpyC rv U).toArray) w := by
  obtain ⟨a, n, c, rfl⟩ := hrv
  kernel_rfl
end Go.Proofs.YthhcabddcgckcaaGreatDoor
end

section
namespace Go.Proofs.YthhcabddcgckcaaGreatDoor
open Go.ChangeShapes Go.WideShapes Go.RowKit Go.Maps

theorem cutU_len (U : Nat → Value) (o n : Nat) : (cutU U o n).length = n := by simp [cutU]
theorem cutU_at (U : Nat → Value) (o n j : Nat) (u : Value) (h : (cutU U o n)[j]? = some u) : j < n ∧ u = U (o + j) := by
  have hj : j < n := by have := (List.getElem?_eq_some_iff.1 h).1; rw [cutU_len] at this; exact this
  unfold cutU at h
  rw [List.getElem?_map, List.getElem?_range hj] at h
  simp at h; exact ⟨hj, h.symm⟩
theorem cpyC_len (rv : Value) (U : Nat → Value) : (cpyC rv U).length = 74 := by simp [cpyC]
def dstC (i : Nat) : Nat := if i = 14 then 3 else 7 + i
def depC (i : Nat) : List Nat := [[], [0], [1], [2], [], [4], [5], [6], [], [8], [9], [10], [3, 7, 11], [12], [13]].getD i []
def valC (b g : Nat) (rv : Value) (RC VC CC : List Value) (i : Nat) : Value := [(Value.pointer (some ⟨b, 0, none⟩)), (Value.pointer (some ⟨b, 0, none⟩)), (Value.pointer (some ⟨b, 1, none⟩)), rv, (Value.pointer (some ⟨b, 0, none⟩)), (Value.pointer (some ⟨b, 0, none⟩)), (Value.pointer (some ⟨b, 3, none⟩)), (Value.agg RC.toArray), (Value.pointer (some ⟨b, 0, none⟩)), (Value.pointer (some ⟨b, 0, none⟩)), (Value.pointer (some ⟨b, 11, none⟩)), (Value.agg VC.toArray), (Value.agg CC.toArray), (Value.pointer (some ⟨g, 0, none⟩)), (Value.pointer (some ⟨g, 0, none⟩))].getD i undef
theorem mcell_mid (b b' : Nat) (rv dm dm' st st' lp lp' : Value) (v : V) (j : Nat) (h0 : j ≠ 0) (h2 : j ≠ 2) (h13 : j ≠ 13) (h70 : j ≠ 70) : mcell b rv dm st lp v j = mcell b' rv dm' st' lp' v j := by
  unfold mcell
  rw [if_neg h0, if_neg h0]
  by_cases e1 : j = 1
  · rw [if_pos e1, if_pos e1]
  rw [if_neg e1, if_neg e1, if_neg h2, if_neg h2]
  simp only [h13, h70, if_false]
/-- The cells of a copy. -/
def cpyF (rv : Value) (U : Nat → Value) (i : Nat) : Value := if i = 0 then .pointer none else if i = 1 then rv else if i = 2 then .map none else U i
theorem cpy_row (w : World) (rv : Value) (U : Nat → Value) : (w.alloc (.cells (cpyC rv U).toArray 61)).rowIs w.heap.size 61 74 (cpyF rv U) := by
  have h := World.rowIs_alloc w (cpyC rv U).toArray 61 (cpyF rv U) (fun i hi => by
    rw [List.size_toArray, cpyC_len] at hi
    rw [List.getElem?_toArray]; unfold cpyC
    rw [List.getElem?_map, List.getElem?_range hi]; rfl)
  have e : (cpyC rv U).toArray.size = 74 := by rw [List.size_toArray, cpyC_len]
  rw [e] at h
  exact h
set_option maxHeartbeats 4000000 in
set_option maxRecDepth 100000 in
theorem copy_any (w : World) (F : Nat → Prop) (b : Nat) (L : List (Int × Int × Int)) (v : V) (h : Mac w F b L v) (hs : v.stk.length ≤ 1000) (hl : v.lps.length ≤ 1000) :
    Calls Tryz.prog 24 #[.pointer (some ⟨b, 0, none⟩)] w fun e w' => ∃ b' F', e = .returned (.pointer (some ⟨b', 0, none⟩)) ∧ Mac w' F' b' L v ∧ Below w.heap.size w w' := by
  have C := Lib.hid (given_any _ F b L v h)
  obtain ⟨rv, bm, st, lp, hc⟩ := h
  have c1 : w.drew.cell? ⟨b, 1, none⟩ = some rv := hc.c1
  obtain ⟨U, hU⟩ : ∃ U, U = mcell b rv (.map (some bm)) st lp v := ⟨_, rfl⟩
  have r1 : w.drew.rangeAt b 3 (cutU U 3 8) := by
    intro j u hj
    obtain ⟨h1, rfl⟩ := cutU_at _ _ _ _ _ hj
    rw [hU]; exact hc.cells.cell (i := 3 + j) (by omega)
  have r2 : w.drew.rangeAt b 11 (cutU U 11 63) := by
    intro j u hj
    obtain ⟨h1, rfl⟩ := cutU_at _ _ _ _ _ hj
    rw [hU]; exact hc.cells.cell (i := 11 + j) (by omega)
  have hi24 : (Tryz.prog.info? 24).map (·.size) = some (cutU U 3 8).length := by rw [cutU_len]; exact ln24
  have hi59 : (Tryz.prog.info? 59).map (·.size) = some (cutU U 11 63).length := by rw [cutU_len]; exact ln59
  have hrv : ∃ a c, rv = .slice a L.length c := by
    rcases hc.row.2 with ⟨h1, h2⟩ | ⟨g, cap, cur, h1, _⟩
    · exact ⟨none, 0, by rw [h1, h2]⟩
    · exact ⟨_, _, h1⟩
  obtain ⟨ra, rc, rfl⟩ := hrv
  have hbuild := fun W => run_copy (.slice ra L.length rc) ⟨_, _, _, rfl⟩ U W
  obtain ⟨RC, hRC⟩ : ∃ RC, RC = cutU U 3 8 := ⟨_, rfl⟩
  obtain ⟨VC, hVC⟩ : ∃ VC, VC = cutU U 11 63 := ⟨_, rfl⟩
  obtain ⟨CC, hCC⟩ : ∃ CC, CC = cpyC (.slice ra L.length rc) U := ⟨_, rfl⟩
  simp only [← hRC] at r1 hi24 hbuild
  simp only [← hVC] at r2 hi59 hbuild
  simp only [← hCC] at hbuild
  have HS := Lib.hid (show w.drew.cell? ⟨b, 1, none⟩ = some (.slice ra L.length rc) ∧ w.drew.rangeAt b 3 RC ∧ w.drew.rangeAt b 11 VC from ⟨c1, r1, r2⟩)
  have H := Lib.hid hc
  have HU := Lib.hid hU
  have HC := Lib.hid hCC
  clear hc hU hRC hVC hCC
  go_enter Tryz.func24, Tryz.ntmps24
  go_wp2_with (first | (go_at_call 37; refine C.out.mono ?_; rintro e w1 ⟨rfl, rfl⟩))
  refine region_det 44 15 dstC (valC b w.heap.size (.slice ra L.length rc) RC VC CC) depC 13 (.pointer (some ⟨b, 0, none⟩)) w.drew (w.drew.alloc (.cells CC.toArray 61)) { tmps := #[.pointer (some ⟨b, 0, none⟩), undef, .pointer none, .pointer (some ⟨w.heap.size, 0, none⟩), .pointer (some ⟨b, 0, none⟩), .bool true, .bool false, .pointer (some ⟨b, 0, none⟩), .pointer (some ⟨b, 0, none⟩), .pointer (some ⟨b, 1, none⟩), .slice ra L.length rc, .pointer (some ⟨b, 0, none⟩), .pointer (some ⟨b, 0, none⟩), .pointer (some ⟨b, 3, none⟩), .agg RC.toArray, .pointer (some ⟨b, 0, none⟩), .pointer (some ⟨b, 0, none⟩), .pointer (some ⟨b, 11, none⟩), .agg VC.toArray, .agg CC.toArray, .pointer (some ⟨w.heap.size, 0, none⟩), undef, undef, undef, undef, undef, undef, undef, undef, undef, undef, undef, undef, undef, undef, undef, undef, undef, undef, undef, undef, undef, undef, undef], defers := [] }
    (by kernel_rfl) rfl (by decide) (fun i j hi hj h => by unfold dstC at h; split at h <;> split at h <;> omega) (by decide) rfl rfl rfl ?_ ?_ rfl rfl rfl ?_ ?_ ?_
  · intro i o ho
    match i, ho with
    | 0, ho => obtain rfl := Option.some.inj ho; exact ⟨rfl, rfl, by decide, by decide⟩
    | 1, ho => obtain rfl := Option.some.inj ho; exact ⟨rfl, rfl, by decide, by decide⟩
    | 2, ho => obtain rfl := Option.some.inj ho; exact ⟨rfl, rfl, by decide, by decide⟩
    | 3, ho => obtain rfl := Option.some.inj ho; exact ⟨rfl, rfl, by decide, by decide⟩
    | 4, ho => obtain rfl := Option.some.inj ho; exact ⟨rfl, rfl, by decide, by decide⟩
    | 5, ho => obtain rfl := Option.some.inj ho; exact ⟨rfl, rfl, by decide, by decide⟩
    | 6, ho => obtain rfl := Option.some.inj ho; exact ⟨rfl, rfl, by decide, by decide⟩
    | 7, ho => obtain rfl := Option.some.inj ho; exact ⟨rfl, rfl, by decide, by decide⟩
    | 8, ho => obtain rfl := Option.some.inj ho; exact ⟨rfl, rfl, by decide, by decide⟩
    | 9, ho => obtain rfl := Option.some.inj ho; exact ⟨rfl, rfl, by decide, by decide⟩
    | 10, ho => obtain rfl := Option.some.inj ho; exact ⟨rfl, rfl, by decide, by decide⟩
    | 11, ho => obtain rfl := Option.some.inj ho; exact ⟨rfl, rfl, by decide, by decide⟩
    | 12, ho => obtain rfl := Option.some.inj ho; exact ⟨rfl, rfl, by decide, by decide⟩
    | 13, ho => obtain rfl := Option.some.inj ho; exact ⟨rfl, rfl, by decide, by decide⟩
    | 14, ho => obtain rfl := Option.some.inj ho; exact ⟨rfl, rfl, by decide, by decide⟩
    | n + 15, ho => simp at ho
  · intro i o ho a' x0 hd
    obtain ⟨ρ, hρ⟩ : ∃ ρ, ρ = a'.eval := ⟨_, rfl⟩
    simp only [← hρ] at x0 hd ⊢
    clear hρ
    match i, ho with
    | 0, ho =>
      obtain rfl := Option.some.inj ho
      have hv : valC b w.heap.size (.slice ra L.length rc) RC VC CC 0 = .pointer (some ⟨b, 0, none⟩) := rfl
      rw [hv]
      refine ⟨fun h => absurd h (by decide), fun _ W hW => ?_⟩
      simp only [execOp]
      go_simp
    | 1, ho =>
      obtain rfl := Option.some.inj ho
      have hv : valC b w.heap.size (.slice ra L.length rc) RC VC CC 1 = .pointer (some ⟨b, 0, none⟩) := rfl
      rw [hv]
      have e0 : ρ (.tmp 7) = .pointer (some ⟨b, 0, none⟩) := hd 0 (by decide)
      refine ⟨fun h => absurd h (by decide), fun _ W hW => ?_⟩
      simp only [execOp]
      go_simp
    | 2, ho =>
      obtain rfl := Option.some.inj ho
      have hv : valC b w.heap.size (.slice ra L.length rc) RC VC CC 2 = .pointer (some ⟨b, 1, none⟩) := rfl
      rw [hv]
      have e1 : ρ (.tmp 8) = .pointer (some ⟨b, 0, none⟩) := hd 1 (by decide)
      refine ⟨fun h => absurd h (by decide), fun _ W hW => ?_⟩
      simp only [execOp]
      go_simp
    | 3, ho =>
      obtain rfl := Option.some.inj ho
      have hv : valC b w.heap.size (.slice ra L.length rc) RC VC CC 3 = .slice ra L.length rc := rfl
      rw [hv]
      have e2 : ρ (.tmp 9) = .pointer (some ⟨b, 1, none⟩) := hd 2 (by decide)
      refine ⟨fun h => absurd h (by decide), fun _ W hW => ?_⟩
      have hr : W.cell? ⟨b, 1, none⟩ = some (.slice ra L.length rc) := by rcases hW with rfl | rfl <;> first | exact HS.out.1 | exact keep_cell (below_alloc _ _) HS.out.1
      simp only [execOp]
      go_simp
    | 4, ho =>
      obtain rfl := Option.some.inj ho
      have hv : valC b w.heap.size (.slice ra L.length rc) RC VC CC 4 = .pointer (some ⟨b, 0, none⟩) := rfl
      rw [hv]
      refine ⟨fun h => absurd h (by decide), fun _ W hW => ?_⟩
      simp only [execOp]
      go_simp
    | 5, ho =>
      obtain rfl := Option.some.inj ho
      have hv : valC b w.heap.size (.slice ra L.length rc) RC VC CC 5 = .pointer (some ⟨b, 0, none⟩) := rfl
      rw [hv]
      have e4 : ρ (.tmp 11) = .pointer (some ⟨b, 0, none⟩) := hd 4 (by decide)
      refine ⟨fun h => absurd h (by decide), fun _ W hW => ?_⟩
      simp only [execOp]
      go_simp
    | 6, ho =>
      obtain rfl := Option.some.inj ho
      have hv : valC b w.heap.size (.slice ra L.length rc) RC VC CC 6 = .pointer (some ⟨b, 3, none⟩) := rfl
      rw [hv]
      have e5 : ρ (.tmp 12) = .pointer (some ⟨b, 0, none⟩) := hd 5 (by decide)
      refine ⟨fun h => absurd h (by decide), fun _ W hW => ?_⟩
      simp only [execOp]
      go_simp
    | 7, ho =>
      obtain rfl := Option.some.inj ho
      have hv : valC b w.heap.size (.slice ra L.length rc) RC VC CC 7 = .agg RC.toArray := rfl
      rw [hv]
      have e6 : ρ (.tmp 13) = .pointer (some ⟨b, 3, none⟩) := hd 6 (by decide)
      refine ⟨fun h => absurd h (by decide), fun _ W hW => ?_⟩
      have hr : W.rangeAt b 3 RC := by rcases hW with rfl | rfl <;> first | exact HS.out.2.1 | exact World.rangeAt_alloc HS.out.2.1 _
      have := run_loadAt_mid (P := Tryz.prog) W b 3 24 RC _ hr Tryz.underlying24 rfl hi24
      show (Next.value <$> Instr.loadAt 24 (ρ (.tmp 13))).run Tryz.prog W = _
      rw [e6]
      simp [this, Result.andThen]
    | 8, ho =>
      obtain rfl := Option.some.inj ho
      have hv : valC b w.heap.size (.slice ra L.length rc) RC VC CC 8 = .pointer (some ⟨b, 0, none⟩) := rfl
      rw [hv]
      refine ⟨fun h => absurd h (by decide), fun _ W hW => ?_⟩
      simp only [execOp]
      go_simp
    | 9, ho =>
      obtain rfl := Option.some.inj ho
      have hv : valC b w.heap.size (.slice ra L.length rc) RC VC CC 9 = .pointer (some ⟨b, 0, none⟩) := rfl
      rw [hv]
      have e8 : ρ (.tmp 15) = .pointer (some ⟨b, 0, none⟩) := hd 8 (by decide)
      refine ⟨fun h => absurd h (by decide), fun _ W hW => ?_⟩
      simp only [execOp]
      go_simp
    | 10, ho =>
      obtain rfl := Option.some.inj ho
      have hv : valC b w.heap.size (.slice ra L.length rc) RC VC CC 10 = .pointer (some ⟨b, 11, none⟩) := rfl
      rw [hv]
      have e9 : ρ (.tmp 16) = .pointer (some ⟨b, 0, none⟩) := hd 9 (by decide)
      refine ⟨fun h => absurd h (by decide), fun _ W hW => ?_⟩
      simp only [execOp]
      go_simp
    | 11, ho =>
      obtain rfl := Option.some.inj ho
      have hv : valC b w.heap.size (.slice ra L.length rc) RC VC CC 11 = .agg VC.toArray := rfl
      rw [hv]
      have e10 : ρ (.tmp 17) = .pointer (some ⟨b, 11, none⟩) := hd 10 (by decide)
      refine ⟨fun h => absurd h (by decide), fun _ W hW => ?_⟩
      have hr : W.rangeAt b 11 VC := by rcases hW with rfl | rfl <;> first | exact HS.out.2.2 | exact World.rangeAt_alloc HS.out.2.2 _
      have := run_loadAt_mid (P := Tryz.prog) W b 11 59 VC _ hr Tryz.underlying59 rfl hi59
      show (Next.value <$> Instr.loadAt 59 (ρ (.tmp 17))).run Tryz.prog W = _
      rw [e10]
      simp [this, Result.andThen]
    | 12, ho =>
      obtain rfl := Option.some.inj ho
      have hv : valC b w.heap.size (.slice ra L.length rc) RC VC CC 12 = .agg CC.toArray := rfl
      rw [hv]
      have e3 : ρ (.tmp 10) = .slice ra L.length rc := hd 3 (by decide)
      have e7 : ρ (.tmp 14) = .agg RC.toArray := hd 7 (by decide)
      have e11 : ρ (.tmp 18) = .agg VC.toArray := hd 11 (by decide)
      refine ⟨fun h => absurd h (by decide), fun _ W hW => ?_⟩
      have hb := hbuild W
      have hp : (#[(1, Operand.tmp 10), (3, .tmp 14), (4, .tmp 18)] : Array (Nat × Operand)).map (fun p => (p.1, ρ p.2)) = #[(1, .slice ra L.length rc), (3, .agg RC.toArray), (4, .agg VC.toArray)] := by simp [e3, e7, e11]
      show (Next.value <$> Instr.build 61 ((#[(1, Operand.tmp 10), (3, .tmp 14), (4, .tmp 18)] : Array (Nat × Operand)).map (fun p => (p.1, ρ p.2)))).run Tryz.prog W = _
      rw [hp]
      simp [hb, Result.andThen]
    | 13, ho =>
      obtain rfl := Option.some.inj ho
      have hv : valC b w.heap.size (.slice ra L.length rc) RC VC CC 13 = .pointer (some ⟨w.heap.size, 0, none⟩) := rfl
      rw [hv]
      have e12 : ρ (.tmp 19) = .agg CC.toArray := hd 12 (by decide)
      refine ⟨fun _ => ?_, fun h => absurd rfl h⟩
      simp only [execOp]
      go_simp
    | 14, ho =>
      obtain rfl := Option.some.inj ho
      have hv : valC b w.heap.size (.slice ra L.length rc) RC VC CC 14 = .pointer (some ⟨w.heap.size, 0, none⟩) := rfl
      rw [hv]
      have e13 : ρ (.tmp 20) = .pointer (some ⟨w.heap.size, 0, none⟩) := hd 13 (by decide)
      refine ⟨fun h => absurd h (by decide), fun _ W hW => ?_⟩
      simp only [execOp]
      go_simp
    | n + 15, ho => simp at ho
  · intro i hi
    rcases (show i = 0 ∨ i = 1 ∨ i = 2 ∨ i = 3 ∨ i = 4 ∨ i = 5 ∨ i = 6 ∨ i = 7 ∨ i = 8 ∨ i = 9 ∨ i = 10 ∨ i = 11 ∨ i = 12 ∨ i = 13 ∨ i = 14 by omega) with rfl | rfl | rfl | rfl | rfl | rfl | rfl | rfl | rfl | rfl | rfl | rfl | rfl | rfl | rfl <;> rfl
  · intro k hk ho
    rcases (show k = 0 ∨ k = 1 ∨ k = 2 ∨ k = 4 ∨ k = 5 ∨ k = 6 ∨ 21 ≤ k ∨ k = 3 ∨ (7 ≤ k ∧ k < 21) by omega) with rfl | rfl | rfl | rfl | rfl | rfl | h | rfl | h
    · rfl
    · rfl
    · rfl
    · rfl
    · rfl
    · rfl
    · obtain ⟨j, rfl⟩ : ∃ j, k = j + 21 := ⟨k - 21, by omega⟩
      rcases (show j = 0 ∨ j = 1 ∨ j = 2 ∨ j = 3 ∨ j = 4 ∨ j = 5 ∨ j = 6 ∨ j = 7 ∨ j = 8 ∨ j = 9 ∨ j = 10 ∨ j = 11 ∨ j = 12 ∨ j = 13 ∨ j = 14 ∨ j = 15 ∨ j = 16 ∨ j = 17 ∨ j = 18 ∨ j = 19 ∨ j = 20 ∨ j = 21 ∨ j = 22 by omega) with rfl | rfl | rfl | rfl | rfl | rfl | rfl | rfl | rfl | rfl | rfl | rfl | rfl | rfl | rfl | rfl | rfl | rfl | rfl | rfl | rfl | rfl | rfl <;> rfl
    · exact absurd rfl (ho 14 (by decide))
    · exact absurd (by unfold dstC; rw [if_neg (by omega)]; omega) (ho (k - 7) (by omega))
  have hcp : (w.drew.alloc (.cells CC.toArray 61)).rowIs w.heap.size 61 74 (cpyF (.slice ra L.length rc) U) := by rw [HC.out]; exact cpy_row w.drew _ _
  have B1 : Below w.heap.size w (w.drew.alloc (.cells CC.toArray 61)) := (Below.refl _ _).drew.alloc (Nat.le_refl _) _
  clear hbuild r1 r2 c1 HS hi24 hi59 HC C
  generalize w.drew.alloc (.cells CC.toArray 61) = W1 at hcp B1 ⊢
  have H1 := H.out.blocks B1.size (fun i hi => B1.block i (H.out.lt i hi))
  have c13 := H1.c13
  have hbb : b ≠ w.heap.size := by have := H.out.lt b H.out.fb; omega
  have hst : ∃ a c, st = .slice a v.stk.length c := by
    rcases H.out.stk.2 with ⟨h1, h2⟩ | ⟨g, cap, cur, h1, _⟩
    · exact ⟨none, 0, by rw [h1, h2]⟩
    · exact ⟨_, _, h1⟩
  have hlp : ∃ a c, lp = .slice a v.lps.length c := by
    rcases H.out.lps.2 with ⟨h1, h2⟩ | ⟨g, cap, cur, h1, _⟩
    · exact ⟨none, 0, by rw [h1, h2]⟩
    · exact ⟨_, _, h1⟩
  obtain ⟨sa, sc, rfl⟩ := hst
  obtain ⟨la, lc, rfl⟩ := hlp
  have D1 := Lib.hid (cloneN_any W1 _ _ _ H1.stk hs)
  have H1 := Lib.hid H1
  have hnF : ¬ F w.heap.size := fun e => absurd (H.out.lt _ e) (by omega)
  have N1 : Hid (∀ w2 v1, Below W1.heap.size W1 w2 → MacC (w2.setCell ⟨w.heap.size, 13, none⟩ v1) F b (.slice ra L.length rc) bm (.slice sa v.stk.length sc) (.slice la v.lps.length lc) L v) := by
    intro w2 v1 b2
    refine H1.out.blocks (by simp only [World.setCell, Array.size_modify]; exact b2.size) (fun i hi => ?_)
    rw [Go.Deep.blk_setCell_other _ _ _ _ (by intro e; subst e; exact hnF hi)]
    exact b2.block i (H1.out.lt i hi)
  go_wp2_with (first
    | (go_at_call 38; refine D1.out.mono ?_; rintro e w2 ⟨v1, rfl, o1, b2⟩; have hq1 := hcp.of_block (b2.block _ hcp.lt); have g1 := hq1.cell (i := 13) (by omega); have y1 := hq1.frozen 13; obtain ⟨a1, n1, c1, rfl, hr1⟩ := Row.own o1; clear hr1; have H2 := N1.out w2 (.slice a1 n1 c1) b2; have c70 := H2.c70; have D2 := Lib.hid (cloneL_any _ _ _ _ H2.lps hl); have hq2 := hq1.set 13 (.slice a1 n1 c1); clear H2)
    | (go_at_call 40; refine D2.out.mono ?_; rintro e w3 ⟨v2, rfl, o2, b3⟩; have hq3 := hq2.of_block (b3.block _ hq2.lt); have g2 := hq3.cell (i := 70) (by omega); have y2 := hq3.frozen 70; have hv2 : ∃ a n c, v2 = .slice a n c := (by rcases o2.2 with ⟨h1, h2⟩ | ⟨g, cap, cur, h1, _⟩ <;> first | exact ⟨none, 0, 0, h1⟩ | exact ⟨_, _, _, h1⟩); obtain ⟨a2, n2, c2, rfl⟩ := hv2; have hq4 := hq3.set 70 (.slice a2 n2 c2))
    | (go_at_call 29; refine (settle_any _ _ _ hq4).mono ?_; rintro e w4 ⟨rfl, bm2, s1, s2, s3, s4, s5⟩))
  go_ret
  have hbc := hcp.lt
  have z2 : (w2.setCell ⟨w.heap.size, 13, none⟩ (.slice a1 n1 c1)).heap.size = w2.heap.size := by simp [World.setCell]
  have z3 : (w3.setCell ⟨w.heap.size, 70, none⟩ (.slice a2 n2 c2)).heap.size = w3.heap.size := by simp [World.setCell]
  have z4 := s5.size
  have z5 := b3.size
  have z6 := b2.size
  have BW : Below w.heap.size w w4 := by
    have t1 : Below w.heap.size w w2 := B1.trans (b2.mono (by omega))
    have t2 := t1.setCell (p := ⟨w.heap.size, 13, none⟩) (Nat.le_refl _) (.slice a1 n1 c1)
    have t3 : Below w.heap.size w w3 := t2.trans (b3.mono (by omega))
    have t4 := t3.setCell (p := ⟨w.heap.size, 70, none⟩) (Nat.le_refl _) (.slice a2 n2 c2)
    exact t4.grown s5 (by omega) (fun k hk => by cases hk; exact Nat.le_refl _)
  have k4 : ∀ g, g < w3.heap.size → g ≠ w.heap.size → w4.heap[g]? = w3.heap[g]? := fun g hg hne => by
    rw [s5.block g (by omega) (by intro e; cases e; exact hne rfl), Go.Deep.blk_setCell_other _ _ _ _ hne]
  have k3 : ∀ g, g < w2.heap.size → g ≠ w.heap.size → w4.heap[g]? = w2.heap[g]? := fun g hg hne => by
    rw [k4 g (by omega) hne, b3.block g (by omega), Go.Deep.blk_setCell_other _ _ _ _ hne]
  refine ⟨_, fun k => k = w.heap.size ∨ k = bm2 ∨ (Value.slice ra L.length rc).ownBlock = some k ∨ (Value.slice a1 n1 c1).ownBlock = some k ∨ (Value.slice a2 n2 c2).ownBlock = some k, rfl, ⟨.slice ra L.length rc, bm2, .slice a1 n1 c1, .slice a2 n2 c2, {
    cells := s4.congr fun j hj => ?_
    row := own_of_block H.out.row fun g hg => BW.block g (H.out.lt g (H.out.fr g hg))
    map := s3
    stk := own_base (own_of_block o1 fun g hg => k3 g (o1.lt g hg).2 (by have := (o1.lt g hg).1; omega))
    lps := own_base (own_of_block o2 fun g hg => k4 g (o2.lt g hg).2 (by have := (o2.lt g hg).1; omega))
    fb := Or.inl rfl
    fm := Or.inr (Or.inl rfl)
    fr := fun k hk => Or.inr (Or.inr (Or.inl hk))
    fs := fun k hk => Or.inr (Or.inr (Or.inr (Or.inl hk)))
    fl := fun k hk => Or.inr (Or.inr (Or.inr (Or.inr hk)))
    lt := ?_
    rl := H.out.rl
    ll := H.out.ll
    il := H.out.il
    ol := H.out.ol }⟩, BW⟩
  · by_cases e2 : j = 2
    · subst e2; rfl
    by_cases e0 : j = 0
    · subst e0; rfl
    by_cases e70 : j = 70
    · subst e70; rfl
    by_cases e13 : j = 13
    · subst e13; rfl
    rw [if_neg e2, if_neg e0, if_neg e70, if_neg e13]
    unfold cpyF
    rw [if_neg e0]
    by_cases e1 : j = 1
    · subst e1; rfl
    rw [if_neg e1, if_neg e2, HU.out]
    exact mcell_mid _ _ _ _ _ _ _ _ _ _ _ e0 e2 e13 e70
  · rintro k (rfl | rfl | hk | hk | hk)
    · omega
    · exact s2
    · have := H.out.lt k (H.out.fr k hk); omega
    · have := (o1.lt k hk).2; omega
    · have := (o2.lt k hk).2; omega
end Go.Proofs.YthhcabddcgckcaaGreatDoor
end
