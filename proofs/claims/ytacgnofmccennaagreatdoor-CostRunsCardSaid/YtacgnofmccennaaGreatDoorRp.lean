/- What is proved here: rows of pairs, and the contracts of Plain and of Same of the document. Conditions: the rows are not too long. -/
import Derived.Test.YtacgnofmccennaaGreatDoorGi
import Derived.Deep.RegionLaw
import Derived.Deep.AppendLies
import Derived.RegionTactic
import Derived.ChangeAlike
import Derived.WalkLawsBesides
namespace Go.Proofs.YtacgnofmccennaaGreatDoor
open Go.ChangeShapes Go.WideShapes Go.RowKit
/-- The cells of told outputs. -/
def ouC (l : List (Int × Int)) : List Value := l.flatMap fun x => [.int .i64 x.1, .int .i64 x.2]
theorem ouC_snoc (l : List (Int × Int)) (x y : Int) : ouC (l ++ [(x, y)]) = ouC l ++ [.int .i64 x, .int .i64 y] := by simp [ouC]
theorem ouC_len (l : List (Int × Int)) : (ouC l).length = l.length * 2 := by
  induction l with
  | nil => rfl
  | cons x l ih => simp only [ouC, List.flatMap_cons, List.length_append, List.length_cons, List.length_nil] at ih ⊢; omega
/-- A row of pairs. -/
def RowP (w : World) (a : Option Addr) (n : Nat) (l : List (Int × Int)) : Prop :=
  n = l.length ∧ (0 < n → ∃ b off, a = some ⟨b, off, none⟩ ∧ b < w.heap.size ∧ ∀ i, i < n → w.cell? ⟨b, off + i * 2, none⟩ = some (.int .i64 (l.getD i (0, 0)).1) ∧ w.cell? ⟨b, off + i * 2 + 1, none⟩ = some (.int .i64 (l.getD i (0, 0)).2))
theorem RowP.below {w w' : World} {a : Option Addr} {n : Nat} {l : List (Int × Int)} (h : RowP w a n l) (hb : Below w.heap.size w w') : RowP w' a n l := by
  refine ⟨h.1, fun hn => ?_⟩
  obtain ⟨b, off, e, hlt, hc⟩ := h.2 hn
  exact ⟨b, off, e, Nat.lt_of_lt_of_le hlt hb.size, fun i hi => ⟨keep_cell hb (hc i hi).1, keep_cell hb (hc i hi).2⟩⟩
theorem ouC_at (l : List (Int × Int)) (i : Nat) (h : i < l.length) : (ouC l)[i * 2]? = some (.int .i64 (l.getD i (0, 0)).1) ∧ (ouC l)[i * 2 + 1]? = some (.int .i64 (l.getD i (0, 0)).2) := by
  induction l generalizing i with
  | nil => simp at h
  | cons x l ih =>
    rcases i with _ | i
    · simp [ouC]
    · have := ih i (by simpa using h)
      have e : ouC (x :: l) = .int .i64 x.1 :: .int .i64 x.2 :: ouC l := rfl
      rw [e, show (i + 1) * 2 = i * 2 + 1 + 1 by omega, show i * 2 + 1 + 1 + 1 = (i * 2 + 1) + 1 + 1 by omega]
      simpa using this
theorem RowP.own {w : World} {base e : Nat} {v : Value} {m : Nat} {l : List (Int × Int)} (h : w.ownsRow base e 2 v m (ouC l)) : ∃ a c, v = .slice a m c ∧ RowP w a m l := by
  have hl := h.1
  rw [ouC_len] at hl
  have hm : m = l.length := by omega
  rcases h.2 with ⟨h1, h2⟩ | ⟨g, cap, cur, h1, h2, h3, h4⟩
  · subst h2; exact ⟨none, 0, h1, hm, fun h => absurd h (by omega)⟩
  · subst h1
    have hlt := (h.lt g rfl).2
    refine ⟨_, cap, rfl, hm, fun _ => ⟨g, 0, rfl, hlt, fun i hi => ?_⟩⟩
    obtain ⟨k1, k2⟩ := ouC_at l i (by omega)
    rw [show 0 + i * 2 = i * 2 by omega, h.cellAt (i * 2) (by omega), h.cellAt (i * 2 + 1) (by omega)]
    exact ⟨k1, k2⟩
theorem RowP.ownN {w : World} {base e : Nat} {v : Value} {m : Nat} {l : List (Int × Int)} (h : w.ownsRow base e 2 v m (ouC l)) : ∃ a c, v = .slice a m c ∧ RowP w a m l ∧ ∀ p, a = some p → base ≤ p.block ∧ p.block < w.heap.size := by
  obtain ⟨a, c, hv, hr⟩ := RowP.own h
  refine ⟨a, c, hv, hr, fun p hp => ?_⟩
  obtain ⟨b, o, x⟩ := p
  rcases h.2 with ⟨h1, h2⟩ | ⟨g, cap, cur, h1, h2, h3, h4⟩
  · rw [h1, hp] at hv; simp at hv
  · rw [h1, hp] at hv
    simp at hv
    have := h.lt g (by rw [h1]; rfl)
    rw [← hv.1.1]; exact this
theorem RowP.at_ {w : World} {a : Option Addr} {n k : Nat} {l : List (Int × Int)} (h : RowP w a n l) (hk : k < n) : ∃ b off x y, a = some ⟨b, off, none⟩ ∧ b < w.heap.size ∧ l[k]? = some (x, y) ∧
    w.cell? ⟨b, off + k * 2, none⟩ = some (.int .i64 x) ∧ w.cell? ⟨b, off + k * 2 + 1, none⟩ = some (.int .i64 y) := by
  obtain ⟨b, off, e, hlt, hc⟩ := h.2 (by omega)
  obtain ⟨h1, h2⟩ := hc k hk
  have hl : k < l.length := by have := h.1; omega
  refine ⟨b, off, (l.getD k (0, 0)).1, (l.getD k (0, 0)).2, e, hlt, ?_, h1, h2⟩
  simp [hl]
theorem ouC_take {l : List (Int × Int)} {k : Nat} {x y : Int} (h : l[k]? = some (x, y)) : ouC (l.take (k + 1)) = ouC (l.take k) ++ [.int .i64 x, .int .i64 y] ∧ (l.take (k + 1)).length = (l.take k).length + 1 ∧ (l.take k).length = k := by
  obtain ⟨hk, e⟩ := List.getElem?_eq_some_iff.1 h
  rw [List.take_succ_eq_append_getElem hk, e, ouC_snoc]
  refine ⟨rfl, ?_, ?_⟩ <;> simp <;> omega
theorem sec_info : (Tryz.prog.info? 47).map (fun i => (i.zero, i.size, i.bytes)) = some (some (.agg #[.int .i64 0, .int .i64 0]), 2, 16) := by kernel_rfl
theorem ref_info : (Tryz.prog.info? 55).map (fun i => (i.zero, i.size, i.bytes)) = some (some (.agg #[.int .i64 0, .int .i64 0]), 2, 16) := by kernel_rfl
set_option maxRecDepth 100000 in
theorem same9_eq (a a2 : Option Addr) (n c c2 : Nat) (l : List (Int × Int)) (w : World) (h1 : RowP w a n l) (h2 : RowP w a2 n l) (hn : n ≤ 1000) :
    Calls Tryz.prog 14 #[.slice a n c, .slice a2 n c2] w fun e w' => e = .returned (.bool true) ∧ Below w.heap.size w w' := by
  go_enter Tryz.func14, Tryz.ntmps14
  go_wp2
  go_loopw [5] (fun i wr => ∃ k : Nat, k ≤ n ∧ i = .int .i64 k ∧ Below w.heap.size w wr) (fun i _ => n - (intOf i).toNat)
  case atStart => exact ⟨0, by omega, rfl, Below.refl _ _⟩
  case round =>
    obtain ⟨k, hk1, rfl, hbl⟩ := hrel
    by_cases hlt : k < n
    · obtain ⟨b1, o1, x, y, rfl, hB1, hx, c1, d1⟩ := (h1.below hbl).at_ hlt
      obtain ⟨b2, o2, x2, y2, rfl, hB2, hx2, c2', d2⟩ := (h2.below hbl).at_ hlt
      rw [hx] at hx2
      simp only [Option.some.injEq, Prod.mk.injEq] at hx2
      obtain ⟨rfl, rfl⟩ := hx2
      have i1 : (0 : Int) ≤ (k : Int) := by omega
      have i2 : (k : Int) < (n : Int) := by omega
      clear hx h1 h2
      go_wp2
      go_region
      go_wp2
      go_roundw
      case rel => exact ⟨k + 1, by omega, by go_num, hbl.drew⟩
      case measure => simp [intOf]; omega
    · obtain rfl : k = n := by omega
      go_wp2
      go_ret
      exact ⟨rfl, hbl⟩
set_option maxHeartbeats 2000000 in
set_option maxRecDepth 100000 in
theorem plain9_any (a : Option Addr) (n c : Nat) (l : List (Int × Int)) (w : World) (h : RowP w a n l) (hn : n ≤ 1000) :
    Calls Tryz.prog 15 #[.slice a n c] w fun e w' => ∃ a' n' c', e = .returned (.slice a' n' c') ∧ RowP w' a' n' l ∧ Below w.heap.size w w' := by
  obtain ⟨i0, hi, hz0, hz1, hz2⟩ := parts_info ref_info
  have HN := Lib.hid h.1
  go_enter Tryz.func15, Tryz.ntmps15
  go_wp2
  go_loopw [3, 4] (fun x i wr => ∃ k : Nat, k ≤ n ∧ i = .int .i64 k ∧ wr.ownsRow w.heap.size 55 2 x k (ouC (l.take k)) ∧ Below w.heap.size w wr) (fun _ i _ => n - (intOf i).toNat)
  case atStart => exact ⟨0, by omega, rfl, World.ownsRow_nil _ _ _ _, Below.refl _ _⟩
  case round =>
    obtain ⟨k, hk1, rfl, hown, hbl⟩ := hrel
    have hbs := hbl.size
    by_cases hlt : k < n
    · obtain ⟨b1, o1, x, y, rfl, hB1, hx, c1, d1⟩ := (h.below hbl).at_ hlt
      obtain ⟨e1, e2, e3⟩ := ouC_take hx
      have HE := Lib.hid e1
      have i1 : (0 : Int) ≤ (k : Int) := by omega
      have i2 : (k : Int) < (n : Int) := by omega
      have gO : ((wr.alloc (.cells #[.int .i64 x, .int .i64 y] 55)).drew).ownsRow w.heap.size 55 2 u3 k (ouC (l.take k)) := hown.alloc _
      have hnews : ∀ j u, ([.int .i64 x, .int .i64 y] : List Value)[j]? = some u → ((wr.alloc (.cells #[.int .i64 x, .int .i64 y] 55)).drew).cell? ((⟨wr.heap.size, 0, none⟩ : Addr).add j) = some u :=
        fun j u hj => World.news_of_block (new_block wr (.cells #[.int .i64 x, .int .i64 y] 55)) j u hj
      have hone : ∀ u ∈ ([.int .i64 x, .int .i64 y] : List Value), u.oneCell' = true := by intro u hu; simp at hu; rcases hu with rfl | rfl <;> rfl
      have h63 : k + 1 ≤ maxLen := by unfold maxLen; omega
      have hH : ((wr.alloc (.cells #[.int .i64 x, .int .i64 y] 55)).drew).heap.size = wr.heap.size + 1 := by simp [World.drew]
      have G1 : Below w.heap.size w ((wr.alloc (.cells #[.int .i64 x, .int .i64 y] 55)).drew) := (hbl.alloc hbs _).drew
      clear h hx e1 e2 e3 hbl
      go_wp2_with fail
      go_region_law (refine step_append_lies _ rfl (.tmp 11) (.tmp 23) 53 rfl w.heap.size 55 i0 (.agg #[.int .i64 0, .int .i64 0]) 2 16 Tryz.underlying53 hi hz0 hz1 hz2 rfl (by decide) u3 k (ouC (l.take k)) (by simp [Act.eval]) gO ⟨wr.heap.size, 0, none⟩ 1 1 [.int .i64 x, .int .i64 y] (by simp [Act.eval]) rfl hnews hone (by omega) h63 (by omega) (by omega) _ hH ?_; intro g cap w2 hown3 hgrow hat hltg)
      all_goals
        have hb5 : Below w.heap.size w w2 := G1.grown hgrow (by omega) (fun g hg => (gO.lt g hg).1)
        have hO5 : w2.ownsRow w.heap.size 55 2 (.slice (some ⟨g, 0, none⟩) (k + 1) cap) (k + 1) (ouC (l.take (k + 1))) := by rw [HE.out]; exact hown3
        clear hown gO hown3 hnews hone hgrow hat G1
        go_wp2
        go_roundw
        case rel => exact ⟨k + 1, by omega, by go_num, hO5, hb5⟩
        case measure => simp [intOf]; omega
    · obtain rfl : k = n := by omega
      go_wp2
      go_ret
      have hl : l.take k = l := by rw [HN.out]; exact List.take_length
      rw [hl] at hown
      obtain ⟨a', c', rfl, hr⟩ := RowP.own hown
      exact ⟨a', _, c', rfl, hr, hbl⟩
end Go.Proofs.YtacgnofmccennaaGreatDoor
