/- What is proved here: how a slice of instructions reads as a list, and the contracts of slices.Equal, op.Same and the document's Same. Conditions: lists are not too long. -/
import Derived.Test.YtofmlodfhdjjiaaDoorBld
namespace Go.Proofs.YtofmlodfhdjjiaaDoor
open Go.ChangeShapes Go.WideShapes Go.RowKit

/-- A slice of instructions reads as a list. -/
def RowI (w : World) (a : Option Addr) (n : Nat) (L : List (Int × Int × Int)) : Prop :=
  n = L.length ∧ (0 < n → ∃ b off, a = some ⟨b, off, none⟩ ∧ b < w.heap.size ∧ ∀ i, i < n → w.cell? ⟨b, off + i * 3, none⟩ = some (.int .i64 (L.getD i (0, 0, 0)).1) ∧ w.cell? ⟨b, off + i * 3 + 1, none⟩ = some (.int .i64 (L.getD i (0, 0, 0)).2.1) ∧ w.cell? ⟨b, off + i * 3 + 2, none⟩ = some (.int .i64 (L.getD i (0, 0, 0)).2.2))
theorem RowI.below {w w' : World} {a : Option Addr} {n : Nat} {L : List (Int × Int × Int)} (h : RowI w a n L) (hb : Below w.heap.size w w') : RowI w' a n L := by
  refine ⟨h.1, fun hn => ?_⟩
  obtain ⟨b, off, rfl, hlt, hc⟩ := h.2 hn
  refine ⟨b, off, rfl, Nat.lt_of_lt_of_le hlt hb.size, fun i hi => ?_⟩
  obtain ⟨h1, h2, h3⟩ := hc i hi
  exact ⟨(hb.cell (p := ⟨b, off + i * 3, none⟩) hlt).trans h1, (hb.cell (p := ⟨b, off + i * 3 + 1, none⟩) hlt).trans h2, (hb.cell (p := ⟨b, off + i * 3 + 2, none⟩) hlt).trans h3⟩
theorem RowI.nil (w : World) (a : Option Addr) : RowI w a 0 [] := ⟨rfl, fun h => absurd h (by omega)⟩
theorem RowI.at_ {w : World} {a : Option Addr} {n k : Nat} {L : List (Int × Int × Int)} (h : RowI w a n L) (hk : k < n) : ∃ b off o x y, a = some ⟨b, off, none⟩ ∧ b < w.heap.size ∧ L[k]? = some (o, x, y) ∧
    w.cell? ⟨b, off + k * 3, none⟩ = some (.int .i64 o) ∧ w.cell? ⟨b, off + k * 3 + 1, none⟩ = some (.int .i64 x) ∧ w.cell? ⟨b, off + k * 3 + 2, none⟩ = some (.int .i64 y) := by
  obtain ⟨b, off, e, hlt, hc⟩ := h.2 (by omega)
  obtain ⟨h1, h2, h3⟩ := hc k hk
  have hl : k < L.length := by have := h.1; omega
  have hg : L[k]? = some (L.getD k (0, 0, 0)) := by rw [List.getElem?_eq_getElem hl, List.getD_eq_getElem?_getD, List.getElem?_eq_getElem hl]; rfl
  exact ⟨b, off, _, _, _, e, hlt, hg, h1, h2, h3⟩

theorem take_same {α : Type} {L M : List α} {k : Nat} {x : α} (hL : L[k]? = some x) (hM : M[k]? = some x) (h : L.take k = M.take k) : L.take (k + 1) = M.take (k + 1) := by
  rw [List.take_add_one, List.take_add_one, h, hL, hM]

theorem row_ne {L M : List (Int × Int × Int)} {k : Nat} {x y : Int × Int × Int} (hL : L[k]? = some x) (hM : M[k]? = some y) (h : x ≠ y) : decide (L = M) = false := by
  rw [decide_eq_false_iff_not]
  intro e
  rw [e, hM] at hL
  exact h (Option.some.inj hL).symm
theorem row_len {L M : List (Int × Int × Int)} (h : L.length ≠ M.length) : decide (L = M) = false := by
  rw [decide_eq_false_iff_not]
  intro e
  exact h (by rw [e])
set_option maxHeartbeats 1000000 in
set_option maxRecDepth 100000 in
theorem sameR_any (a b : Option Addr) (n m c d : Nat) (L M : List (Int × Int × Int)) (w : World) (ha : RowI w a n L) (hb : RowI w b m M) (hn : n ≤ 1000000) (hm : m ≤ 1000000) :
    Calls Tryd.prog 19 #[.slice a n c, .slice b m d] w fun e w' => e = .returned (.bool (decide (L = M))) ∧ Below w.heap.size w w' := by
  obtain ⟨R, hR⟩ : ∃ R, R = decide (L = M) := ⟨_, rfl⟩
  rw [← hR]
  have HR := Lib.hid hR
  clear hR
  by_cases hnm : n ≠ m
  · have HQ := Lib.hid (row_len (L := L) (M := M) (by rw [← ha.1, ← hb.1]; exact hnm))
    have e1 : (n == m) = false := by rw [beq_eq_false_iff_ne]; exact hnm
    have e2 : ((n : Int) == (m : Int)) = false := by rw [beq_eq_false_iff_ne]; omega
    have e3 : (n != m) = true := by simpa using hnm
    have e4 : ((n : Int) != (m : Int)) = true := by simpa [bne] using e2
    clear ha hb hnm
    go_enter Tryd.func19, Tryd.ntmps19
    go_wp2
    go_ret
    exact ⟨by rw [HR.out, HQ.out]; rfl, Below.refl _ _⟩
  obtain rfl : n = m := by omega
  clear hnm
  have HL := Lib.hid ha.1
  have HM := Lib.hid hb.1
  go_enter Tryd.func19, Tryd.ntmps19
  go_wp2
  go_loopw [5] (fun i wr => ∃ k : Nat, k ≤ n ∧ i = .int .i64 k ∧ Hid (L.take k = M.take k) ∧ Below w.heap.size w wr) (fun i _ => n - (intOf i).toNat)
  case atStart => exact ⟨0, by omega, rfl, rfl, Below.refl _ _⟩
  case round =>
    obtain ⟨k, hk, rfl, HT, hbl⟩ := hrel
    by_cases hlt : k < n
    · obtain ⟨b1, o1, p1, p2, p3, rfl, hB1, hx, hc1, hc2, hc3⟩ := (ha.below hbl).at_ hlt
      obtain ⟨b2, o2, q1, q2, q3, rfl, hB2, hy, hd1, hd2, hd3⟩ := (hb.below hbl).at_ hlt
      have HX := Lib.hid hx
      have HY := Lib.hid hy
      clear hx hy
      by_cases g1 : p1 = q1
      · subst g1
        by_cases g2 : p2 = q2
        · subst g2
          by_cases g3 : p3 = q3
          · subst g3
            have HT2 := Lib.hid (take_same HX.out HY.out HT.out)
            clear HX HY HT
            go_wp2
            go_quiet (fail)
            go_wp2
            go_roundw
            case rel => exact ⟨k + 1, by omega, by go_num, HT2, hbl.trans ⟨rfl, rfl, rfl, Nat.le_refl _, fun _ _ => rfl⟩⟩
            case measure => simp [intOf]; omega
          · have HQ := Lib.hid (row_ne HX.out HY.out (by simp [g3]))
            have e1 : (p3 == q3) = false := by rw [beq_eq_false_iff_ne]; exact g3
            clear HX HY HT g3
            go_wp2
            go_quiet (fail)
            go_wp2
            go_ret
            exact ⟨by rw [HR.out, HQ.out]; rfl, hbl.trans ⟨rfl, rfl, rfl, Nat.le_refl _, fun _ _ => rfl⟩⟩
        · have HQ := Lib.hid (row_ne HX.out HY.out (by simp [g2]))
          have e1 : (p2 == q2) = false := by rw [beq_eq_false_iff_ne]; exact g2
          clear HX HY HT g2
          go_wp2
          go_quiet (fail)
          go_wp2
          go_ret
          exact ⟨by rw [HR.out, HQ.out]; rfl, hbl.trans ⟨rfl, rfl, rfl, Nat.le_refl _, fun _ _ => rfl⟩⟩
      · have HQ := Lib.hid (row_ne HX.out HY.out (by simp [g1]))
        have e1 : (p1 == q1) = false := by rw [beq_eq_false_iff_ne]; exact g1
        clear HX HY HT g1
        go_wp2
        go_quiet (fail)
        go_wp2
        go_ret
        exact ⟨by rw [HR.out, HQ.out]; rfl, hbl.trans ⟨rfl, rfl, rfl, Nat.le_refl _, fun _ _ => rfl⟩⟩
    · have HQ : Hid (decide (L = M) = true) := by
        show _ = _
        rw [decide_eq_true_iff]
        have := HT.out
        rw [List.take_of_length_le (by rw [← HL.out]; omega), List.take_of_length_le (by rw [← HM.out]; omega)] at this
        exact this
      go_wp2
      go_ret
      exact ⟨by rw [HR.out, HQ.out]; rfl, hbl⟩
end Go.Proofs.YtofmlodfhdjjiaaDoor
