/- What is proved here: contracts of the document's Takes, fits, Gives and nexts for layer 7. Conditions: those each theorem states. -/
import Derived.Test.YtkkoekfdncoifaaDoorTy5
import Derived.Test.YtkkoekfdncoifaaDoorSt
import Derived.Test.YtkkoekfdncoifaaDoorR6
namespace Go.Proofs.YtkkoekfdncoifaaDoor
open Go.ChangeShapes Go.WideShapes Go.RowKit Go.Maps

/-- The table of what is taken. -/
def tabT : Array Value := #[.string ⟨#[]⟩, .string ⟨#[32]⟩, .string ⟨#[32]⟩, .string ⟨#[32, 32]⟩, .string ⟨#[105, 105]⟩, .string ⟨#[105]⟩, .string ⟨#[98]⟩, .string ⟨#[98, 98]⟩, .string ⟨#[98, 98]⟩, .string ⟨#[98]⟩, .string ⟨#[]⟩, .string ⟨#[105]⟩, .string ⟨#[]⟩, .string ⟨#[105]⟩, .string ⟨#[]⟩, .string ⟨#[105]⟩, .string ⟨#[]⟩, .string ⟨#[105]⟩, .string ⟨#[]⟩, .string ⟨#[98]⟩, .string ⟨#[]⟩, .string ⟨#[]⟩, .string ⟨#[]⟩, .string ⟨#[]⟩, .string ⟨#[]⟩]
theorem tab_at (j : Nat) (h : j < 25) : tabT[j]? = some (.string (bs (tk ((j : Int) + 1)))) := by
  match j, h with
  | 0, _ => rfl
  | 1, _ => rfl
  | 2, _ => rfl
  | 3, _ => rfl
  | 4, _ => rfl
  | 5, _ => rfl
  | 6, _ => rfl
  | 7, _ => rfl
  | 8, _ => rfl
  | 9, _ => rfl
  | 10, _ => rfl
  | 11, _ => rfl
  | 12, _ => rfl
  | 13, _ => rfl
  | 14, _ => rfl
  | 15, _ => rfl
  | 16, _ => rfl
  | 17, _ => rfl
  | 18, _ => rfl
  | 19, _ => rfl
  | 20, _ => rfl
  | 21, _ => rfl
  | 22, _ => rfl
  | 23, _ => rfl
  | 24, _ => rfl
  | j + 25, h => exact absurd h (by omega)
set_option maxHeartbeats 1000000 in
set_option maxRecDepth 100000 in
theorem takesR_any (o x y : Int) (w : World) : Calls Tryd.prog 24 #[.agg #[.int .i64 o, .int .i64 x, .int .i64 y]] w fun e w' => e = .returned (.string (bs (tkI (o, x, y)))) ∧ Below w.heap.size w w' := by
  have G := below_alloc w (.cells #[.int .i64 o, .int .i64 x, .int .i64 y] 37)
  have cr := rightR_any o x y (w.alloc (.cells #[.int .i64 o, .int .i64 x, .int .i64 y] 37))
  have B0 := new_block w (.cells #[.int .i64 o, .int .i64 x, .int .i64 y] 37)
  cases hr : right (o, x, y)
  · rw [hr] at cr
    have HQ : Hid (tkI (o, x, y) = []) := by show _ = _; unfold tkI; rw [hr]; rfl
    have C := Lib.hid cr
    clear cr hr B0
    go_enter Tryd.func24, Tryd.ntmps24
    go_wp2_with (go_at_call 42; refine C.out.mono ?_; rintro e w1 ⟨rfl, hb1⟩)
    go_ret
    exact ⟨by rw [HQ.out]; rfl, keep_below G hb1⟩
  · rw [hr] at cr
    have hk := right_kn hr
    obtain ⟨j, rfl⟩ : ∃ j : Nat, o = (j : Int) + 1 := ⟨(o - 1).toNat, by simp only at hk; omega⟩
    have HQ : Hid (tkI ((j : Int) + 1, x, y) = tk ((j : Int) + 1)) := by show _ = _; unfold tkI; rw [hr]; rfl
    have hj : j < 25 := by simp only at hk; omega
    have c0 := (Lib.cell_of_heap B0 0).trans (rfl : _ = some (Value.int .i64 ((j : Int) + 1)))
    have hw1 : IntKind.i64.wrap ((j : Int) + 1 - 1) = (j : Int) := by rw [IntWalk.i64_in _ (by omega)]; omega
    have f1 : (0 : Int) ≤ (j : Int) := by omega
    have f2 : (j : Int) < 25 := by omega
    have HTb := Lib.hid (tab_at j hj)
    obtain ⟨R, hR⟩ : ∃ R, R = bs (tk ((j : Int) + 1)) := ⟨_, rfl⟩
    rw [← hR] at HTb
    have C := Lib.hid cr
    have HR := Lib.hid hR
    clear cr hr B0 hk hR
    go_enter Tryd.func24, Tryd.ntmps24
    go_wp2_with (go_at_call 42; refine C.out.mono ?_; rintro e w1 ⟨rfl, hb1⟩; have c1 := keep_cell hb1 c0; have c2 := keep_cell (below_alloc w1 (.cells #[.string ⟨#[]⟩, .string ⟨#[32]⟩, .string ⟨#[32]⟩, .string ⟨#[32, 32]⟩, .string ⟨#[105, 105]⟩, .string ⟨#[105]⟩, .string ⟨#[98]⟩, .string ⟨#[98, 98]⟩, .string ⟨#[98, 98]⟩, .string ⟨#[98]⟩, .string ⟨#[]⟩, .string ⟨#[105]⟩, .string ⟨#[]⟩, .string ⟨#[105]⟩, .string ⟨#[]⟩, .string ⟨#[105]⟩, .string ⟨#[]⟩, .string ⟨#[105]⟩, .string ⟨#[]⟩, .string ⟨#[98]⟩, .string ⟨#[]⟩, .string ⟨#[]⟩, .string ⟨#[]⟩, .string ⟨#[]⟩, .string ⟨#[]⟩] 9)) c1; have c3 := (Lib.cell_of_heap (new_block w1 (.cells #[.string ⟨#[]⟩, .string ⟨#[32]⟩, .string ⟨#[32]⟩, .string ⟨#[32, 32]⟩, .string ⟨#[105, 105]⟩, .string ⟨#[105]⟩, .string ⟨#[98]⟩, .string ⟨#[98, 98]⟩, .string ⟨#[98, 98]⟩, .string ⟨#[98]⟩, .string ⟨#[]⟩, .string ⟨#[105]⟩, .string ⟨#[]⟩, .string ⟨#[105]⟩, .string ⟨#[]⟩, .string ⟨#[105]⟩, .string ⟨#[]⟩, .string ⟨#[105]⟩, .string ⟨#[]⟩, .string ⟨#[98]⟩, .string ⟨#[]⟩, .string ⟨#[]⟩, .string ⟨#[]⟩, .string ⟨#[]⟩, .string ⟨#[]⟩] 9)) j).trans HTb.out)
    go_ret
    exact ⟨by rw [HQ.out, ← HR.out]; rfl, keep_below (keep_below G hb1) (below_alloc _ _)⟩
/-- Does what was taken fit, by the document's test? -/
def fitR : List UInt8 → List UInt8 → Bool
  | [], [] => true
  | x :: t, y :: u => (y == 32 || y == x) && fitR t u
  | _, _ => false
theorem fitR_good : ∀ {t u : List UInt8}, gdB t → fitR t u = fit t u
  | [], [], _ => rfl
  | [], _ :: _, _ => rfl
  | _ :: _, [], _ => rfl
  | x :: t, y :: u, h => by
    have h1 : x = 105 ∨ x = 98 := h x (by simp)
    have h2 : fitR t u = fit t u := fitR_good (fun c hc => h c (by simp [hc]))
    rw [fitR, fit, h2]
    congr 1
    unfold fit1
    by_cases e : y = 32
    · subst e
      rw [if_pos rfl]
      rcases h1 with rfl | rfl <;> rfl
    · rw [if_neg e]
      have e2 : (y == 32) = false := by simpa using e
      rw [e2, Bool.false_or, Bool.eq_iff_iff, beq_iff_eq, beq_iff_eq]
      exact ⟨fun h => h.symm, fun h => h.symm⟩
theorem fitR_ne {t u : List UInt8} (h : t.length ≠ u.length) : fitR t u = false := by
  induction t generalizing u with
  | nil => cases u with
    | nil => simp at h
    | cons y u => rfl
  | cons x t ih => cases u with
    | nil => rfl
    | cons y u => rw [fitR, ih (by simpa using h)]; simp
theorem byte_drop {l : List UInt8} {k : Nat} (h : k < (bs l).size) : l.drop k = (bs l)[k] :: l.drop (k + 1) := by
  have h2 : k < l.length := by rw [← bs_size]; exact h
  rw [drop_cons h2]
  congr 1
set_option maxHeartbeats 1000000 in
set_option maxRecDepth 100000 in
theorem fitsR_any (t u : List UInt8) (ht : t.length ≤ 1000000) (w : World) : Calls Tryd.prog 25 #[.string (bs t), .string (bs u)] w fun e w' => e = .returned (.bool (fitR t u)) ∧ Below w.heap.size w w' := by
  have s1 := bs_size t
  have s2 := bs_size u
  by_cases hl : t.length = u.length
  · obtain ⟨R, hR⟩ : ∃ R, R = fitR t u := ⟨_, rfl⟩
    rw [← hR]
    have H0 : Hid (R = fitR (t.drop 0) (u.drop 0)) := by show _ = _; rw [hR]; rfl
    have HT := Lib.hid (fun k => byte_drop (l := t) (k := k))
    have HU := Lib.hid (fun k => byte_drop (l := u) (k := k))
    obtain ⟨s, hs⟩ : ∃ s, s = bs t := ⟨_, rfl⟩
    obtain ⟨r, hr⟩ : ∃ r, r = bs u := ⟨_, rfl⟩
    rw [← hs] at s1 HT ⊢
    rw [← hr] at s2 HU ⊢
    have hsz : s.size = r.size := by omega
    have e0 : ((s.size : Int) != (r.size : Int)) = false := by simp [hsz]
    clear hR hs hr
    have HS1 := Lib.hid s1
    have HS2 := Lib.hid s2
    have hm : r.size ≤ 1000000 := by omega
    have hm2 : s.size ≤ 1000000 := by omega
    clear s1 s2 hl
    have HZ := Lib.hid hsz
    clear hsz
    go_enter Tryd.func25, Tryd.ntmps25
    go_wp2
    go_loopw [5] (fun i wr => ∃ k : Nat, k ≤ r.size ∧ i = .int .i64 k ∧ Hid (R = fitR (t.drop k) (u.drop k)) ∧ Below w.heap.size w wr) (fun i _ => r.size - (intOf i).toNat)
    case atStart => exact ⟨0, by omega, rfl, H0, Below.refl _ _⟩
    case round =>
      clear H0
      obtain ⟨k, hk, rfl, HR, hbl⟩ := hrel
      by_cases hlt : k < r.size
      · have hlt1 : k < s.size := by rw [HZ.out]; exact hlt
        have HR2 := HR.out
        rw [HT.out k hlt1, HU.out k hlt, fitR] at HR2
        have g1 : (0 : Int) ≤ (k : Int) := by omega
        have g2 : (k : Int) < (s.size : Int) := by omega
        have g3 : (k : Int) < (r.size : Int) := by omega
        by_cases h32 : r[k] = 32
        · have e1 : ((r[k].toNat : Int) != 32) = false := by rw [h32]; rfl
          have e2 : (r[k].toNat : Int) = 32 := by rw [h32]; rfl
          have HR3 : Hid (R = fitR (t.drop (k + 1)) (u.drop (k + 1))) := by show _ = _; rw [HR2, h32]; rfl
          clear HR2 h32 HR
          go_wp2
          go_quiet (fail)
          go_wp2
          go_roundw
          case rel => exact ⟨k + 1, by omega, by go_num, HR3, hbl.trans ⟨rfl, rfl, rfl, Nat.le_refl _, fun _ _ => rfl⟩⟩
          case measure => simp [intOf]; omega
        · have e1 : ((r[k].toNat : Int) != 32) = true := by
            simp only [bne_iff_ne, ne_eq]
            intro e; exact h32 (UInt8.toNat_inj.1 (by have : (32 : UInt8).toNat = 32 := rfl; omega))
          have e1' : ¬ (r[k].toNat : Int) = 32 := by simpa using e1
          have e32 : (r[k] == 32) = false := by simpa using h32
          by_cases hsame : r[k] = s[k]
          · have e2 : ((r[k].toNat : Int) != (s[k].toNat : Int)) = false := by rw [hsame]; simp
            have e3 : (r[k].toNat : Int) = (s[k].toNat : Int) := by rw [hsame]
            have e1s : ((s[k].toNat : Int) != 32) = true := by rw [← e3]; exact e1
            have e1t : ¬ (s[k].toNat : Int) = 32 := by rw [← e3]; exact e1'
            have HR3 : Hid (R = fitR (t.drop (k + 1)) (u.drop (k + 1))) := by show _ = _; rw [HR2, hsame]; simp
            clear HR2 h32 HR hsame e32
            go_wp2
            go_quiet (fail)
            go_wp2
            go_roundw
            case rel => exact ⟨k + 1, by omega, by go_num, HR3, hbl.trans ⟨rfl, rfl, rfl, Nat.le_refl _, fun _ _ => rfl⟩⟩
            case measure => simp [intOf]; omega
          · have e3 : ¬ (r[k].toNat : Int) = (s[k].toNat : Int) := by intro e; exact hsame (UInt8.toNat_inj.1 (by omega))
            have e2 : ((r[k].toNat : Int) != (s[k].toNat : Int)) = true := by simpa using e3
            have HQ : Hid (R = false) := by
              show _ = _
              have : (r[k] == s[k]) = false := by simpa using hsame
              rw [HR2, e32, this]; rfl
            clear HR2 h32 HR hsame e32
            go_wp2
            go_quiet (fail)
            go_wp2
            go_ret
            exact ⟨by rw [HQ.out]; rfl, hbl.trans ⟨rfl, rfl, rfl, Nat.le_refl _, fun _ _ => rfl⟩⟩
      · have HQ : Hid (R = true) := by
          show _ = _
          rw [HR.out, List.drop_eq_nil_of_le (by rw [← HS1.out, HZ.out]; omega), List.drop_eq_nil_of_le (by rw [← HS2.out]; omega)]; rfl
        go_wp2
        go_ret
        exact ⟨by rw [HQ.out]; rfl, hbl⟩
  · rw [fitR_ne hl]
    generalize bs t = s at s1 ⊢
    generalize bs u = r at s2 ⊢
    have e0 : ((s.size : Int) != (r.size : Int)) = true := by simp; omega
    have e1 : ¬ s.size = r.size := by omega
    clear s1 s2 hl
    go_enter Tryd.func25, Tryd.ntmps25
    go_wp2
    go_ret
    exact ⟨rfl, Below.refl _ _⟩
end Go.Proofs.YtkkoekfdncoifaaDoor
