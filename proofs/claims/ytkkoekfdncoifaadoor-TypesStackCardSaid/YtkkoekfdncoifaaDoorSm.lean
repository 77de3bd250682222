/- What is proved here: contracts of types' twice, turned, reckoned, fitsOne and fits. Conditions: texts are not too long. -/
import Derived.Test.YtkkoekfdncoifaaDoorFx4
import Derived.BigRegion
import Derived.Deep.RegionHeld3
import Derived.StillTailTactics
namespace Go.Proofs.YtkkoekfdncoifaaDoor
open Go.ChangeShapes Go.WideShapes Go.RowKit Go.Maps

theorem twice_any (a : Int) (t : List UInt8) (ht : t.length ≤ 1000) (w : World) : Calls Tryd.prog 34 #[.int .i64 a, .string (bs t)] w fun e w' => e = .returned (.string (bs (t ++ t))) ∧ w = w' := by
  have hs := bs_size t
  rw [← bs_append]
  generalize bs t = s at hs ⊢
  have hcat : ¬ (9223372036854775807 < s.size + s.size) := by omega
  clear hs
  go_enter Tryd.func34, Tryd.ntmps34
  go_wp2
  go_ret
  exact ⟨rfl, rfl⟩
theorem turned_any (a : Int) (t : List UInt8) (h1 : 1 ≤ t.length) (ht : t.length ≤ 1000) (w : World) : Calls Tryd.prog 35 #[.int .i64 a, .string (bs t)] w fun e w' => e = .returned (.string (bs (t.drop 1 ++ t.take 1))) ∧ Below w.heap.size w w' := by
  have hs := bs_size t
  rw [← bs_append]
  have e1 : (bs t).extract 1 (bs t).size = bs (t.drop 1) := by rw [bs_extract, bs_size, List.take_length]
  have e2 : (bs t).extract 0 1 = bs (t.take 1) := by rw [bs_extract, List.drop_zero]
  have s1 : (bs (t.drop 1)).size ≤ 1000 := by rw [bs_size, List.length_drop]; omega
  have s2 : (bs (t.take 1)).size ≤ 1000 := by rw [bs_size, List.length_take]; omega
  generalize bs (t.drop 1) = p at e1 s1 ⊢
  generalize bs (t.take 1) = q at e2 s2 ⊢
  generalize bs t = s at hs e1 e2 ⊢
  have hcat : ¬ (9223372036854775807 < p.size + q.size) := by omega
  have hg : (1 : Int) ≤ (s.size : Int) := by omega
  clear hs h1 ht
  go_enter Tryd.func35, Tryd.ntmps35
  go_wp2
  go_quiet (fail)
  go_wp2
  go_ret
  exact ⟨rfl, ⟨rfl, rfl, rfl, Nat.le_refl _, fun _ _ => rfl⟩⟩
theorem reckoned_any (a : Int) (s : ByteArray) (w : World) : Calls Tryd.prog 36 #[.int .i64 a, .string s] w fun e w' => e = .returned (.string (bs (if a = 11 ∨ a = 12 then [98] else [105]))) ∧ w = w' := by
  by_cases h1 : a = 11
  · subst h1
    go_enter Tryd.func36, Tryd.ntmps36
    go_wp2
    go_ret
    exact ⟨rfl, rfl⟩
  · by_cases h2 : a = 12
    · subst h2
      go_enter Tryd.func36, Tryd.ntmps36
      go_wp2
      go_ret
      exact ⟨rfl, rfl⟩
    · rw [if_neg (by omega)]
      have e1 : (a == 11) = false := by simpa using h1
      have e2 : (a == 12) = false := by simpa using h2
      go_enter Tryd.func36, Tryd.ntmps36
      go_wp2
      go_ret
      exact ⟨rfl, rfl⟩
theorem one_eq (x y : UInt8) : ((bs [x]).toList == (bs [y]).toList) = (x == y) := by
  rw [bs_toList, bs_toList]; simp
theorem one_ne (x y : UInt8) (h : x ≠ y) : ((bs [x]).toList == [y]) = false ∧ ¬ (bs [x]).toList = [y] := by
  rw [bs_toList]; simp [h]
theorem fitsOne_any (x y : UInt8) (w : World) : Calls Tryd.prog 48 #[.string (bs [x]), .string (bs [y])] w fun e w' => e = .returned (.bool (fit1 x y)) ∧ w = w' := by
  unfold fit1
  by_cases hy : y = 32
  · subst hy
    rw [if_pos rfl]
    have e1 : ((bs [32]).toList == [32]) = true := by rw [bs_toList]; rfl
    by_cases h1 : x = 105
    · subst h1
      have e2 : ((bs [105]).toList == [105]) = true := by rw [bs_toList]; rfl
      have e3 : (bs [105]).toList = [105] := by rw [bs_toList]
      go_enter Tryd.func48, Tryd.ntmps48
      go_wp2
      go_ret
      exact ⟨rfl, rfl⟩
    · obtain ⟨e2, e3⟩ := one_ne x 105 h1
      have e5 : (x == 105) = false := by simpa using h1
      by_cases h2 : x = 98
      · subst h2
        have e6 : ((bs [98]).toList == [98]) = true := by rw [bs_toList]; rfl
        go_enter Tryd.func48, Tryd.ntmps48
        go_wp2
        go_ret
        exact ⟨rfl, rfl⟩
      · obtain ⟨e6, e7⟩ := one_ne x 98 h2
        have e8 : (x == 98) = false := by simpa using h2
        rw [e5, e8]
        clear h1 h2 e5 e8
        go_enter Tryd.func48, Tryd.ntmps48
        go_wp2
        go_ret
        exact ⟨rfl, rfl⟩
  · rw [if_neg hy]
    obtain ⟨e1, e2⟩ := one_ne y 32 hy
    have e4 := one_eq x y
    cases h3 : (x == y)
    · rw [h3] at e4
      clear h3 hy
      go_enter Tryd.func48, Tryd.ntmps48
      go_wp2
      go_ret
      exact ⟨by rw [← e4]; rfl, rfl⟩
    · rw [h3] at e4
      clear h3 hy
      go_enter Tryd.func48, Tryd.ntmps48
      go_wp2
      go_ret
      exact ⟨by rw [← e4]; rfl, rfl⟩
theorem fit_len {t u : List UInt8} (h : fit t u = true) : t.length = u.length := by
  induction t generalizing u with
  | nil => cases u with
    | nil => rfl
    | cons y u => simp [fit] at h
  | cons x t ih => cases u with
    | nil => simp [fit] at h
    | cons y u => simp only [fit, Bool.and_eq_true] at h; simp [ih h.2]
theorem fit_ne {t u : List UInt8} (h : t.length ≠ u.length) : fit t u = false := by
  cases hf : fit t u
  · rfl
  · exact absurd (fit_len hf) h
theorem drop_cons {l : List UInt8} {k : Nat} (h : k < l.length) : l.drop k = l[k] :: l.drop (k + 1) := List.drop_eq_getElem_cons h
theorem one_at {l : List UInt8} {k : Nat} (h : k < l.length) : (bs l).extract k (k + 1) = bs [l[k]] := by
  rw [bs_extract, List.drop_take]
  congr 1
  rw [drop_cons h, show k + 1 - k = 1 by omega]; rfl
set_option maxHeartbeats 1000000 in
set_option maxRecDepth 100000 in
theorem fits_any (t u : List UInt8) (ht : t.length ≤ 1000000) (w : World) : Calls Tryd.prog 30 #[.string (bs t), .string (bs u)] w fun e w' => e = .returned (.bool (fit t u)) ∧ Below w.heap.size w w' := by
  have s1 := bs_size t
  have s2 := bs_size u
  by_cases hl : t.length = u.length
  · obtain ⟨R, hR⟩ : ∃ R, R = fit t u := ⟨_, rfl⟩
    rw [← hR]
    have H0 : Hid (R = fit (t.drop 0) (u.drop 0)) := by show _ = _; rw [hR]; rfl
    have HT := Lib.hid (fun k => one_at (l := t) (k := k))
    have HU := Lib.hid (fun k => one_at (l := u) (k := k))
    obtain ⟨s, hs⟩ : ∃ s, s = bs t := ⟨_, rfl⟩
    obtain ⟨r, hr⟩ : ∃ r, r = bs u := ⟨_, rfl⟩
    rw [← hs] at s1 HT ⊢
    rw [← hr] at s2 HU ⊢
    have hsz : s.size = r.size := by omega
    have e0 : ((s.size : Int) != (r.size : Int)) = false := by simp [hsz]
    clear hR hs hr
    have HS1 := Lib.hid s1
    have HS2 := Lib.hid s2
    have hm : r.size ≤ 1000000 := by omega
    have hm2 : s.size ≤ 1000000 := by omega
    clear s1 s2 hl
    have HZ := Lib.hid hsz
    clear hsz
    go_enter Tryd.func30, Tryd.ntmps30
    go_wp2
    go_loopw [13] (fun i wr => ∃ k : Nat, k ≤ r.size ∧ i = .int .i64 k ∧ Hid (R = fit (t.drop k) (u.drop k)) ∧ Below w.heap.size w wr) (fun i _ => r.size - (intOf i).toNat)
    case atStart => exact ⟨0, by omega, rfl, H0, Below.refl _ _⟩
    case round =>
      clear H0
      obtain ⟨k, hk, rfl, HR, hbl⟩ := hrel
      by_cases hlt : k < r.size
      · have k1 : k < t.length := by rw [← HS1.out, HZ.out]; exact hlt
        have k2 : k < u.length := by rw [← HS2.out]; exact hlt
        have hlt1 : k < s.size := by rw [HZ.out]; exact hlt
        have x1 := HT.out k k1
        have x2 := HU.out k k2
        have HR2 := HR.out
        rw [drop_cons k1, drop_cons k2] at HR2
        generalize t[k] = x at x1 HR2
        generalize u[k] = y at x2 HR2
        have C := fitsOne_any x y
        generalize bs [x] = X at x1 C
        generalize bs [y] = Y at x2 C
        have g1 : (0 : Int) ≤ (k : Int) := by omega
        have g2 : (k : Int) + 1 ≤ (s.size : Int) := by omega
        have g3 : (k : Int) + 1 ≤ (r.size : Int) := by omega
        cases hv : fit1 x y
        · rw [hv] at C
          have HQ : Hid (R = false) := by show _ = _; rw [HR2, fit, hv]; rfl
          have HC := Lib.hid C
          clear C HR2 hv HR
          go_wp2
          go_quiet (exact Calls.quiet_of_same ((HC.out _).mono (fun e w' h => ⟨h.1, h.2.symm⟩)))
          go_wp2
          go_ret
          exact ⟨by rw [HQ.out]; rfl, hbl.trans ⟨rfl, rfl, rfl, Nat.le_refl _, fun _ _ => rfl⟩⟩
        · rw [hv] at C
          have HR3 : Hid (R = fit (t.drop (k + 1)) (u.drop (k + 1))) := by show _ = _; rw [HR2, fit, hv]; rfl
          have HC := Lib.hid C
          clear C HR2 hv HR
          go_wp2
          go_quiet (exact Calls.quiet_of_same ((HC.out _).mono (fun e w' h => ⟨h.1, h.2.symm⟩)))
          go_wp2
          go_roundw
          case rel => exact ⟨k + 1, by omega, by go_num, HR3, hbl.trans ⟨rfl, rfl, rfl, Nat.le_refl _, fun _ _ => rfl⟩⟩
          case measure => simp [intOf]; omega
      · have HQ : Hid (R = true) := by
          show _ = _
          rw [HR.out, List.drop_eq_nil_of_le (by rw [← HS1.out, HZ.out]; omega), List.drop_eq_nil_of_le (by rw [← HS2.out]; omega)]; rfl
        go_wp2
        go_ret
        exact ⟨by rw [HQ.out]; rfl, hbl⟩
  · rw [fit_ne hl]
    generalize bs t = s at s1 ⊢
    generalize bs u = r at s2 ⊢
    have e0 : ((s.size : Int) != (r.size : Int)) = true := by simp; omega
    have e1 : ¬ s.size = r.size := by omega
    clear s1 s2 hl
    go_enter Tryd.func30, Tryd.ntmps30
    go_wp2
    go_ret
    exact ⟨rfl, Below.refl _ _⟩
end Go.Proofs.YtkkoekfdncoifaaDoor
