/- What is proved here: contracts of the document's Takes, fits, Gives and nexts for layer 7. Conditions: those each theorem states. contracts of the document's Gives and nexts for layer 7. Conditions: those each theorem states. -/
import Derived.Test.YthncbnalnfbpnaaGreatDoorGk
import Derived.Test.YthncbnalnfbpnaaGreatDoorGm
import Derived.Test.YthncbnalnfbpnaaGreatDoorKd
section
namespace Go.Proofs.YthncbnalnfbpnaaGreatDoor
open Go.ChangeShapes Go.WideShapes Go.RowKit Go.Maps

/-- The table of what is taken. -/
def tabT : Array Value := #[.string ⟨#[]⟩, .string ⟨#[32]⟩, .string ⟨#[32]⟩, .string ⟨#[32, 32]⟩, .string ⟨#[105, 105]⟩, .string ⟨#[105]⟩, .string ⟨#[98]⟩, .string ⟨#[98, 98]⟩, .string ⟨#[98, 98]⟩, .string ⟨#[98]⟩, .string ⟨#[]⟩, .string ⟨#[105]⟩, .string ⟨#[]⟩, .string ⟨#[105]⟩, .string ⟨#[]⟩, .string ⟨#[105]⟩, .string ⟨#[]⟩, .string ⟨#[105]⟩, .string ⟨#[]⟩, .string ⟨#[98]⟩, .string ⟨#[]⟩, .string ⟨#[]⟩, .string ⟨#[]⟩, .string ⟨#[]⟩, .string ⟨#[]⟩]
theorem tab_at (j : Nat) (h : j < 25) : tabT[j]? = some (.string (bs (tk ((j : Int) + 1)))) := by
  match j, h with
  | 0, _ => rfl
  | 1, _ => rfl
  | 2, _ => rfl
  | 3, _ => rfl
  | 4, _ => rfl
  | 5, _ => rfl
  | 6, _ => rfl
  | 7, _ => rfl
  | 8, _ => rfl
  | 9, _ => rfl
  | 10, _ => rfl
  | 11, _ => rfl
  | 12, _ => rfl
  | 13, _ => rfl
  | 14, _ => rfl
  | 15, _ => rfl
  | 16, _ => rfl
  | 17, _ => rfl
  | 18, _ => rfl
  | 19, _ => rfl
  | 20, _ => rfl
  | 21, _ => rfl
  | 22, _ => rfl
  | 23, _ => rfl
  | 24, _ => rfl
  | j + 25, h => exact absurd h (by omega)
set_option maxHeartbeats 1000000 in
set_option maxRecDepth 100000 in
theorem takesR_any (o x y : Int) (w : World) : Calls Tryz.prog 147 #[.agg #[.int .i64 o, .int .i64 x, .int .i64 y]] w fun e w' => e = .returned (.string (bs (tkI (o, x, y)))) ∧ Below w.heap.size w w' := by
  have G := below_alloc w (.cells #[.int .i64 o, .int .i64 x, .int .i64 y] 70)
  have cr := rightR_any o x y (w.alloc (.cells #[.int .i64 o, .int .i64 x, .int .i64 y] 70))
  have B0 := new_block w (.cells #[.int .i64 o, .int .i64 x, .int .i64 y] 70)
  cases hr : right (o, x, y)
  · rw [hr] at cr
    have HQ : Hid (tkI (o, x, y) = []) := by show _ = _; unfold tkI; rw [hr]; rfl
    have C := Lib.hid cr
    clear cr hr B0
    go_enter Tryz.func147, Tryz.ntmps147
    go_wp2_with (go_at_call 110; refine C.out.mono ?_; rintro e w1 ⟨rfl, hb1⟩)
    go_ret
    exact ⟨by rw [HQ.out]; rfl, keep_below G hb1⟩
  · rw [hr] at cr
    have hk := right_kn hr
    obtain ⟨j, rfl⟩ : ∃ j : Nat, o = (j : Int) + 1 := ⟨(o - 1).toNat, by simp only at hk; omega⟩
    have HQ : Hid (tkI ((j : Int) + 1, x, y) = tk ((j : Int) + 1)) := by show _ = _; unfold tkI; rw [hr]; rfl
    have hj : j < 25 := by simp only at hk; omega
    have c0 := (Lib.cell_of_heap B0 0).trans (rfl : _ = some (Value.int .i64 ((j : Int) + 1)))
    have hw1 : IntKind.i64.wrap ((j : Int) + 1 - 1) = (j : Int) := by rw [IntWalk.i64_in _ (by omega)]; omega
    have f1 : (0 : Int) ≤ (j : Int) := by omega
    have f2 : (j : Int) < 25 := by omega
    have HTb := Lib.hid (tab_at j hj)
    obtain ⟨R, hR⟩ : ∃ R, R = bs (tk ((j : Int) + 1)) := ⟨_, rfl⟩
    rw [← hR] at HTb
    have C := Lib.hid cr
    have HR := Lib.hid hR
    clear cr hr B0 hk hR
    go_enter Tryz.func147, Tryz.ntmps147
    go_wp2_with (go_at_call 110; refine C.out.mono ?_; rintro e w1 ⟨rfl, hb1⟩; have c1 := keep_cell hb1 c0; have c2 := keep_cell (below_alloc w1 (.cells #[.string ⟨#[]⟩, .string ⟨#[32]⟩, .string ⟨#[32]⟩, .string ⟨#[32, 32]⟩, .string ⟨#[105, 105]⟩, .string ⟨#[105]⟩, .string ⟨#[98]⟩, .string ⟨#[98, 98]⟩, .string ⟨#[98, 98]⟩, .string ⟨#[98]⟩, .string ⟨#[]⟩, .string ⟨#[105]⟩, .string ⟨#[]⟩, .string ⟨#[105]⟩, .string ⟨#[]⟩, .string ⟨#[105]⟩, .string ⟨#[]⟩, .string ⟨#[105]⟩, .string ⟨#[]⟩, .string ⟨#[98]⟩, .string ⟨#[]⟩, .string ⟨#[]⟩, .string ⟨#[]⟩, .string ⟨#[]⟩, .string ⟨#[]⟩] 9)) c1; have c3 := (Lib.cell_of_heap (new_block w1 (.cells #[.string ⟨#[]⟩, .string ⟨#[32]⟩, .string ⟨#[32]⟩, .string ⟨#[32, 32]⟩, .string ⟨#[105, 105]⟩, .string ⟨#[105]⟩, .string ⟨#[98]⟩, .string ⟨#[98, 98]⟩, .string ⟨#[98, 98]⟩, .string ⟨#[98]⟩, .string ⟨#[]⟩, .string ⟨#[105]⟩, .string ⟨#[]⟩, .string ⟨#[105]⟩, .string ⟨#[]⟩, .string ⟨#[105]⟩, .string ⟨#[]⟩, .string ⟨#[105]⟩, .string ⟨#[]⟩, .string ⟨#[98]⟩, .string ⟨#[]⟩, .string ⟨#[]⟩, .string ⟨#[]⟩, .string ⟨#[]⟩, .string ⟨#[]⟩] 9)) j).trans HTb.out)
    go_ret
    exact ⟨by rw [HQ.out, ← HR.out]; rfl, keep_below (keep_below G hb1) (below_alloc _ _)⟩
/-- Does what was taken fit, by the document's test? -/
def fitR : List UInt8 → List UInt8 → Bool
  | [], [] => true
  | x :: t, y :: u => (y == 32 || y == x) && fitR t u
  | _, _ => false
theorem fitR_good : ∀ {t u : List UInt8}, gdB t → fitR t u = fit t u
  | [], [], _ => rfl
  | [], _ :: _, _ => rfl
  | _ :: _, [], _ => rfl
  | x :: t, y :: u, h => by
    have h1 : x = 105 ∨ x = 98 := h x (by simp)
    have h2 : fitR t u = fit t u := fitR_good (fun c hc => h c (by simp [hc]))
    rw [fitR, fit, h2]
    congr 1
    unfold fit1
    by_cases e : y = 32
    · subst e
      rw [if_pos rfl]
      rcases h1 with rfl | rfl <;> rfl
    · rw [if_neg e]
      have e2 : (y == 32) = false := by simpa using e
      rw [e2, Bool.false_or, Bool.eq_iff_iff, beq_iff_eq, beq_iff_eq]
      exact ⟨fun h => h.symm, fun h => h.symm⟩
theorem fitR_ne {t u : List UInt8} (h : t.length ≠ u.length) : fitR t u = false := by
  induction t generalizing u with
  | nil => cases u with
    | nil => simp at h
    | cons y u => rfl
  | cons x t ih => cases u with
    | nil => rfl
    | cons y u => rw [fitR, ih (by simpa using h)]; simp
theorem byte_drop {l : List UInt8} {k : Nat} (h : k < (bs l).size) : l.drop k = (bs l)[k] :: l.drop (k + 1) := by
  have h2 : k < l.length := by rw [← bs_size]; exact h
  rw [drop_cons h2]
  congr 1
set_option maxHeartbeats 1000000 in
set_option maxRecDepth 100000 in
theorem fitsR_any (t u : List UInt8) (ht : t.length ≤ 1000000) (w : World) : Calls Tryz.prog 148 #[.string (bs t), .string (bs u)] w fun e w' => e = .returned (.bool (fitR t u)) ∧ Below w.heap.size w w' := by
  have s1 := bs_size t
  have s2 := bs_size u
  by_cases hl : t.length = u.length
  · obtain ⟨R, hR⟩ : ∃ R, R = fitR t u := ⟨_, rfl⟩
    rw [← hR]
    have H0 : Hid (R = fitR (t.drop 0) (u.drop 0)) := by show _ = _; rw [hR]; rfl
    have HT := Lib.hid (fun k => byte_drop (l := t) (k := k))
    have HU := Lib.hid (fun k => byte_drop (l := u) (k := k))
    obtain ⟨s, hs⟩ : ∃ s, s = bs t := ⟨_, rfl⟩
    obtain ⟨r, hr⟩ : ∃ r, r = bs u := ⟨_, rfl⟩
    rw [← hs] at s1 HT ⊢
    rw [← hr] at s2 HU ⊢
    have hsz : s.size = r.size := by omega
    have e0 : ((s.size : Int) != (r.size : Int)) = false := by simp [hsz]
    clear hR hs hr
    have HS1 := Lib.hid s1
    have HS2 := Lib.hid s2
    have hm : r.size ≤ 1000000 := by omega
    have hm2 : s.size ≤ 1000000 := by omega
    clear s1 s2 hl
    have HZ := Lib.hid hsz
    clear hsz
    go_enter Tryz.func148, Tryz.ntmps148
    go_wp2
    go_loopw [5] (fun i wr => ∃ k : Nat, k ≤ r.size ∧ i = .int .i64 k ∧ Hid (R = fitR (t.drop k) (u.drop k)) ∧ Below w.heap.size w wr) (fun i _ => r.size - (intOf i).toNat)
    case atStart => exact ⟨0, by omega, rfl, H0, Below.refl _ _⟩
    case round =>
      clear H0
      obtain ⟨k, hk, rfl, HR, hbl⟩ := hrel
      by_cases hlt : k < r.size
      · have hlt1 : k < s.size := by rw [HZ.out]; exact hlt
        have HR2 := HR.out
        rw [HT.out k hlt1, HU.out k hlt, fitR] at HR2
        have g1 : (0 : Int) ≤ (k : Int) := by omega
        have g2 : (k : Int) < (s.size : Int) := by omega
        have g3 : (k : Int) < (r.size : Int) := by omega
        by_cases h32 : r[k] = 32
        · have e1 : ((r[k].toNat : Int) != 32) = false := by rw [h32]; rfl
          have e2 : (r[k].toNat : Int) = 32 := by rw [h32]; rfl
          have HR3 : Hid (R = fitR (t.drop (k + 1)) (u.drop (k + 1))) := by show _ = _; rw [HR2, h32]; rfl
          clear HR2 h32 HR
          go_wp2
          go_quiet (fail)
          go_wp2
          go_roundw
          case rel => exact ⟨k + 1, by omega, by go_num, HR3, hbl.trans ⟨rfl, rfl, rfl, Nat.le_refl _, fun _ _ => rfl⟩⟩
          case measure => simp [intOf]; omega
        · have e1 : ((r[k].toNat : Int) != 32) = true := by
            simp only [bne_iff_ne, ne_eq]
            intro e; exact h32 (UInt8.toNat_inj.1 (by have : (32 : UInt8).toNat = 32 := rfl; omega))
          have e1' : ¬ (r[k].toNat : Int) = 32 := by simpa using e1
          have e32 : (r[k] == 32) = false := by simpa using h32
          by_cases hsame : r[k] = s[k]
          · have e2 : ((r[k].toNat : Int) != (s[k].toNat : Int)) = false := by rw [hsame]; simp
            have e3 : (r[k].toNat : Int) = (s[k].toNat : Int) := by rw [hsame]
            have e1s : ((s[k].toNat : Int) != 32) = true := by rw [← e3]; exact e1
            have e1t : ¬ (s[k].toNat : Int) = 32 := by rw [← e3]; exact e1'
            have HR3 : Hid (R = fitR (t.drop (k + 1)) (u.drop (k + 1))) := by show _ = _; rw [HR2, hsame]; simp
            clear HR2 h32 HR hsame e32
            go_wp2
            go_quiet (fail)
            go_wp2
            go_roundw
            case rel => exact ⟨k + 1, by omega, by go_num, HR3, hbl.trans ⟨rfl, rfl, rfl, Nat.le_refl _, fun _ _ => rfl⟩⟩
            case measure => simp [intOf]; omega
          · have e3 : ¬ (r[k].toNat : Int) = (s[k].toNat : Int) := by intro e; exact hsame (UInt8.toNat_inj.1 (by omega))
            have e2 : ((r[k].toNat : Int) != (s[k].toNat : Int)) = true := by simpa using e3
            have HQ : Hid (R = false) := by
              show _ = _
              have : (r[k] == s[k]) = false := by simpa using hsame
              rw [HR2, e32, this]; rfl
            clear HR2 h32 HR hsame e32
            go_wp2
            go_quiet (fail)
            go_wp2
            go_ret
            exact ⟨by rw [HQ.out]; rfl, hbl.trans ⟨rfl, rfl, rfl, Nat.le_refl _, fun _ _ => rfl⟩⟩
      · have HQ : Hid (R = true) := by
          show _ = _
          rw [HR.out, List.drop_eq_nil_of_le (by rw [← HS1.out, HZ.out]; omega), List.drop_eq_nil_of_le (by rw [← HS2.out]; omega)]; rfl
        go_wp2
        go_ret
        exact ⟨by rw [HQ.out]; rfl, hbl⟩
  · rw [fitR_ne hl]
    generalize bs t = s at s1 ⊢
    generalize bs u = r at s2 ⊢
    have e0 : ((s.size : Int) != (r.size : Int)) = true := by simp; omega
    have e1 : ¬ s.size = r.size := by omega
    clear s1 s2 hl
    go_enter Tryz.func148, Tryz.ntmps148
    go_wp2
    go_ret
    exact ⟨rfl, Below.refl _ _⟩
end Go.Proofs.YthncbnalnfbpnaaGreatDoor
end

section
namespace Go.Proofs.YthncbnalnfbpnaaGreatDoor
open Go.ChangeShapes Go.WideShapes Go.RowKit Go.Maps

set_option maxHeartbeats 4000000 in
set_option maxRecDepth 100000 in
theorem givesR_any (o x y : Int) (t : List UInt8) (hg : gdB t) (ht : t.length ≤ 1000) (w : World) : Calls Tryz.prog 149 #[.agg #[.int .i64 o, .int .i64 x, .int .i64 y], .string (bs t)] w fun e w' => e = .returned (.string (bs (gvI (o, x, y) t))) ∧ Below w.heap.size w w' := by
  have G := below_alloc w (.cells #[.int .i64 o, .int .i64 x, .int .i64 y] 70)
  have B0 := new_block w (.cells #[.int .i64 o, .int .i64 x, .int .i64 y] 70)
  have c0 := (Lib.cell_of_heap B0 0).trans (rfl : _ = some (Value.int .i64 o))
  have c1 := (Lib.cell_of_heap B0 1).trans (rfl : _ = some (Value.int .i64 x))
  have c2 := (Lib.cell_of_heap B0 2).trans (rfl : _ = some (Value.int .i64 y))
  have cr := rightR_any o x y (w.alloc (.cells #[.int .i64 o, .int .i64 x, .int .i64 y] 70))
  have HS := Lib.hid ht
  have HGd := Lib.hid hg
  obtain ⟨s, hs⟩ : ∃ s, s = bs t := ⟨_, rfl⟩
  rw [← hs]
  have HSs := Lib.hid hs
  clear ht hg hs B0
  cases hr : right (o, x, y)
  · rw [hr] at cr
    have HQ : Hid (gvI (o, x, y) t = []) := by show _ = _; unfold gvI; rw [hr]; simp
    have C := Lib.hid cr
    clear cr hr
    go_enter Tryz.func149, Tryz.ntmps149
    go_wp2_with (go_at_call 110; refine C.out.mono ?_; rintro e w1 ⟨rfl, hb1⟩)
    go_ret
    exact ⟨by rw [HQ.out]; rfl, keep_below G hb1⟩
  · rw [hr] at cr
    have HTk : Hid (tkI (o, x, y) = tk o) := by show _ = _; unfold tkI; rw [hr]; rfl
    have ct := fun W => takesR_any o x y W
    rw [HTk.out] at ct
    have cf := fun W => fitsR_any t (tk o) (by have := HS.out; omega) W
    rw [fitR_good HGd.out, ← HSs.out] at cf
    obtain ⟨T, hT⟩ : ∃ T, T = bs (tk o) := ⟨_, rfl⟩
    rw [← hT] at ct cf
    have C := Lib.hid cr
    have CT := Lib.hid ct
    have HR := Lib.hid hr
    cases hf : fit t (tk o)
    · rw [hf] at cf
      have HQ : Hid (gvI (o, x, y) t = []) := by show _ = _; unfold gvI; rw [hf]; simp
      have CF := Lib.hid cf
      clear cr ct cf hr hf hT
      go_enter Tryz.func149, Tryz.ntmps149
      go_wp2_with (first | (go_at_call 110; refine C.out.mono ?_; rintro e w1 ⟨rfl, hb1⟩; have d0 := keep_cell hb1 c0; have d1 := keep_cell hb1 c1; have d2 := keep_cell hb1 c2) | (go_at_call 147; refine (CT.out _).mono ?_; rintro e w2 ⟨rfl, hb2⟩) | (go_at_call 148; refine (CF.out _).mono ?_; rintro e w3 ⟨rfl, hb3⟩))
      go_ret
      exact ⟨by rw [HQ.out]; rfl, keep_below (keep_below (keep_below G hb1) hb2) hb3⟩
    · rw [hf] at cf
      have HQ : Hid (gvI (o, x, y) t = gv o x t) := by show _ = _; unfold gvI; rw [hf, hr]; simp
      have CF := Lib.hid cf
      have HF := Lib.hid hf
      clear cr ct cf hr hf hT
      have hlen := fit_len HF.out
      by_cases hA : o = 1 ∨ o = 6 ∨ o = 10 ∨ o = 11 ∨ o = 13 ∨ o = 15 ∨ o = 17
      · have HV : gv o x t = [105] := by unfold gv; rw [if_pos hA]
        clear hlen
        rcases hA with rfl | rfl | rfl | rfl | rfl | rfl | rfl
        all_goals
          go_enter Tryz.func149, Tryz.ntmps149
          go_wp2_with (first | (go_at_call 110; refine C.out.mono ?_; rintro e w1 ⟨rfl, hb1⟩; have d0 := keep_cell hb1 c0; have d1 := keep_cell hb1 c1; have d2 := keep_cell hb1 c2) | (go_at_call 147; refine (CT.out _).mono ?_; rintro e w2 ⟨rfl, hb2⟩) | (go_at_call 148; refine (CF.out _).mono ?_; rintro e w3 ⟨rfl, hb3⟩; have f0 := keep_cell hb3 (keep_cell hb2 d0); have f1 := keep_cell hb3 (keep_cell hb2 d1)))
          go_ret
          exact ⟨by rw [HQ.out, HV]; rfl, keep_below (keep_below (keep_below G hb1) hb2) hb3⟩
      · by_cases h3 : o = 3
        · subst h3
          have HV : gv 3 x t = t ++ t := rfl
          have hap := bs_append t t
          rw [← HSs.out] at hap
          have hsz : s.size ≤ 1000 := by rw [HSs.out, bs_size]; exact HS.out
          have hcat : ¬ (9223372036854775807 < s.size + s.size) := by omega
          have HP := Lib.hid hap
          clear hlen hA hap
          go_enter Tryz.func149, Tryz.ntmps149
          go_wp2_with (first | (go_at_call 110; refine C.out.mono ?_; rintro e w1 ⟨rfl, hb1⟩; have d0 := keep_cell hb1 c0; have d1 := keep_cell hb1 c1; have d2 := keep_cell hb1 c2) | (go_at_call 147; refine (CT.out _).mono ?_; rintro e w2 ⟨rfl, hb2⟩) | (go_at_call 148; refine (CF.out _).mono ?_; rintro e w3 ⟨rfl, hb3⟩; have f0 := keep_cell hb3 (keep_cell hb2 d0); have f1 := keep_cell hb3 (keep_cell hb2 d1)))
          go_ret
          exact ⟨by rw [HQ.out, HV, ← HP.out]; rfl, keep_below (keep_below (keep_below G hb1) hb2) hb3⟩
        · by_cases h4 : o = 4
          · subst h4
            have HV : gv 4 x t = t.drop 1 ++ t.take 1 := rfl
            have e1 : s.extract 1 s.size = bs (t.drop 1) := by rw [HSs.out, bs_extract, bs_size, List.take_length]
            have e2 : s.extract 0 1 = bs (t.take 1) := by rw [HSs.out, bs_extract, List.drop_zero]
            have hap := bs_append (t.drop 1) (t.take 1)
            have hl2 : t.length = 2 := hlen
            have z1 : (bs (t.drop 1)).size ≤ 1000 := by rw [bs_size, List.length_drop]; omega
            have z2 : (bs (t.take 1)).size ≤ 1000 := by rw [bs_size, List.length_take]; omega
            have hsz : s.size = 2 := by rw [HSs.out, bs_size]; exact hl2
            obtain ⟨Z, hZ⟩ : ∃ Z, Z = bs (t.drop 1 ++ t.take 1) := ⟨_, rfl⟩
            rw [← hZ] at hap
            generalize bs (t.drop 1) = p at e1 hap z1
            generalize bs (t.take 1) = q at e2 hap z2
            have hcat : ¬ (9223372036854775807 < p.size + q.size) := by omega
            have g1 : (1 : Int) ≤ (s.size : Int) := by omega
            have HZ := Lib.hid hZ
            clear hlen hA hl2 hsz hZ h3
            go_enter Tryz.func149, Tryz.ntmps149
            go_wp2_with (first | (go_at_call 110; refine C.out.mono ?_; rintro e w1 ⟨rfl, hb1⟩; have d0 := keep_cell hb1 c0; have d1 := keep_cell hb1 c1; have d2 := keep_cell hb1 c2) | (go_at_call 147; refine (CT.out _).mono ?_; rintro e w2 ⟨rfl, hb2⟩) | (go_at_call 148; refine (CF.out _).mono ?_; rintro e w3 ⟨rfl, hb3⟩; have f0 := keep_cell hb3 (keep_cell hb2 d0); have f1 := keep_cell hb3 (keep_cell hb2 d1)))
            go_quiet (fail)
            go_wp2
            go_ret
            exact ⟨by rw [HQ.out, HV, ← HZ.out]; rfl, (keep_below (keep_below (keep_below G hb1) hb2) hb3).trans ⟨rfl, rfl, rfl, Nat.le_refl _, fun _ _ => rfl⟩⟩
          · by_cases h5 : o = 5
            · subst h5
              have hx : 1 ≤ x ∧ x ≤ 12 := by
                have := (right_parts HR.out).2.1
                unfold rA at this
                simpa using this
              clear hlen hA h3 h4
              by_cases h11 : 11 ≤ x
              · have HV : gv 5 x t = [98] := by
                  have : x = 11 ∨ x = 12 := by omega
                  show (if x = 11 ∨ x = 12 then [98] else [105]) = _
                  rw [if_pos this]
                have e11 : decide ((11 : Int) ≤ x) = true := by rw [decide_eq_true_iff]; exact h11
                go_enter Tryz.func149, Tryz.ntmps149
                go_wp2_with (first | (go_at_call 110; refine C.out.mono ?_; rintro e w1 ⟨rfl, hb1⟩; have d0 := keep_cell hb1 c0; have d1 := keep_cell hb1 c1; have d2 := keep_cell hb1 c2) | (go_at_call 147; refine (CT.out _).mono ?_; rintro e w2 ⟨rfl, hb2⟩) | (go_at_call 148; refine (CF.out _).mono ?_; rintro e w3 ⟨rfl, hb3⟩; have f0 := keep_cell hb3 (keep_cell hb2 d0); have f1 := keep_cell hb3 (keep_cell hb2 d1)))
                go_ret
                exact ⟨by rw [HQ.out, HV]; rfl, keep_below (keep_below (keep_below G hb1) hb2) hb3⟩
              · have HV : gv 5 x t = [105] := by
                  show (if x = 11 ∨ x = 12 then [98] else [105]) = _
                  rw [if_neg (by omega)]
                have e11 : decide ((11 : Int) ≤ x) = false := by rw [decide_eq_false_iff_not]; exact h11
                go_enter Tryz.func149, Tryz.ntmps149
                go_wp2_with (first | (go_at_call 110; refine C.out.mono ?_; rintro e w1 ⟨rfl, hb1⟩; have d0 := keep_cell hb1 c0; have d1 := keep_cell hb1 c1; have d2 := keep_cell hb1 c2) | (go_at_call 147; refine (CT.out _).mono ?_; rintro e w2 ⟨rfl, hb2⟩) | (go_at_call 148; refine (CF.out _).mono ?_; rintro e w3 ⟨rfl, hb3⟩; have f0 := keep_cell hb3 (keep_cell hb2 d0); have f1 := keep_cell hb3 (keep_cell hb2 d1)))
                go_ret
                exact ⟨by rw [HQ.out, HV]; rfl, keep_below (keep_below (keep_below G hb1) hb2) hb3⟩
            · by_cases hB : o = 7 ∨ o = 8 ∨ o = 9
              · have HV : gv o x t = [98] := by unfold gv; rw [if_neg hA, if_neg h3, if_neg h4, if_neg h5, if_pos hB]
                clear hlen hA h3 h4 h5
                rcases hB with rfl | rfl | rfl
                all_goals
                  go_enter Tryz.func149, Tryz.ntmps149
                  go_wp2_with (first | (go_at_call 110; refine C.out.mono ?_; rintro e w1 ⟨rfl, hb1⟩; have d0 := keep_cell hb1 c0; have d1 := keep_cell hb1 c1; have d2 := keep_cell hb1 c2) | (go_at_call 147; refine (CT.out _).mono ?_; rintro e w2 ⟨rfl, hb2⟩) | (go_at_call 148; refine (CF.out _).mono ?_; rintro e w3 ⟨rfl, hb3⟩; have f0 := keep_cell hb3 (keep_cell hb2 d0); have f1 := keep_cell hb3 (keep_cell hb2 d1)))
                  go_ret
                  exact ⟨by rw [HQ.out, HV]; rfl, keep_below (keep_below (keep_below G hb1) hb2) hb3⟩
              · have HV : gv o x t = [] := by unfold gv; rw [if_neg hA, if_neg h3, if_neg h4, if_neg h5, if_neg hB]
                have n1 : (o == 1) = false := by simp; omega
                have n3 : (o == 3) = false := by simp; omega
                have n4 : (o == 4) = false := by simp; omega
                have n5 : (o == 5) = false := by simp; omega
                have n6 : (o == 6) = false := by simp; omega
                have n7 : (o == 7) = false := by simp; omega
                have n8 : (o == 8) = false := by simp; omega
                have n9 : (o == 9) = false := by simp; omega
                have n10 : (o == 10) = false := by simp; omega
                have n11 : (o == 11) = false := by simp; omega
                have n13 : (o == 13) = false := by simp; omega
                have n15 : (o == 15) = false := by simp; omega
                have n17 : (o == 17) = false := by simp; omega
                clear hlen hA h3 h4 h5 hB
                go_enter Tryz.func149, Tryz.ntmps149
                go_wp2_with (first | (go_at_call 110; refine C.out.mono ?_; rintro e w1 ⟨rfl, hb1⟩; have d0 := keep_cell hb1 c0; have d1 := keep_cell hb1 c1; have d2 := keep_cell hb1 c2) | (go_at_call 147; refine (CT.out _).mono ?_; rintro e w2 ⟨rfl, hb2⟩) | (go_at_call 148; refine (CF.out _).mono ?_; rintro e w3 ⟨rfl, hb3⟩; have f0 := keep_cell hb3 (keep_cell hb2 d0); have f1 := keep_cell hb3 (keep_cell hb2 d1)))
                go_ret
                exact ⟨by rw [HQ.out, HV]; rfl, keep_below (keep_below (keep_below G hb1) hb2) hb3⟩
theorem nextsR_any (a : Option Addr) (n c : Nat) (L : List (Int × Int × Int)) (p : Nat) (hp : p < n) (hw0 : wE L = 0) (w : World) (hr : RowI w a n L) :
    Calls Tryz.prog 150 #[.slice a n c, .int .i64 p] w fun e w' => ∃ a n c, e = .returned (.slice a n c) ∧ Row w' a n ((nx L p).map (fun q : Nat => (q : Int))) ∧ (∀ g, a = some g → w.heap.size ≤ g.block) ∧ Below w.heap.size w w' := by
  have hln := can_len (mE_zero (wE_zero hw0).1).1
  rw [← hr.1] at hln
  have HL := Lib.hid hr.1
  obtain ⟨b1, o1, o, x, y, rfl, hB1, hx, c0, c1, c2⟩ := hr.at_ hp
  have hat := at_some hx
  have hj : o = 19 ∨ o = 20 → 0 ≤ x ∧ x ≤ 1000 := fun h => jump_small hw0 (by rw [← HL.out]; exact hp) hat h
  rw [← nxI_eq hat (fun h => (hj h).1)]
  have hw1 : IntKind.i64.wrap ((p : Int) + 1) = (p : Int) + 1 := IntWalk.i64_in _ (by omega)
  have f1 : (0 : Int) ≤ (p : Int) := by omega
  have f2 : (p : Int) < (n : Int) := by omega
  clear hr hx hat
  unfold nxI
  by_cases h25 : o = 25
  · subst h25
    rw [if_pos rfl]
    go_enter Tryz.func150, Tryz.ntmps150
    go_wp2
    go_ret
    exact ⟨none, 0, 0, rfl, Row.nil _ _, fun g h => (by cases h), Below.refl _ _⟩
  · rw [if_neg h25]
    have e25 : (o == 25) = false := by simpa using h25
    by_cases h19 : o = 19
    · subst h19
      rw [if_pos rfl]
      have hx2 := hj (Or.inl rfl)
      have hw2 : IntKind.i64.wrap ((p : Int) + 1 + x) = (p : Int) + 1 + x := IntWalk.i64_in _ (by omega)
      clear hj
      go_enter Tryz.func150, Tryz.ntmps150
      go_wp2
      go_ret
      exact ⟨_, _, _, rfl, lit_ints w #[.int .i64 ((p : Int) + 1 + x)] [(p : Int) + 1 + x] 1 rfl rfl (by simp), fun g h => (by cases h; simp), below_alloc _ _⟩
    · rw [if_neg h19]
      have e19 : (o == 19) = false := by simpa using h19
      by_cases h20 : o = 20
      · subst h20
        rw [if_pos rfl]
        have hx2 := hj (Or.inr rfl)
        have hw2 : IntKind.i64.wrap ((p : Int) + 1 + x) = (p : Int) + 1 + x := IntWalk.i64_in _ (by omega)
        clear hj
        go_enter Tryz.func150, Tryz.ntmps150
        go_wp2
        go_ret
        exact ⟨_, _, _, rfl, lit_ints w #[.int .i64 ((p : Int) + 1), .int .i64 ((p : Int) + 1 + x)] [(p : Int) + 1, (p : Int) + 1 + x] 2 rfl rfl (by simp), fun g h => (by cases h; simp), below_alloc _ _⟩
      · rw [if_neg h20]
        have e20 : (o == 20) = false := by simpa using h20
        clear hj
        go_enter Tryz.func150, Tryz.ntmps150
        go_wp2
        go_ret
        exact ⟨_, _, _, rfl, lit_ints w #[.int .i64 ((p : Int) + 1)] [(p : Int) + 1] 1 rfl rfl (by simp), fun g h => (by cases h; simp), below_alloc _ _⟩
end Go.Proofs.YthncbnalnfbpnaaGreatDoor
end
