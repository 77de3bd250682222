/- What is proved here: the contracts of types.Deep and of camshaftref07's Same. Condition: the table of names holds what its initialiser lays ('Nms'). -/
import Derived.Test.YtkkoekfdncoifaaDoorSt
import Derived.Test.YtkkoekfdncoifaaDoorTy3
namespace Go.Proofs.YtkkoekfdncoifaaDoor
open Go.ChangeShapes Go.WideShapes Go.RowKit Go.Maps

theorem dp_succ (P : List (List UInt8)) (k : Nat) : dp P (k + 1) = max (dp P k) (P.getD k []).length := rfl
theorem RowS.at_ {w : World} {a : Option Addr} {n k : Nat} {P : List (List UInt8)} (h : RowS w a n P) (hk : k < n) : ∃ b off, a = some ⟨b, off, none⟩ ∧ b < w.heap.size ∧ w.cell? ⟨b, off + k, none⟩ = some (.string (bs (P.getD k []))) := by
  obtain ⟨b, off, e, hlt, hc⟩ := h.2 (by omega)
  exact ⟨b, off, e, hlt, hc k hk⟩
theorem dp_le {P : List (List UInt8)} {m : Nat} (h : ∀ s ∈ P, s.length ≤ m) : ∀ k, dp P k ≤ m
  | 0 => Nat.zero_le _
  | k + 1 => by
    rw [dp_succ]
    have h1 := dp_le h k
    have h2 : (P.getD k []).length ≤ m := by
      rw [List.getD_eq_getElem?_getD]
      cases e : P[k]? with
      | none => simp
      | some s => exact h s (List.mem_of_getElem? e)
    omega
theorem tL_le {L : List (Int × Int × Int)} (h : tE L = 0) : ∀ s ∈ tL L, s.length ≤ 16 := by
  intro s hs
  unfold tL at hs
  rw [List.mem_map] at hs
  obtain ⟨p, hp, rfl⟩ := hs
  rw [List.mem_range] at hp
  unfold tE at h
  split at h
  · exact sp_len (fe_zero h hp).1 p
  · rename_i h1; exact absurd h h1
set_option maxHeartbeats 1000000 in
set_option maxRecDepth 100000 in
theorem deep_any (a : Option Addr) (n c : Nat) (L : List (Int × Int × Int)) (w : World) (hr : RowI w a n L) (hN : Nms w) :
    Calls Tryd.prog 11 #[.slice a n c] w fun e w' => e = .returned (.tuple #[.int .i64 (dA L), .int .i64 (tE L)]) ∧ Below w.heap.size w w' := by
  have cs := stacks_any a n c L w hr hN
  unfold GotT at cs
  by_cases h0 : tE L = 0
  · have hP : tA L = tL L := by unfold tA; rw [if_pos h0]
    have hle := dp_le (tL_le h0)
    rw [h0, hP] at cs
    have HQ : Hid ((dA L : Nat) = dp (tL L) L.length) := by show _ = _; unfold dA; rw [if_pos h0]
    have hl := tL_len L
    rw [← hl] at HQ
    have hln := can_len (mE_zero (wE_zero (tE_zero h0).1).1).1
    rw [← hl] at hln
    generalize tL L = P at cs HQ hle hln
    rw [h0]
    obtain ⟨d, hd⟩ : ∃ d, d = dA L := ⟨_, rfl⟩
    rw [← hd] at HQ ⊢
    have C := Lib.hid cs
    have HLe := Lib.hid hle
    clear cs h0 hP hr hN hl hd hle
    go_enter Tryd.func11, Tryd.ntmps11
    go_wp2_with (go_at_call 9; refine C.out.mono ?_; rintro e w1 ⟨a1, n1, c1, rfl, hr1, hb1⟩)
    have HN1 := Lib.hid hr1.1
    have hn1 : n1 ≤ 200 := by rw [hr1.1]; exact hln.2
    clear hln
    go_loopw [6, 19] (fun v i wr => ∃ k : Nat, k ≤ n1 ∧ i = .int .i64 k ∧ v = .int .i64 (dp P k : Nat) ∧ Below w1.heap.size w1 wr) (fun _ i _ => n1 - (intOf i).toNat)
    case atStart => exact ⟨0, by omega, rfl, rfl, Below.refl _ _⟩
    case round =>
      obtain ⟨k, hk, rfl, rfl, hbl⟩ := hrel
      by_cases hlt : k < n1
      · obtain ⟨b, off, rfl, hB, hc⟩ := (hr1.below hbl).at_ hlt
        have hs := bs_size (P.getD k [])
        have hmx : max (dp P k : Int) ((bs (P.getD k [])).size : Int) = (dp P (k + 1) : Nat) := by rw [dp_succ, hs]; omega
        have h1 := HLe.out k
        have h2 := HLe.out (k + 1)
        have hs2 : (bs (P.getD k [])).size ≤ 16 := by rw [hs]; have := dp_succ P k; omega
        generalize bs (P.getD k []) = S at hc hmx hs2
        obtain ⟨D2, hD2⟩ : ∃ D2, D2 = dp P (k + 1) := ⟨_, rfl⟩
        rw [← hD2] at hmx h2
        have HD2 := Lib.hid hD2
        clear hD2 hs
        go_wp2
        go_roundw
        case rel => exact ⟨k + 1, by omega, by go_num, by rw [← HD2.out], hbl⟩
        case measure => simp [intOf]; omega
      · obtain rfl : k = n1 := by omega
        have HQ2 : Hid (d = dp P k) := by show _ = _; rw [HQ.out, HN1.out]
        go_wp2
        go_ret2
        exact ⟨by rw [HQ2.out]; rfl, keep_below hb1 hbl⟩
  · have HQ : Hid (dA L = 0) := by show _ = _; unfold dA; rw [if_neg h0]
    obtain ⟨x, hx⟩ : ∃ x, x = tE L := ⟨_, rfl⟩
    rw [HQ.out]
    rw [← hx] at cs h0 ⊢
    have e1 : (x != 0) = true := by simpa using h0
    have e2 : (x == 0) = false := by simpa using h0
    have C := Lib.hid cs
    clear cs hr hN hx
    go_enter Tryd.func11, Tryd.ntmps11
    go_wp2_with (go_at_call 9; refine C.out.mono ?_; rintro e w1 ⟨a1, n1, c1, rfl, hr1, hb1⟩)
    go_ret2
    exact ⟨rfl, hb1⟩
set_option maxHeartbeats 1000000 in
set_option maxRecDepth 100000 in
theorem same_any (a b : Option Addr) (n m c d : Nat) (P : List (List UInt8)) (w : World) (ha : RowS w a n P) (hb : RowS w b m P) (hn : n ≤ 1000000) :
    Calls Tryd.prog 13 #[.slice a n c, .slice b m d] w fun e w' => e = .returned (.bool true) ∧ Below w.heap.size w w' := by
  obtain rfl : n = m := by rw [ha.1, hb.1]
  have e0 : ((n : Int) != (n : Int)) = false := by simp
  go_enter Tryd.func13, Tryd.ntmps13
  go_wp2
  go_loopw [5] (fun i wr => ∃ k : Nat, k ≤ n ∧ i = .int .i64 k ∧ Below w.heap.size w wr) (fun i _ => n - (intOf i).toNat)
  case atStart => exact ⟨0, by omega, rfl, Below.refl _ _⟩
  case round =>
    obtain ⟨k, hk, rfl, hbl⟩ := hrel
    by_cases hlt : k < n
    · obtain ⟨b1, o1, rfl, hB1, hc1⟩ := (ha.below hbl).at_ hlt
      obtain ⟨b2, o2, rfl, hB2, hc2⟩ := (hb.below hbl).at_ hlt
      generalize bs (P.getD k []) = S at hc1 hc2
      have e1 : (S.toList == S.toList) = true := by simp
      have f1 : (0 : Int) ≤ (k : Int) := by omega
      have f2 : (k : Int) < (n : Int) := by omega
      go_wp2
      go_quiet (fail)
      go_wp2
      go_roundw
      case rel => exact ⟨k + 1, by omega, by go_num, hbl.trans ⟨rfl, rfl, rfl, Nat.le_refl _, fun _ _ => rfl⟩⟩
      case measure => simp [intOf]; omega
    · go_wp2
      go_ret
      exact ⟨rfl, hbl⟩
end Go.Proofs.YtkkoekfdncoifaaDoor
