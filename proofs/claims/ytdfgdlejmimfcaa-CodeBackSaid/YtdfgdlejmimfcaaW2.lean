/- What is proved here: the walk of the law CodePlain. Conditions: numbers fit 64 bits. -/
import Derived.Test.YtdfgdlejmimfcaaW1
import Derived.Deep.RegionWith
import Derived.Deep.RegionHeld3
import Derived.IntWalk
namespace Go.Proofs.Ytdfgdlejmimfcaa
open Go.ChangeShapes Go.WideShapes Go.RowKit

theorem Row.cell_lt {w : World} {p : Addr} {v : Value} (h : w.cell? p = some v) : p.block < w.heap.size := by
  rcases Nat.lt_or_ge p.block w.heap.size with h1 | h1
  · exact h1
  · unfold World.cell? at h
    rw [Array.getElem?_eq_none h1] at h
    simp at h
theorem g_plain {l : List UInt8} {k : Nat} (h : gE l k = 0) : ∃ t : Nat, gT l k = t ∧ k < t ∧ t ≤ k + 10 ∧ t ≤ l.length ∧ enc (turn (gN l k)) = (l.drop k).take (t - k) ∧ Fits (gN l k) ∧
    ∀ i (hi : i < l.length), k ≤ i → i < t → (l[i].toNat < 128 ↔ i + 1 = t) := by
  obtain ⟨hp, _, hle, hf⟩ := g_ok h
  have hk : k ≤ l.length := by
    by_cases hk : k ≤ l.length
    · exact hk
    · have := (g_out (l := l) (p := (k : Int)) (Or.inr (by omega))).2.2; omega
  obtain ⟨u, m, e, hs⟩ : ∃ u m e, scan 0 0 (l.drop k) = (u, m, e) := ⟨_, _, _, rfl⟩
  obtain ⟨h1, h2, h3⟩ := g_in hk hs
  have he : e = 0 := by omega
  subst he
  rw [if_pos rfl] at h1 h2
  obtain ⟨hu, ⟨r, hr⟩, hm⟩ := scan_ok hs
  have hten : (enc u).length ≤ 10 := enc_ten hu
  have hpos := enc_pos u
  refine ⟨k + m, by rw [h2]; omega, by omega, by omega, by omega, ?_, hf, ?_⟩
  · rw [h1, turn_unturn, hr, show k + m - k = (enc u).length by omega, List.take_left]
  · intro i hi hki hit
    obtain ⟨hs', c, he, hh, hc, _⟩ := enc_high u
    have hlen : (enc u).length = hs'.length + 1 := by rw [he]; simp
    have e1 : l[i] = (l.drop k)[i - k]'(by simp; omega) := by
      rw [List.getElem_drop]; congr 1; omega
    rw [e1]
    have e2 : (l.drop k)[i - k]'(by simp; omega) = (hs' ++ (c :: r))[i - k]'(by simp; omega) := by
      congr 1; rw [hr, he]; simp
    rw [e2, List.getElem_append]
    by_cases hlt : i - k < hs'.length
    · rw [dif_pos hlt]
      have := hh _ (List.getElem_mem hlt)
      omega
    · rw [dif_neg hlt]
      have e3 : i - k - hs'.length = 0 := by omega
      simp only [e3, List.getElem_cons_zero]
      omega
/-- Beside an error there are zeros. -/
theorem g_zero {l : List UInt8} {p : Int} (h : gE l p ≠ 0) : gN l p = 0 ∧ gT l p = 0 := by
  by_cases ho : p < 0 ∨ (l.length : Int) < p
  · exact ⟨(g_out ho).1, (g_out ho).2.1⟩
  · obtain ⟨k, rfl⟩ : ∃ k : Nat, p = k := ⟨p.toNat, by omega⟩
    obtain ⟨u, m, e, hs⟩ : ∃ u m e, scan 0 0 (l.drop k) = (u, m, e) := ⟨_, _, _, rfl⟩
    obtain ⟨h1, h2, h3⟩ := g_in (by omega) hs
    have he : e ≠ 0 := by omega
    rw [h1, h2, if_neg he, if_neg he]
    exact ⟨rfl, rfl⟩
theorem byte_list (s : ByteArray) (i : Nat) (h : i < s.size) : s.data.toList[i]'(by simpa using h) = s[i] := rfl

set_option maxHeartbeats 600000 in
set_option maxRecDepth 100000 in
theorem plain_walk (s : ByteArray) (p : Int) (hp : Fits p) (hs : s.size ≤ maxLen) (w : World) : Calls Try.prog 9 #[.string s, .int .i64 p] w fun e w' => e = .returned (.bool true) ∧ Below w.heap.size w w' := by
  replace hs : s.size ≤ 9223372036854775807 := hs
  have G := Below.refl w.heap.size w
  by_cases hl : (300 : Int) < s.size
  · go_enter Try.func9, Try.ntmps9
    go_wp2_with (go_at_call 10; refine (known_any _).mono ?_; rintro e w' ⟨rfl, hg⟩; replace G := G.trans (hg.mono G.size); clear hg)
    go_ret
    exact ⟨rfl, G⟩
  have hl' : s.size ≤ 300 := by omega
  clear hl
  have cG := get_any s p (by unfold maxLen; omega)
  by_cases he : gE s.data.toList p = 0
  · obtain ⟨k, rfl⟩ : ∃ k : Nat, p = k := ⟨p.toNat, by have := (g_ok he).1; omega⟩
    obtain ⟨t, ht, h1, h2, h3, h4, hf, h6⟩ := g_plain he
    obtain ⟨S, hS, cS⟩ := put_as hf
    have hsz : s.data.toList.length = s.size := by simp
    rw [hsz] at h3
    have hne : (S.toList == (s.extract k t).toList) = true := by
      have : S.toList = (s.extract k t).toList := by rw [Lib.toList_data, Lib.toList_data, Lib.extract_data, hS, h4]
      simp [this]
    have HB : Hid (∀ i (hi : i < s.size), k ≤ i → i < t → (s[i].toNat < 128 ↔ i + 1 = t)) := fun i hi a b => by
      have := h6 i (by omega) a b
      rwa [byte_list s i hi] at this
    rw [ht, he] at cG
    obtain ⟨N, hN⟩ : ∃ N, N = gN s.data.toList k := ⟨_, rfl⟩
    rw [← hN] at cG cS
    have CG := Lib.hid cG
    have CS := Lib.hid cS
    clear cG cS hN h4 h6 hS hsz ht he hf hp
    go_enter Try.func9, Try.ntmps9
    go_wp2_with (go_at_call 16; refine (CG.out _).mono ?_; rintro e w' ⟨rfl, rfl⟩)
    have b1 : decide ((k : Int) < 0) = false := by simp
    have b2 : decide ((t : Int) ≤ (k : Int)) = false := by simp; omega
    have b2' : decide (t ≤ k) = false := by simp; omega
    have b3 : decide ((s.size : Int) < (t : Int)) = false := by simp; omega
    have b3' : decide (s.size < t) = false := by simp; omega
    have b4 : decide ((k : Int) + 10 < (t : Int)) = false := by simp; omega
    have c1 : (0 : Int) ≤ (k : Int) := by omega
    have c2 : (k : Int) ≤ (t : Int) := by omega
    have c3 : (t : Int) ≤ (s.size : Int) := by omega
    have c2' : k ≤ t := by omega
    have b5 : IntKind.i64.wrap ((k : Int) + 10) = (k : Int) + 10 := IntWalk.i64_in _ (by omega)
    go_region_held3 (fun _ => True) (trivial) (first | (go_at_call 11; refine (CS.out _).mono ?_; rintro e w1 ⟨rfl, hg⟩))
    replace G := G.drew.trans (hg.mono (Nat.le_refl _))
    clear hg b1 b2 b2' b3 b3' b4 b5 c1 c2 c3 c2' hne
    go_wp2
    go_loop [8] (fun i => ∃ j : Nat, k ≤ j ∧ j ≤ t ∧ i = .int .i64 j) (fun i => t - (intOf i).toNat)
    case atStart => exact ⟨k, by omega, by omega, rfl⟩
    case round =>
      obtain ⟨j, hj1, hj2, rfl⟩ := hrel
      by_cases hlt : j < t
      · have hjs : j < s.size := by omega
        have hB := HB.out j hjs hj1 hlt
        have hq : (decide ((s[j].toNat : Int) < 128) == ((j : Int) == (t : Int) - 1)) = true := by
          by_cases hl : j + 1 = t
          · have hc : (s[j].toNat : Int) < 128 := by have := hB.2 hl; omega
            have hd : (j : Int) = (t : Int) - 1 := by omega
            simp [hc, hd]
          · have hc : ¬ (s[j].toNat : Int) < 128 := fun h => hl (hB.1 (by omega))
            have hd : ¬ (j : Int) = (t : Int) - 1 := by omega
            rw [decide_eq_false hc, beq_eq_false_iff_ne.2 hd]; rfl
        clear hB
        go_wp2
        go_round
        case rel => exact ⟨j + 1, by omega, by omega, by go_num⟩
        case measure => simp [intOf]; omega
      · go_wp2_with (go_at_call 10; refine (known_any _).mono ?_; rintro e w' ⟨rfl, hg⟩; replace G := G.trans (hg.mono G.size); clear hg)
        go_ret
        exact ⟨rfl, G⟩
  · have hE1 : (gE s.data.toList p != 0) = true := by simpa using he
    have h0 : gN s.data.toList p = 0 ∧ gT s.data.toList p = 0 := g_zero he
    rw [h0.1, h0.2] at cG
    obtain ⟨E, hE⟩ : ∃ E, E = gE s.data.toList p := ⟨_, rfl⟩
    rw [← hE] at cG hE1
    have CG := Lib.hid cG
    clear cG hE he h0
    go_enter Try.func9, Try.ntmps9
    go_wp2_with (first
      | (go_at_call 16; refine (CG.out _).mono ?_; rintro e w' ⟨rfl, rfl⟩)
      | (go_at_call 10; refine (known_any _).mono ?_; rintro e w' ⟨rfl, hg⟩; replace G := G.trans (hg.mono G.size); clear hg))
    go_ret
    exact ⟨rfl, G⟩
end Go.Proofs.Ytdfgdlejmimfcaa
