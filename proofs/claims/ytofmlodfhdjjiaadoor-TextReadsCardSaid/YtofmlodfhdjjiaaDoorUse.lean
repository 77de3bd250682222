/- What is proved here: plain facts on numbers' bytes that later texts take, and the contracts of code.Put and code.Get with a name for the answer. Conditions: none beyond those each theorem states. -/
import Derived.Test.YtofmlodfhdjjiaaDoorGet
import Derived.Test.YtofmlodfhdjjiaaDoorPut
import Derived.Deep.QuietTactic
import Derived.BigQuiet
namespace Go.Proofs.YtofmlodfhdjjiaaDoor
open Go.ChangeShapes Go.WideShapes Go.RowKit

/-- What is got is farther on, and in the row. -/
theorem g_ok {l : List UInt8} {p : Int} (h : gE l p = 0) : 0 ≤ p ∧ p < gT l p ∧ gT l p ≤ l.length ∧ Fits (gN l p) := by
  by_cases ho : p < 0 ∨ (l.length : Int) < p
  · have := (g_out ho).2.2; omega
  · obtain ⟨k, rfl⟩ : ∃ k : Nat, p = k := ⟨p.toNat, by omega⟩
    obtain ⟨u, m, e, hs⟩ : ∃ u m e, scan 0 0 (l.drop k) = (u, m, e) := ⟨_, _, _, rfl⟩
    obtain ⟨h1, h2, h3⟩ := g_in (by omega) hs
    have he : e = 0 := by omega
    subst he
    obtain ⟨hu, ⟨r, hr⟩, hm⟩ := scan_ok hs
    have hl := congrArg List.length hr
    simp only [List.length_drop, List.length_append] at hl
    have hp := enc_pos u
    rw [h1, h2, if_pos rfl, if_pos rfl]
    exact ⟨by omega, by omega, by omega, unturn_fits hu⟩
theorem fits_small {n : Int} (h1 : -1000 ≤ n) (h2 : n ≤ 1000) : Fits n := ⟨by omega, by omega⟩
theorem put_at {n : Int} {b : ByteArray} (hf : Fits n) (h : enc (turn n) = b.data.toList) (w : World) :
    Calls Tryd.prog 48 #[.int .i64 n] w fun e w' => e = .returned (.string b) ∧ Below w.heap.size w w' := by
  have := put_any n hf w
  rw [h, bs_of] at this; exact this
theorem enc0 : enc (turn 0) = [0] := by show enc 0 = _; rw [enc_lo (by decide)]; rfl
theorem enc1 : enc (turn (-1)) = [1] := by show enc 1 = _; rw [enc_lo (by decide)]; rfl
theorem put_as {n : Int} (hf : Fits n) : ∃ S : ByteArray, S.data.toList = enc (turn n) ∧ ∀ w, Calls Tryd.prog 48 #[.int .i64 n] w fun e w' => e = .returned (.string S) ∧ Below w.heap.size w w' :=
  ⟨bs (enc (turn n)), bs_data _, fun w => put_any n hf w⟩
theorem turn_inj {a b : Int} (h : turn a = turn b) : a = b := by rw [← unturn_turn a, h, unturn_turn]
theorem cell_lt {w : World} {p : Addr} {v : Value} (h : w.cell? p = some v) : p.block < w.heap.size := by
  rcases Nat.lt_or_ge p.block w.heap.size with h1 | h1
  · exact h1
  · unfold World.cell? at h
    rw [Array.getElem?_eq_none h1] at h
    simp at h
theorem g_plain {l : List UInt8} {k : Nat} (h : gE l k = 0) : ∃ t : Nat, gT l k = t ∧ k < t ∧ t ≤ k + 10 ∧ t ≤ l.length ∧ enc (turn (gN l k)) = (l.drop k).take (t - k) ∧ Fits (gN l k) ∧
    ∀ i (hi : i < l.length), k ≤ i → i < t → (l[i].toNat < 128 ↔ i + 1 = t) := by
  obtain ⟨hp, _, hle, hf⟩ := g_ok h
  have hk : k ≤ l.length := by
    by_cases hk : k ≤ l.length
    · exact hk
    · have := (g_out (l := l) (p := (k : Int)) (Or.inr (by omega))).2.2; omega
  obtain ⟨u, m, e, hs⟩ : ∃ u m e, scan 0 0 (l.drop k) = (u, m, e) := ⟨_, _, _, rfl⟩
  obtain ⟨h1, h2, h3⟩ := g_in hk hs
  have he : e = 0 := by omega
  subst he
  rw [if_pos rfl] at h1 h2
  obtain ⟨hu, ⟨r, hr⟩, hm⟩ := scan_ok hs
  have hten : (enc u).length ≤ 10 := enc_ten hu
  have hpos := enc_pos u
  refine ⟨k + m, by rw [h2]; omega, by omega, by omega, by omega, ?_, hf, ?_⟩
  · rw [h1, turn_unturn, hr, show k + m - k = (enc u).length by omega, List.take_left]
  · intro i hi hki hit
    obtain ⟨hs', c, he, hh, hc, _⟩ := enc_high u
    have hlen : (enc u).length = hs'.length + 1 := by rw [he]; simp
    have e1 : l[i] = (l.drop k)[i - k]'(by simp; omega) := by
      rw [List.getElem_drop]; congr 1; omega
    rw [e1]
    have e2 : (l.drop k)[i - k]'(by simp; omega) = (hs' ++ (c :: r))[i - k]'(by simp; omega) := by
      congr 1; rw [hr, he]; simp
    rw [e2, List.getElem_append]
    by_cases hlt : i - k < hs'.length
    · rw [dif_pos hlt]
      have := hh _ (List.getElem_mem hlt)
      omega
    · rw [dif_neg hlt]
      have e3 : i - k - hs'.length = 0 := by omega
      simp only [e3, List.getElem_cons_zero]
      omega
/-- Beside an error there are zeros. -/
theorem g_zero {l : List UInt8} {p : Int} (h : gE l p ≠ 0) : gN l p = 0 ∧ gT l p = 0 := by
  by_cases ho : p < 0 ∨ (l.length : Int) < p
  · exact ⟨(g_out ho).1, (g_out ho).2.1⟩
  · obtain ⟨k, rfl⟩ : ∃ k : Nat, p = k := ⟨p.toNat, by omega⟩
    obtain ⟨u, m, e, hs⟩ : ∃ u m e, scan 0 0 (l.drop k) = (u, m, e) := ⟨_, _, _, rfl⟩
    obtain ⟨h1, h2, h3⟩ := g_in (by omega) hs
    have he : e ≠ 0 := by omega
    rw [h1, h2, if_neg he, if_neg he]
    exact ⟨rfl, rfl⟩
theorem byte_list (s : ByteArray) (i : Nat) (h : i < s.size) : s.data.toList[i]'(by simpa using h) = s[i] := rfl
theorem get_enc {n : Int} (hf : Fits n) (pre rest : List UInt8) : gN (pre ++ (enc (turn n) ++ rest)) pre.length = n ∧ gT (pre ++ (enc (turn n) ++ rest)) pre.length = pre.length + sz n ∧ gE (pre ++ (enc (turn n) ++ rest)) pre.length = 0 := by
  have hs : scan 0 0 ((pre ++ (enc (turn n) ++ rest)).drop pre.length) = (turn n, (enc (turn n)).length, 0) := by
    rw [List.drop_left]
    exact scan_enc (turn_fits hf) rest
  obtain ⟨h1, h2, h3⟩ := g_in (by simp) hs
  rw [h1, h2, h3, if_pos rfl, if_pos rfl, unturn_turn]
  exact ⟨rfl, rfl, rfl⟩
theorem get_cut {n : Int} (hf : Fits n) (pre : List UInt8) {k : Nat} (hk : k < sz n) : gE (pre ++ (enc (turn n)).take k) pre.length = 2 := by
  have hs : scan 0 0 ((pre ++ (enc (turn n)).take k).drop pre.length) = (0, 0, 2) := by
    rw [List.drop_left]
    exact scan_cut (turn_fits hf) hk
  exact (g_in (by simp) hs).2.2
theorem take_of_extract (S : ByteArray) (k : Nat) : (S.extract 0 k).data.toList = S.data.toList.take k := by rw [Lib.extract_data, List.drop_zero, Nat.sub_zero]
theorem app_list (a b : ByteArray) : (a ++ b).data.toList = a.data.toList ++ b.data.toList := by simp
end Go.Proofs.YtofmlodfhdjjiaaDoor
