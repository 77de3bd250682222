/- What is proved here: plain facts on a number's decimal text and its reading: what is written is read as it was, and what is read has that text. Conditions: the number fits 64 bits. -/
import Derived.Test.YtofmlodfhdjjiaaDoorNm
import Derived.Lib.AtoiAllCases
import Derived.Lib.ItoaLen
import Derived.Lib.IndexLaws
namespace Go.Proofs.YtofmlodfhdjjiaaDoor
open Go.ChangeShapes Go.WideShapes Go.RowKit

theorem pu_append : ∀ (l m : List UInt8) (acc : Nat), Lib.parseUint10 acc (l ++ m) = match Lib.parseUint10 acc l with | .ok v => Lib.parseUint10 v m | e => e
  | [], m, acc => rfl
  | c :: r, m, acc => by
    simp only [List.cons_append, Lib.parseUint10]
    split
    · split
      · rfl
      · split
        · rfl
        · exact pu_append r m _
    · rfl
theorem digit_byte {d : Nat} (h : d < 10) : (UInt8.ofNat (48 + d)).toNat = 48 + d := by
  rw [UInt8.toNat_ofNat']; omega
theorem pu_digit {acc d : Nat} (hd : d < 10) (h : acc * 10 + d < 18446744073709551616) : Lib.parseUint10 acc [UInt8.ofNat (48 + d)] = .ok (acc * 10 + d) := by
  simp only [Lib.parseUint10, digit_byte hd]
  rw [if_pos (by omega), if_neg (by omega), if_neg (by omega)]
  congr 1; omega
theorem pu_digits (u : Nat) : u < 18446744073709551616 → Lib.parseUint10 0 (Lib.decDigits u) = .ok u := by
  induction u using Nat.strongRecOn with
  | _ u ih =>
    intro h
    rw [Lib.decDigits]
    split
    · rename_i h1
      rw [pu_digit h1 (by omega)]; congr 1; omega
    · rename_i h1
      rw [pu_append, ih (u / 10) (by omega) (by omega)]
      show Lib.parseUint10 (u / 10) _ = _
      rw [pu_digit (by omega) (by omega)]; congr 1; omega
theorem digits_mem (u : Nat) : ∀ b ∈ Lib.decDigits u, 48 ≤ b.toNat ∧ b.toNat ≤ 57 := by
  induction u using Nat.strongRecOn with
  | _ u ih =>
    rw [Lib.decDigits]
    split
    · rename_i h1
      intro b hb
      rw [List.mem_singleton] at hb
      rw [hb, digit_byte h1]; omega
    · rename_i h1
      intro b hb
      rcases List.mem_append.1 hb with hb | hb
      · exact ih (u / 10) (by omega) b hb
      · rw [List.mem_singleton] at hb
        rw [hb, digit_byte (by omega)]; omega
theorem digits_ne (u : Nat) : Lib.decDigits u ≠ [] := by
  intro h
  have := Lib.decDigits_length u
  have h2 := Lib.nDigits_pos u
  rw [h] at this; simp at this; omega
theorem digits_last (u : Nat) : ∃ p b, Lib.decDigits u = p ++ [b] ∧ 48 ≤ b.toNat ∧ b.toNat ≤ 57 := by
  have h := digits_ne u
  refine ⟨(Lib.decDigits u).dropLast, (Lib.decDigits u).getLast h, (List.dropLast_concat_getLast h).symm, ?_⟩
  exact digits_mem u _ (List.getLast_mem h)
theorem mag_digits {u : Nat} (h : u < 18446744073709551616) : Lib.parseMag (Lib.decDigits u) = .ok u := by
  unfold Lib.parseMag
  rw [if_neg (digits_ne u), pu_digits u h]
theorem itoa_mem (n : Int) : ∀ b ∈ Lib.itoa n, b.toNat = 45 ∨ (48 ≤ b.toNat ∧ b.toNat ≤ 57) := by
  unfold Lib.itoa
  split
  · intro b hb
    rcases List.mem_cons.1 hb with rfl | hb
    · exact Or.inl rfl
    · exact Or.inr (digits_mem _ b hb)
  · intro b hb; exact Or.inr (digits_mem _ b hb)
theorem itoa_last (n : Int) : ∃ p b, Lib.itoa n = p ++ [b] ∧ 48 ≤ b.toNat ∧ b.toNat ≤ 57 := by
  unfold Lib.itoa
  split
  · obtain ⟨p, b, h, h2⟩ := digits_last n.natAbs
    exact ⟨45 :: p, b, by rw [h]; rfl, h2⟩
  · exact digits_last _
theorem itoa_ne (n : Int) : Lib.itoa n ≠ [] := by
  obtain ⟨p, b, h, _⟩ := itoa_last n
  rw [h]; simp
theorem atoi_itoa {n : Int} (hf : Fits n) : Lib.atoiAll (Lib.itoa n) = .ok n := by
  obtain ⟨h1, h2⟩ := hf
  unfold Lib.itoa
  split
  · rename_i hn
    rw [Lib.atoiAll_minus, mag_digits (by omega)]
    unfold Lib.signed
    simp only
    rw [if_neg (by omega)]
    congr 1; omega
  · rename_i hn
    obtain ⟨c, r, hcr⟩ : ∃ c r, Lib.decDigits n.toNat = c :: r := by
      cases h : Lib.decDigits n.toNat with
      | nil => exact absurd h (digits_ne _)
      | cons c r => exact ⟨c, r, rfl⟩
    have hc := digits_mem n.toNat c (by rw [hcr]; simp)
    have hm := mag_digits (u := n.toNat) (by omega)
    rw [hcr] at hm ⊢
    rw [Lib.atoiAll_plain c r (by omega) (by omega), hm]
    unfold Lib.signless
    simp only
    rw [if_neg (by omega)]
    congr 1; omega
/-- The number whose text a row of bytes is, and what is wrong. -/
def num (l : List UInt8) : Int × Int :=
  match Lib.atoiAll l with
  | .ok v => if Lib.itoa v = l then (v, 0) else (0, 3)
  | _ => (0, 3)
theorem num_itoa {n : Int} (hf : Fits n) : num (Lib.itoa n) = (n, 0) := by
  unfold num; rw [atoi_itoa hf]; simp
theorem num_ok {l : List UInt8} (h : (num l).2 = 0) : Lib.itoa (num l).1 = l ∧ Fits (num l).1 := by
  unfold num at h ⊢
  split at h
  · rename_i v hv
    split at h
    · rename_i he
      rw [if_pos he]
      exact ⟨he, Lib.atoiAll_bounds hv⟩
    · cases h
  · cases h
theorem num_bad {l : List UInt8} (h : (num l).2 ≠ 0) : num l = (0, 3) := by
  unfold num at h ⊢
  split at h
  · rename_i v hv
    split at h
    · exact absurd rfl h
    · rename_i he
      rw [if_neg he]
  · rfl
theorem num_cases (l : List UInt8) : (∃ n, num l = (n, 0) ∧ Lib.itoa n = l ∧ Fits n) ∨ num l = (0, 3) := by
  by_cases h : (num l).2 = 0
  · obtain ⟨h1, h2⟩ := num_ok h
    exact Or.inl ⟨(num l).1, by rw [← h], h1, h2⟩
  · exact Or.inr (num_bad h)
theorem num_nil : num [] = (0, 3) := rfl
theorem itoa_len {n : Int} (hf : Fits n) : (Lib.itoa n).length ≤ 21 := Lib.itoa_length_le n hf.1 hf.2
theorem itoa_inj {a b : Int} (ha : Fits a) (hb : Fits b) (h : Lib.itoa a = Lib.itoa b) : a = b := by
  have h1 := num_itoa ha
  rw [h, num_itoa hb] at h1
  injection h1 with h1; exact h1.symm
end Go.Proofs.YtofmlodfhdjjiaaDoor
