/- What is proved here: plain facts on the number that stands at the beginning of a row of bytes: which one it is, or what is wrong, and that what is put is got. Conditions: none beyond those each theorem states. -/
import Derived.Test.YtofmlodfhdjjiaaDoorBytes
import Derived.Lib.BitFns
namespace Go.Proofs.YtofmlodfhdjjiaaDoor

/-- The number ahead in a row, from place i on with u so far: it, how many bytes it has, what is wrong. -/
def scan (i u : Nat) : List UInt8 → Nat × Nat × Nat
  | [] => (0, 0, 2)
  | b :: l =>
    if (0 < i ∧ b.toNat = 0) ∨ (i = 9 ∧ 1 < b.toNat) then (0, 0, 3)
    else if b.toNat < 128 then (u + b.toNat * 128 ^ i, i + 1, 0)
    else scan (i + 1) (u + (b.toNat - 128) * 128 ^ i) l
theorem scan_nil (i u : Nat) : scan i u [] = (0, 0, 2) := rfl
theorem scan_bad {i u : Nat} {b : UInt8} {l : List UInt8} (h : (0 < i ∧ b.toNat = 0) ∨ (i = 9 ∧ 1 < b.toNat)) : scan i u (b :: l) = (0, 0, 3) := by
  rw [scan, if_pos h]
theorem scan_last {i u : Nat} {b : UInt8} {l : List UInt8} (h : ¬ ((0 < i ∧ b.toNat = 0) ∨ (i = 9 ∧ 1 < b.toNat))) (h2 : b.toNat < 128) : scan i u (b :: l) = (u + b.toNat * 128 ^ i, i + 1, 0) := by
  rw [scan, if_neg h, if_pos h2]
theorem scan_more {i u : Nat} {b : UInt8} {l : List UInt8} (h : i ≠ 9) (h2 : 128 ≤ b.toNat) : scan i u (b :: l) = scan (i + 1) (u + (b.toNat - 128) * 128 ^ i) l := by
  rw [scan, if_neg (by omega), if_neg (by omega)]

/-- All have the high bit. -/
def high (l : List UInt8) : Prop := ∀ b ∈ l, 128 ≤ b.toNat
theorem high_nil : high [] := fun _ h => by cases h
theorem num7_append (a b : List UInt8) : num7 (a ++ b) = num7 a + 128 ^ a.length * num7 b := by
  induction a with
  | nil => simp [num7]
  | cons c a ih =>
    simp only [List.cons_append, num7, ih, List.length_cons, Nat.pow_succ]
    have : 128 ^ a.length * 128 * num7 b = 128 * (128 ^ a.length * num7 b) := by ac_rfl
    rw [this]; omega
theorem num7_lt (a : List UInt8) : num7 a < 128 ^ a.length := by
  induction a with
  | nil => simp [num7]
  | cons c a ih => simp only [num7, List.length_cons, Nat.pow_succ]; omega
theorem scan_high (hs : List UInt8) (hh : high hs) (i u : Nat) (rest : List UInt8) (h : i + hs.length ≤ 9) :
    scan i u (hs ++ rest) = scan (i + hs.length) (u + 128 ^ i * num7 hs) rest := by
  induction hs generalizing i u with
  | nil => simp [num7]
  | cons b hs ih =>
    have hb : 128 ≤ b.toNat := hh b (by simp)
    have hl := b.toNat_lt
    simp only [List.length_cons] at h
    rw [List.cons_append, scan_more (by omega) hb, ih (fun c hc => hh c (by simp [hc])) _ _ (by omega)]
    have e1 : i + 1 + hs.length = i + (b :: hs).length := by simp; omega
    have e2 : u + (b.toNat - 128) * 128 ^ i + 128 ^ (i + 1) * num7 hs = u + 128 ^ i * num7 (b :: hs) := by
      have : b.toNat % 128 = b.toNat - 128 := by omega
      simp only [num7, this, Nat.pow_succ, Nat.mul_add]
      have e : 128 ^ i * 128 * num7 hs = 128 ^ i * (128 * num7 hs) := by ac_rfl
      rw [e, Nat.mul_comm (b.toNat - 128)]; omega
    rw [e1, e2]

/-- A row that is as short as can be is its number's own. -/
theorem enc_of (hs : List UInt8) (hh : high hs) (c : UInt8) (hc : c.toNat < 128) (h0 : hs = [] ∨ c.toNat ≠ 0) : enc (num7 (hs ++ [c])) = hs ++ [c] := by
  induction hs with
  | nil =>
    have : c.toNat % 128 = c.toNat := by omega
    simp only [List.nil_append, num7, this, Nat.mul_zero, Nat.add_zero]
    rw [enc_lo hc]; simp
  | cons b hs ih =>
    have hb : 128 ≤ b.toNat := hh b (by simp)
    have hl := b.toNat_lt
    have hc0 : c.toNat ≠ 0 := by rcases h0 with h | h; · cases h
                                 · exact h
    have hp : 0 < num7 (hs ++ [c]) := by
      rw [num7_append]
      have : 0 < 128 ^ hs.length := Nat.pow_pos (by decide)
      have h2 : num7 [c] = c.toNat := by simp [num7]; omega
      rw [h2]
      have := Nat.mul_pos this (show 0 < c.toNat by omega)
      omega
    simp only [List.cons_append, num7]
    rw [enc_hi (by omega)]
    have e1 : (b.toNat % 128 + 128 * num7 (hs ++ [c])) % 128 + 128 = b.toNat := by omega
    have e2 : (b.toNat % 128 + 128 * num7 (hs ++ [c])) / 128 = num7 (hs ++ [c]) := by omega
    rw [e1, e2, ih (fun d hd => hh d (by simp [hd])) (Or.inr hc0)]
    simp

theorem enc_high (u : Nat) : ∃ hs c, enc u = hs ++ [c] ∧ high hs ∧ c.toNat < 128 ∧ (hs = [] ∨ c.toNat ≠ 0) := by
  induction u using Nat.strongRecOn with
  | ind u ih =>
    by_cases h : u < 128
    · exact ⟨[], UInt8.ofNat u, by rw [enc_lo h]; rfl, high_nil, by simp; omega, Or.inl rfl⟩
    · obtain ⟨hs, c, he, hh, hc, h0⟩ := ih (u / 128) (by omega)
      refine ⟨UInt8.ofNat (u % 128 + 128) :: hs, c, by rw [enc_hi (by omega), he]; rfl, ?_, hc, Or.inr ?_⟩
      · intro b hb
        rcases List.mem_cons.1 hb with rfl | hb
        · simp; omega
        · exact hh b hb
      · rcases h0 with rfl | h0
        · have := num7_enc (u / 128)
          rw [he] at this
          simp [num7] at this
          omega
        · exact h0
/-- The limit of 64 bits, kept behind a name. -/
def two64 : Nat := 18446744073709551616
theorem two64_eq : two64 = 18446744073709551616 := rfl
theorem p9 : (128 : Nat) ^ 9 = 9223372036854775808 := by decide

/-- What scan tells of a row whose high bytes are followed by a last one. -/
theorem scan_of (hs : List UInt8) (hh : high hs) (c : UInt8) (hc : c.toNat < 128) (rest : List UInt8) (hl : hs.length ≤ 9) :
    scan 0 0 (hs ++ c :: rest) = if enc (num7 (hs ++ [c]) % two64) = hs ++ [c] then (num7 (hs ++ [c]), hs.length + 1, 0) else (0, 0, 3) := by
  rw [scan_high hs hh 0 0 _ (by omega)]
  simp only [Nat.zero_add, Nat.pow_zero, Nat.one_mul]
  have hn : num7 (hs ++ [c]) = num7 hs + 128 ^ hs.length * c.toNat := by
    rw [num7_append]; congr 2; simp [num7]; omega
  have hlt := num7_lt hs
  by_cases hb : (0 < hs.length ∧ c.toNat = 0) ∨ (hs.length = 9 ∧ 1 < c.toNat)
  · rw [scan_bad hb, if_neg]
    intro he
    have h1 : num7 (hs ++ [c]) % two64 = num7 (hs ++ [c]) := by
      have := num7_enc (num7 (hs ++ [c]) % two64)
      rw [he] at this
      exact this.symm
    rw [h1] at he
    rcases hb with ⟨hb1, hb2⟩ | ⟨hb1, hb2⟩
    · have h2 : num7 (hs ++ [c]) < 128 ^ hs.length := by rw [hn, hb2]; omega
      have h3 := enc_len hb1 h2
      rw [he] at h3
      simp at h3
      omega
    · rw [hb1, p9] at hn
      have : num7 (hs ++ [c]) % two64 < two64 := Nat.mod_lt _ (by decide)
      rw [h1] at this
      rw [two64_eq] at this
      omega
  · rw [scan_last hb hc]
    have hsm : num7 (hs ++ [c]) < two64 := by
      rw [two64_eq]
      by_cases h9 : hs.length = 9
      · rw [h9, p9] at hn; rw [h9, p9] at hlt; omega
      · have h1 := num7_lt (hs ++ [c])
        have h2 : (128 : Nat) ^ (hs ++ [c]).length ≤ 128 ^ 9 := Nat.pow_le_pow_right (by decide) (by simp; omega)
        rw [p9] at h2; omega
    have h0 : hs = [] ∨ c.toNat ≠ 0 := by
      cases hs with
      | nil => exact Or.inl rfl
      | cons a t => right; intro h; exact hb (Or.inl ⟨by simp, h⟩)
    rw [if_pos (by rw [Nat.mod_eq_of_lt hsm]; exact enc_of hs hh c hc h0), hn, Nat.mul_comm]
theorem scan_short (hs : List UInt8) (hh : high hs) (hl : hs.length ≤ 9) : scan 0 0 hs = (0, 0, 2) := by
  have := scan_high hs hh 0 0 [] (by omega)
  rw [List.append_nil] at this
  rw [this]; rfl
theorem scan_ten (hs : List UInt8) (hh : high hs) (rest : List UInt8) (hl : hs.length = 10) : scan 0 0 (hs ++ rest) = (0, 0, 3) := by
  have e : hs = hs.take 9 ++ [hs[9]] := by
    rw [← List.take_succ_eq_append_getElem (by omega), List.take_of_length_le (by omega)]
  have h9 : 128 ≤ (hs[9]).toNat := hh _ (List.getElem_mem _)
  have hl2 : (hs.take 9).length = 9 := by simp; omega
  rw [e, List.append_assoc, scan_high (hs.take 9) (fun b hb => hh b (List.mem_of_mem_take hb)) 0 0 _ (by omega)]
  rw [hl2, List.singleton_append, scan_bad (Or.inr ⟨rfl, by omega⟩)]

/-- What is put is got, whatever stands behind it. -/
theorem scan_enc {u : Nat} (h : u < two64) (rest : List UInt8) : scan 0 0 (enc u ++ rest) = (u, (enc u).length, 0) := by
  obtain ⟨hs, c, he, hh, hc, h0⟩ := enc_high u
  have hl : (enc u).length ≤ 10 := enc_ten h
  have hn : num7 (hs ++ [c]) = u := by rw [← he, num7_enc]
  have hl2 : hs.length + 1 = (enc u).length := by rw [he]; simp
  have := scan_of hs hh c hc rest (by omega)
  rw [hn, Nat.mod_eq_of_lt h, if_pos he] at this
  rw [he, List.append_assoc, List.singleton_append, this]
  simp
/-- Cut off it is short. -/
theorem scan_cut {u : Nat} (h : u < two64) {k : Nat} (hk : k < (enc u).length) : scan 0 0 ((enc u).take k) = (0, 0, 2) := by
  obtain ⟨hs, c, he, hh, hc, h0⟩ := enc_high u
  have hl : (enc u).length ≤ 10 := enc_ten h
  rw [he] at hk hl ⊢
  simp at hk hl
  rw [List.take_append_of_le_length (by omega)]
  exact scan_short _ (fun b hb => hh b (List.mem_of_mem_take hb)) (by simp; omega)
/-- Each row: high bytes and a last one, or high bytes alone, or ten high ones. -/
theorem row_forms (l : List UInt8) : (∃ hs, high hs ∧ hs.length ≤ 9 ∧ l = hs) ∨ (∃ hs c rest, high hs ∧ hs.length ≤ 9 ∧ c.toNat < 128 ∧ l = hs ++ c :: rest) ∨ (∃ hs rest, high hs ∧ hs.length = 10 ∧ l = hs ++ rest) := by
  suffices h : ∀ (k : Nat) (l : List UInt8), (∃ hs, high hs ∧ hs.length < k ∧ l = hs) ∨ (∃ hs c rest, high hs ∧ hs.length < k ∧ c.toNat < 128 ∧ l = hs ++ c :: rest) ∨ (∃ hs rest, high hs ∧ hs.length = k ∧ l = hs ++ rest) by
    rcases h 10 l with ⟨hs, a, b, c⟩ | ⟨hs, c, r, a, b, d, e⟩ | h
    · exact Or.inl ⟨hs, a, by omega, c⟩
    · exact Or.inr (Or.inl ⟨hs, c, r, a, by omega, d, e⟩)
    · exact Or.inr (Or.inr h)
  intro k
  induction k with
  | zero => intro l; exact Or.inr (Or.inr ⟨[], l, high_nil, rfl, rfl⟩)
  | succ k ih =>
    intro l
    cases l with
    | nil => exact Or.inl ⟨[], high_nil, by simp, rfl⟩
    | cons b l =>
      by_cases hb : b.toNat < 128
      · exact Or.inr (Or.inl ⟨[], b, l, high_nil, by simp, hb, rfl⟩)
      · have hcons : ∀ hs, high hs → high (b :: hs) := fun hs hh c hc => by
          rcases List.mem_cons.1 hc with rfl | hc
          · omega
          · exact hh c hc
        rcases ih l with ⟨hs, a1, a2, a3⟩ | ⟨hs, c, r, a1, a2, a3, a4⟩ | ⟨hs, r, a1, a2, a3⟩
        · exact Or.inl ⟨b :: hs, hcons hs a1, by simp; omega, by rw [a3]⟩
        · exact Or.inr (Or.inl ⟨b :: hs, c, r, hcons hs a1, by simp; omega, a3, by rw [a4]; rfl⟩)
        · exact Or.inr (Or.inr ⟨b :: hs, r, hcons hs a1, by simp; omega, by rw [a3]; rfl⟩)
/-- What is got has the bytes that stand there. -/
theorem scan_ok {l : List UInt8} {u k : Nat} (h : scan 0 0 l = (u, k, 0)) : u < two64 ∧ (∃ rest, l = enc u ++ rest) ∧ k = (enc u).length := by
  rcases row_forms l with ⟨hs, a, b, rfl⟩ | ⟨hs, c, r, a, b, d, rfl⟩ | ⟨hs, r, a, b, rfl⟩
  · rw [scan_short l a b] at h; simp at h
  · rw [scan_of hs a c d r b] at h
    by_cases he : enc (num7 (hs ++ [c]) % two64) = hs ++ [c]
    · rw [if_pos he] at h
      have h1 : num7 (hs ++ [c]) % two64 = num7 (hs ++ [c]) := by
        have := num7_enc (num7 (hs ++ [c]) % two64)
        rw [he] at this
        exact this.symm
      have hu : num7 (hs ++ [c]) = u := congrArg Prod.fst h
      have hk : hs.length + 1 = k := congrArg (fun x => x.2.1) h
      rw [h1, hu] at he
      refine ⟨by rw [← hu, ← h1]; exact Nat.mod_lt _ (by decide), ⟨r, by rw [he]; simp⟩, by rw [he, ← hk]; simp⟩
    · rw [if_neg he] at h; simp at h
  · rw [scan_ten hs a r b] at h; simp at h
/-- What is wrong is told by 2 or 3, beside zeros. -/
theorem scan_err (l : List UInt8) : (scan 0 0 l).2.2 = 0 ∨ scan 0 0 l = (0, 0, 2) ∨ scan 0 0 l = (0, 0, 3) := by
  rcases row_forms l with ⟨hs, a, b, rfl⟩ | ⟨hs, c, r, a, b, d, rfl⟩ | ⟨hs, r, a, b, rfl⟩
  · exact Or.inr (Or.inl (scan_short l a b))
  · rw [scan_of hs a c d r b]
    split
    · exact Or.inl rfl
    · exact Or.inr (Or.inr rfl)
  · exact Or.inr (Or.inr (scan_ten hs a r b))

/-- How many bytes a number has, by its bits. -/
theorem enc_size (u : Nat) (h : u < 18446744073709551616) : (enc u).length = (max (Lib.bitLen u) 1 + 6) / 7 := by
  induction u using Nat.strongRecOn with
  | ind u ih =>
    by_cases h1 : u < 128
    · rw [enc_lo h1]
      have h2 : Lib.bitLen u ≤ 7 := Lib.bitLen_le u 7 (by decide) h1
      simp only [List.length_singleton]
      omega
    · rw [enc_hi (by omega), List.length_cons, ih (u / 128) (by omega) (by omega)]
      have h2 := Lib.bitLen_shift 7 u (by show 128 ≤ u; omega) h
      simp only [show (2 : Nat) ^ 7 = 128 from rfl] at h2
      have h3 : 1 ≤ Lib.bitLen (u / 128) := by rw [Lib.bitLen_half (u / 128) (by omega) (Nat.lt_of_le_of_lt (Nat.div_le_self _ _) h)]; omega
      omega
end Go.Proofs.YtofmlodfhdjjiaaDoor
