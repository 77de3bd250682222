/- What is proved here: plain facts on numbers as rows of bytes, seven bits in each, the lowest first: what is put is got, whatever stands behind; rows are short, and all bytes but the last have the high bit. Conditions: none beyond those each theorem states. plain facts on the number that stands at the beginning of a row of bytes: which one it is, or what is wrong, and that what is put is got. contracts of the program's and the document's turned numbers, of bits.Len64 and of code.Size. Conditions: numbers fit 64 bits. the contract of bits.Len64, off the shelf. Condition: the number fits 64 bits. contracts of code.Size and code.first. Conditions: numbers fit 64 bits, strings are no longer than Go's. the contract of code.Get. Conditions: the string is no longer than Go's. contracts of code.putBehind and code.Put. Conditions: numbers fit 64 bits; what is written -/
import Derived.Test.YtngehojibcmieaaGreatDoorQGb
import Derived.Test.YtngehojibcmieaaGreatDoorQShelf
set_option maxRecDepth 100000
set_option maxHeartbeats 8000000
section
namespace Go.Proofs.YtngehojibcmieaaGreatDoor.Kb
def turn (n : Int) : Nat := if 0 ≤ n then (2 * n).toNat else (-2 * n - 1).toNat
def unturn (u : Nat) : Int := if u % 2 = 0 then (u / 2 : Nat) else -((u / 2 : Nat) : Int) - 1
theorem turn_unturn (u : Nat) : turn (unturn u) = u := by
 unfold unturn turn
 split <;> split <;> omega
theorem turn_lt {n : Int} (h1 : -9223372036854775808 ≤ n) (h2 : n ≤ 9223372036854775807) : turn n < 18446744073709551616 := by
 unfold turn; split <;> omega
theorem unturn_fits {u : Nat} (h : u < 18446744073709551616) : -9223372036854775808 ≤ unturn u ∧ unturn u ≤ 9223372036854775807 := by
 unfold unturn; split <;> omega
def enc (u : Nat) : List UInt8 :=
 if u < 128 then [UInt8.ofNat u] else UInt8.ofNat (u % 128 + 128) :: enc (u / 128)
termination_by u
decreasing_by omega
theorem enc_lo {u : Nat} (h : u < 128) : enc u = [UInt8.ofNat u] := by rw [enc, if_pos h]
theorem enc_hi {u : Nat} (h : 128 ≤ u) : enc u = UInt8.ofNat (u % 128 + 128) :: enc (u / 128) := by rw [enc, if_neg (by omega)]
def num7 : List UInt8 → Nat
 | [] => 0
 | c :: l => c.toNat % 128 + 128 * num7 l
theorem num7_enc (u : Nat) : num7 (enc u) = u := by
 induction u using Nat.strongRecOn with
 | ind u ih =>
  by_cases h : u < 128
  ·rw [enc_lo h]; simp [num7]; omega
  ·rw [enc_hi (by omega)]
   simp only [num7, ih (u / 128) (by omega)]
   simp; omega
theorem enc_pos (u : Nat) : 1 ≤ (enc u).length := by
 by_cases h : u < 128
 ·rw [enc_lo h]; simp
 ·rw [enc_hi (by omega)]; simp
theorem enc_len {k : Nat} {u : Nat} (hk : 1 ≤ k) (h : u < 128 ^ k) : (enc u).length ≤ k := by
 induction k generalizing u with
 | zero => omega
 | succ k ih =>
  by_cases h1 : u < 128
  ·rw [enc_lo h1]; simp
  ·rw [enc_hi (by omega)]
   have hk0 : k ≠ 0 := by intro e; subst e; simp at h; omega
   have h2 : u / 128 < 128 ^ k := by
    rw [Nat.div_lt_iff_lt_mul (by decide)]; rw [Nat.pow_succ] at h; exact h
   have := ih (by omega) h2
   simp; omega
theorem enc_ten {u : Nat} (h : u < 18446744073709551616) : (enc u).length ≤ 10 :=
 enc_len (by decide) (Nat.lt_trans h (by decide))
def run : List UInt8 → Nat
 | [] => 0
 | c :: l => if 128 ≤ c.toNat then run l + 1 else 0
end Go.Proofs.YtngehojibcmieaaGreatDoor.Kb
end
section
namespace Go.Proofs.YtngehojibcmieaaGreatDoor.Kb
def scan (i u : Nat) : List UInt8 → Nat × Nat × Nat
 | [] => (0, 0, 2)
 | b :: l =>
  if (0 < i ∧ b.toNat = 0) ∨ (i = 9 ∧ 1 < b.toNat) then (0, 0, 3)
  else if b.toNat < 128 then (u + b.toNat * 128 ^ i, i + 1, 0)
  else scan (i + 1) (u + (b.toNat - 128) * 128 ^ i) l
theorem scan_bad {i u : Nat} {b : UInt8} {l : List UInt8} (h : (0 < i ∧ b.toNat = 0) ∨ (i = 9 ∧ 1 < b.toNat)) : scan i u (b :: l) = (0, 0, 3) := by
 rw [scan, if_pos h]
theorem scan_last {i u : Nat} {b : UInt8} {l : List UInt8} (h : ¬ ((0 < i ∧ b.toNat = 0) ∨ (i = 9 ∧ 1 < b.toNat))) (h2 : b.toNat < 128) : scan i u (b :: l) = (u + b.toNat * 128 ^ i, i + 1, 0) := by
 rw [scan, if_neg h, if_pos h2]
theorem scan_more {i u : Nat} {b : UInt8} {l : List UInt8} (h : i ≠ 9) (h2 : 128 ≤ b.toNat) : scan i u (b :: l) = scan (i + 1) (u + (b.toNat - 128) * 128 ^ i) l := by
 rw [scan, if_neg (by omega), if_neg (by omega)]
def high (l : List UInt8) : Prop := ∀ b ∈ l, 128 ≤ b.toNat
theorem high_nil : high [] := fun _ h => by cases h
theorem num7_append (a b : List UInt8) : num7 (a ++ b) = num7 a + 128 ^ a.length * num7 b := by
 induction a with
 | nil => simp [num7]
 | cons c a ih =>
  simp only [List.cons_append, num7, ih, List.length_cons, Nat.pow_succ]
  have : 128 ^ a.length * 128 * num7 b = 128 * (128 ^ a.length * num7 b) := by ac_rfl
  rw [this]; omega
theorem num7_lt (a : List UInt8) : num7 a < 128 ^ a.length := by
 induction a with
 | nil => simp [num7]
 | cons c a ih => simp only [num7, List.length_cons, Nat.pow_succ]; omega
theorem scan_high (hs : List UInt8) (hh : high hs) (i u : Nat) (rest : List UInt8) (h : i + hs.length ≤ 9) :
  scan i u (hs ++ rest) = scan (i + hs.length) (u + 128 ^ i * num7 hs) rest := by
 induction hs generalizing i u with
 | nil => simp [num7]
 | cons b hs ih =>
  have hb : 128 ≤ b.toNat := hh b (by simp)
  have hl := b.toNat_lt
  simp only [List.length_cons] at h
  rw [List.cons_append, scan_more (by omega) hb, ih (fun c hc => hh c (by simp [hc])) _ _ (by omega)]
  have e1 : i + 1 + hs.length = i + (b :: hs).length := by simp; omega
  have e2 : u + (b.toNat - 128) * 128 ^ i + 128 ^ (i + 1) * num7 hs = u + 128 ^ i * num7 (b :: hs) := by
   have : b.toNat % 128 = b.toNat - 128 := by omega
   simp only [num7, this, Nat.pow_succ, Nat.mul_add]
   have e : 128 ^ i * 128 * num7 hs = 128 ^ i * (128 * num7 hs) := by ac_rfl
   rw [e, Nat.mul_comm (b.toNat - 128)]; omega
  rw [e1, e2]
theorem enc_of (hs : List UInt8) (hh : high hs) (c : UInt8) (hc : c.toNat < 128) (h0 : hs = [] ∨ c.toNat ≠ 0) : enc (num7 (hs ++ [c])) = hs ++ [c] := by
 induction hs with
 | nil =>
  have : c.toNat % 128 = c.toNat := by omega
  simp only [List.nil_append, num7, this, Nat.mul_zero, Nat.add_zero]
  rw [enc_lo hc]; simp
 | cons b hs ih =>
  have hb : 128 ≤ b.toNat := hh b (by simp)
  have hl := b.toNat_lt
  have hc0 : c.toNat ≠ 0 := by rcases h0 with h | h; · cases h
                               · exact h
  have hp : 0 < num7 (hs ++ [c]) := by
   rw [num7_append]
   have : 0 < 128 ^ hs.length := Nat.pow_pos (by decide)
   have h2 : num7 [c] = c.toNat := by simp [num7]; omega
   rw [h2]
   have := Nat.mul_pos this (show 0 < c.toNat by omega)
   omega
  simp only [List.cons_append, num7]
  rw [enc_hi (by omega)]
  have e1 : (b.toNat % 128 + 128 * num7 (hs ++ [c])) % 128 + 128 = b.toNat := by omega
  have e2 : (b.toNat % 128 + 128 * num7 (hs ++ [c])) / 128 = num7 (hs ++ [c]) := by omega
  rw [e1, e2, ih (fun d hd => hh d (by simp [hd])) (Or.inr hc0)]
  simp
theorem enc_high (u : Nat) : ∃ hs c, enc u = hs ++ [c] ∧ high hs ∧ c.toNat < 128 ∧ (hs = [] ∨ c.toNat ≠ 0) := by
 induction u using Nat.strongRecOn with
 | ind u ih =>
  by_cases h : u < 128
  ·exact ⟨[], UInt8.ofNat u, by rw [enc_lo h]; rfl, high_nil, by simp; omega, Or.inl rfl⟩
  ·obtain ⟨hs, c, he, hh, hc, h0⟩ := ih (u / 128) (by omega)
   refine ⟨UInt8.ofNat (u % 128 + 128) :: hs, c, by rw [enc_hi (by omega), he]; rfl, ?_, hc, Or.inr ?_⟩
   ·intro b hb
    rcases List.mem_cons.1 hb with rfl | hb
    ·simp; omega
    ·exact hh b hb
   ·rcases h0 with rfl | h0
    ·have := num7_enc (u / 128)
     rw [he] at this
     simp [num7] at this
     omega
    ·exact h0
def two64 : Nat := 18446744073709551616
theorem two64_eq : two64 = 18446744073709551616 := rfl
theorem p9 : (128 : Nat) ^ 9 = 9223372036854775808 := by decide
theorem scan_of (hs : List UInt8) (hh : high hs) (c : UInt8) (hc : c.toNat < 128) (rest : List UInt8) (hl : hs.length ≤ 9) :
  scan 0 0 (hs ++ c :: rest) = if enc (num7 (hs ++ [c]) % two64) = hs ++ [c] then (num7 (hs ++ [c]), hs.length + 1, 0) else (0, 0, 3) := by
 rw [scan_high hs hh 0 0 _ (by omega)]
 simp only [Nat.zero_add, Nat.pow_zero, Nat.one_mul]
 have hn : num7 (hs ++ [c]) = num7 hs + 128 ^ hs.length * c.toNat := by
  rw [num7_append]; congr 2; simp [num7]; omega
 have hlt := num7_lt hs
 by_cases hb : (0 < hs.length ∧ c.toNat = 0) ∨ (hs.length = 9 ∧ 1 < c.toNat)
 ·rw [scan_bad hb, if_neg]
  intro he
  have h1 : num7 (hs ++ [c]) % two64 = num7 (hs ++ [c]) := by
   have := num7_enc (num7 (hs ++ [c]) % two64)
   rw [he] at this
   exact this.symm
  rw [h1] at he
  rcases hb with ⟨hb1, hb2⟩ | ⟨hb1, hb2⟩
  ·have h2 : num7 (hs ++ [c]) < 128 ^ hs.length := by rw [hn, hb2]; omega
   have h3 := enc_len hb1 h2
   rw [he] at h3
   simp at h3
   omega
  ·rw [hb1, p9] at hn
   have : num7 (hs ++ [c]) % two64 < two64 := Nat.mod_lt _ (by decide)
   rw [h1] at this
   rw [two64_eq] at this
   omega
 ·rw [scan_last hb hc]
  have hsm : num7 (hs ++ [c]) < two64 := by
   rw [two64_eq]
   by_cases h9 : hs.length = 9
   ·rw [h9, p9] at hn; rw [h9, p9] at hlt; omega
   ·have h1 := num7_lt (hs ++ [c])
    have h2 : (128 : Nat) ^ (hs ++ [c]).length ≤ 128 ^ 9 := Nat.pow_le_pow_right (by decide) (by simp; omega)
    rw [p9] at h2; omega
  have h0 : hs = [] ∨ c.toNat ≠ 0 := by
   cases hs with
   | nil => exact Or.inl rfl
   | cons a t => right; intro h; exact hb (Or.inl ⟨by simp, h⟩)
  rw [if_pos (by rw [Nat.mod_eq_of_lt hsm]; exact enc_of hs hh c hc h0), hn, Nat.mul_comm]
theorem scan_short (hs : List UInt8) (hh : high hs) (hl : hs.length ≤ 9) : scan 0 0 hs = (0, 0, 2) := by
 have := scan_high hs hh 0 0 [] (by omega)
 rw [List.append_nil] at this
 rw [this]; rfl
theorem scan_ten (hs : List UInt8) (hh : high hs) (rest : List UInt8) (hl : hs.length = 10) : scan 0 0 (hs ++ rest) = (0, 0, 3) := by
 have e : hs = hs.take 9 ++ [hs[9]] := by
  rw [← List.take_succ_eq_append_getElem (by omega), List.take_of_length_le (by omega)]
 have h9 : 128 ≤ (hs[9]).toNat := hh _ (List.getElem_mem _)
 have hl2 : (hs.take 9).length = 9 := by simp; omega
 rw [e, List.append_assoc, scan_high (hs.take 9) (fun b hb => hh b (List.mem_of_mem_take hb)) 0 0 _ (by omega)]
 rw [hl2, List.singleton_append, scan_bad (Or.inr ⟨rfl, by omega⟩)]
theorem row_forms (l : List UInt8) : (∃ hs, high hs ∧ hs.length ≤ 9 ∧ l = hs) ∨ (∃ hs c rest, high hs ∧ hs.length ≤ 9 ∧ c.toNat < 128 ∧ l = hs ++ c :: rest) ∨ (∃ hs rest, high hs ∧ hs.length = 10 ∧ l = hs ++ rest) := by
 suffices h : ∀ (k : Nat) (l : List UInt8), (∃ hs, high hs ∧ hs.length < k ∧ l = hs) ∨ (∃ hs c rest, high hs ∧ hs.length < k ∧ c.toNat < 128 ∧ l = hs ++ c :: rest) ∨ (∃ hs rest, high hs ∧ hs.length = k ∧ l = hs ++ rest) by
  rcases h 10 l with ⟨hs, a, b, c⟩ | ⟨hs, c, r, a, b, d, e⟩ | h
  ·exact Or.inl ⟨hs, a, by omega, c⟩
  ·exact Or.inr (Or.inl ⟨hs, c, r, a, by omega, d, e⟩)
  ·exact Or.inr (Or.inr h)
 intro k
 induction k with
 | zero => intro l; exact Or.inr (Or.inr ⟨[], l, high_nil, rfl, rfl⟩)
 | succ k ih =>
  intro l
  cases l with
  | nil => exact Or.inl ⟨[], high_nil, by simp, rfl⟩
  | cons b l =>
   by_cases hb : b.toNat < 128
   ·exact Or.inr (Or.inl ⟨[], b, l, high_nil, by simp, hb, rfl⟩)
   ·have hcons : ∀ hs, high hs → high (b :: hs) := fun hs hh c hc => by
     rcases List.mem_cons.1 hc with rfl | hc
     ·omega
     ·exact hh c hc
    rcases ih l with ⟨hs, a1, a2, a3⟩ | ⟨hs, c, r, a1, a2, a3, a4⟩ | ⟨hs, r, a1, a2, a3⟩
    ·exact Or.inl ⟨b :: hs, hcons hs a1, by simp; omega, by rw [a3]⟩
    ·exact Or.inr (Or.inl ⟨b :: hs, c, r, hcons hs a1, by simp; omega, a3, by rw [a4]; rfl⟩)
    ·exact Or.inr (Or.inr ⟨b :: hs, r, hcons hs a1, by simp; omega, by rw [a3]; rfl⟩)
theorem scan_ok {l : List UInt8} {u k : Nat} (h : scan 0 0 l = (u, k, 0)) : u < two64 ∧ (∃ rest, l = enc u ++ rest) ∧ k = (enc u).length := by
 rcases row_forms l with ⟨hs, a, b, rfl⟩ | ⟨hs, c, r, a, b, d, rfl⟩ | ⟨hs, r, a, b, rfl⟩
 ·rw [scan_short l a b] at h; simp at h
 ·rw [scan_of hs a c d r b] at h
  by_cases he : enc (num7 (hs ++ [c]) % two64) = hs ++ [c]
  ·rw [if_pos he] at h
   have h1 : num7 (hs ++ [c]) % two64 = num7 (hs ++ [c]) := by
    have := num7_enc (num7 (hs ++ [c]) % two64)
    rw [he] at this
    exact this.symm
   have hu : num7 (hs ++ [c]) = u := congrArg Prod.fst h
   have hk : hs.length + 1 = k := congrArg (fun x => x.2.1) h
   rw [h1, hu] at he
   refine ⟨by rw [← hu, ← h1]; exact Nat.mod_lt _ (by decide), ⟨r, by rw [he]; simp⟩, by rw [he, ← hk]; simp⟩
  ·rw [if_neg he] at h; simp at h
 ·rw [scan_ten hs a r b] at h; simp at h
theorem enc_size (u : Nat) (h : u < 18446744073709551616) : (enc u).length = (max (Lib.bitLen u) 1 + 6) / 7 := by
 induction u using Nat.strongRecOn with
 | ind u ih =>
  by_cases h1 : u < 128
  ·rw [enc_lo h1]
   have h2 : Lib.bitLen u ≤ 7 := Lib.bitLen_le u 7 (by decide) h1
   simp only [List.length_singleton]
   omega
  ·rw [enc_hi (by omega), List.length_cons, ih (u / 128) (by omega) (by omega)]
   have h2 := Lib.bitLen_shift 7 u (by show 128 ≤ u; omega) h
   simp only [show (2 : Nat) ^ 7 = 128 from rfl] at h2
   have h3 : 1 ≤ Lib.bitLen (u / 128) := by rw [Lib.bitLen_half (u / 128) (by omega) (Nat.lt_of_le_of_lt (Nat.div_le_self _ _) h)]; omega
   omega
end Go.Proofs.YtngehojibcmieaaGreatDoor.Kb
end
section
namespace Go.Proofs.YtngehojibcmieaaGreatDoor.Kb
open Go.ChangeShapes Go.WideShapes Go.RowKit
theorem wrap_bvc (n : Int) : IntKind.i64.wrap n = (BitVec.ofInt 64 n).toInt := by
 rw [IntKind.wrap_i64, BitVec.toInt_ofInt]
 unfold Int.bmod
 simp only [show (2 ^ 64 : Nat) = 18446744073709551616 from rfl]
 split <;> omega
theorem not_i64 (n : Int) (h1 : -9223372036854775808 ≤ n) (h2 : n ≤ 9223372036854775807) : bits .xor .i64 (-1) n = -1 - n := by
 unfold bits
 show IntKind.i64.wrap ((BitVec.ofInt 64 (-1) ^^^ BitVec.ofInt 64 n).toNat : Int) = _
 rw [wrap_bvc, BitVec.ofInt_natCast, BitVec.ofNat_toNat, BitVec.setWidth_eq]
 have e : BitVec.ofInt 64 (-1) = BitVec.allOnes 64 := by decide +kernel
 rw [e, BitVec.allOnes_xor, BitVec.toInt_not]
 have h : (BitVec.ofInt 64 n).toInt = n := by rw [← wrap_bvc, IntKind.wrap_i64]; omega
 have h' : ((BitVec.ofInt 64 n).toNat : Int) = n % 18446744073709551616 := by
  rw [BitVec.toNat_ofInt]; simp only [show (2 ^ 64 : Nat) = 18446744073709551616 from rfl]; omega
 rw [h']
 unfold Int.bmod
 simp only [show (2 ^ 64 : Nat) = 18446744073709551616 from rfl]
 split <;> omega
theorem ret_int {k : IntKind} {a b : Int} (h : a = b) : Ending.returned (.int k a) = .returned (.int k b) := by rw [h]
theorem turn_pos {n : Int} (h : 0 ≤ n) : (turn n : Int) = 2 * n := by unfold turn; rw [if_pos h]; omega
theorem turn_neg {n : Int} (h : n < 0) : (turn n : Int) = 2 * (-1 - n) + 1 := by unfold turn; rw [if_neg (by omega)]; omega
def Fits (n : Int) : Prop := -9223372036854775808 ≤ n ∧ n ≤ 9223372036854775807
theorem turned_any (n : Int) (hf : Fits n) (w : World) :
  Calls Tryz.prog 147 #[.int .i64 n] w fun e w' => e = .returned (.int .u64 (turn n)) ∧ w = w' := by
 obtain ⟨h1, h2⟩ := hf
 by_cases hn : n < 0
 ·have hb := not_i64 n h1 h2
  go_enter Tryz.func147, Tryz.ntmps147
  go_wp2
  go_ret
  exact ⟨ret_int (by rw [turn_neg hn]; simp only [IntKind.wrap_u64]; omega), rfl⟩
 ·go_enter Tryz.func147, Tryz.ntmps147
  go_wp2
  go_ret
  exact ⟨ret_int (by rw [turn_pos (by omega)]), rfl⟩
theorem unturn_even {u : Nat} (h : u % 2 = 0) : unturn u = (u : Int) / 2 := by unfold unturn; rw [if_pos h]; omega
theorem unturn_odd {u : Nat} (h : u % 2 = 1) : unturn u = -1 - (u : Int) / 2 := by unfold unturn; rw [if_neg (by omega)]; omega
theorem back_any (u : Nat) (hu : u < two64) (w : World) :
  Calls Tryz.prog 171 #[.int .u64 u] w fun e w' => e = .returned (.int .i64 (unturn u)) ∧ w = w' := by
 rw [two64_eq] at hu
 by_cases ho : u % 2 = 1
 ·have hb := not_i64 ((u : Int) / 2) (by omega) (by omega)
  have h2 : (u : Int) % 2 = 1 := by omega
  go_enter Tryz.func171, Tryz.ntmps171
  go_wp2
  go_ret
  exact ⟨ret_int (by rw [unturn_odd ho]), rfl⟩
 ·have h2 : (u : Int) % 2 = 0 := by omega
  go_enter Tryz.func171, Tryz.ntmps171
  go_wp2
  go_ret
  exact ⟨ret_int (by rw [unturn_even (by omega)]), rfl⟩
end Go.Proofs.YtngehojibcmieaaGreatDoor.Kb
end
section
namespace Go.Proofs.YtngehojibcmieaaGreatDoor.Kb
theorem len64_any (u : Nat) (hu : u ≤ 18446744073709551615) (w : World) :
  Calls Tryz.prog 188 #[.int .u64 u] w fun e w' => e = .returned (.int .i64 (Lib.bitLen u : Nat)) ∧ w = w' :=
 (Tryz.bits_Len64 u w (by omega) (by omega)).mono fun e w' ⟨h1, h2⟩ => ⟨by rw [h1]; simp, h2.symm⟩
end Go.Proofs.YtngehojibcmieaaGreatDoor.Kb
end
section
namespace Go.Proofs.YtngehojibcmieaaGreatDoor.Kb
open Go.ChangeShapes Go.WideShapes Go.RowKit
def sz (n : Int) : Nat := (enc (turn n)).length
theorem turn_fits {n : Int} (h : Fits n) : turn n < 18446744073709551616 := turn_lt h.1 h.2
theorem sz_bits {n : Int} (h : Fits n) : (sz n : Int) = (max (Lib.bitLen (turn n) : Int) 1 + 6) / 7 := by
 unfold sz; rw [enc_size _ (turn_fits h)]; omega
theorem size_any (n : Int) (hf : Fits n) (w : World) :
  Calls Tryz.prog 148 #[.int .i64 n] w fun e w' => e = .returned (.int .i64 (sz n)) ∧ w = w' := by
 have hs := Lib.hid (sz_bits hf)
 have hb : Lib.bitLen (turn n) ≤ 64 := Lib.bitLen_le _ 64 (by decide) (turn_fits hf)
 have hu : turn n ≤ 18446744073709551615 := by have := turn_fits hf; omega
 obtain ⟨L, hL⟩ : ∃ L, L = Lib.bitLen (turn n) := ⟨_, rfl⟩
 have HL := Lib.hid hL
 rw [← hL] at hb
 clear hL
 go_enter Tryz.func148, Tryz.ntmps148
 go_wp2_with (first
  | (go_at_call 147; refine (turned_any _ hf _).mono ?_; rintro e w' ⟨rfl, rfl⟩)
  | (go_at_call 188; refine (len64_any _ hu _).mono ?_; rintro e w' ⟨rfl, rfl⟩; rw [← HL.out]))
 go_ret
 refine ⟨ret_int ?_, rfl⟩
 rw [hs.out, ← HL.out]
 omega
theorem pow9 {k : Nat} (h : k ≤ 9) : (128 : Nat) ^ k ≤ 9223372036854775808 := by
 have := Nat.pow_le_pow_right (show 0 < 128 by decide) h
 rw [p9] at this; exact this
theorem or_step (U c k : Nat) (hU : U < 128 ^ k) (hk : k ≤ 9) (hc : c * 128 ^ k < 18446744073709551616) :
  bits .or .u64 (U : Int) (IntKind.u64.wrap ((c : Int) * 2 ^ (7 * k))) = ((U + c * 128 ^ k : Nat) : Int) := by
 have e : (2 : Nat) ^ (7 * k) = 128 ^ k := by rw [Nat.pow_mul]
 have e2 : ((c : Int) * 2 ^ (7 * k)) = ((c * 128 ^ k : Nat) : Int) := by
  rw [← e]; simp
 have hU2 := pow9 hk
 rw [e2, IntKind.wrap_u64]
 have e3 : ((c * 128 ^ k : Nat) : Int) % 18446744073709551616 = ((c * 128 ^ k : Nat) : Int) := by omega
 rw [e3, u64_or_nat U (c * 128 ^ k) (by omega) hc, Nat.or_comm, nat_join (7 * k) (c * 128 ^ k) U (by rw [e]; exact Nat.mul_mod_left _ _) (by rw [e]; exact hU), Nat.add_comm]
theorem drop_byte (s : ByteArray) (k : Nat) (h : k < s.size) : s.data.toList.drop k = s[k] :: s.data.toList.drop (k + 1) := by
 rw [List.drop_eq_getElem_cons (by simpa using h)]; rfl
theorem step_more {s : ByteArray} {k U : Nat} (h : k < s.size) (h9 : k < 9) (hm : 128 ≤ s[k].toNat) (HS : Hid (scan 0 0 s.data.toList = scan k U (s.data.toList.drop k))) :
  Hid (scan 0 0 s.data.toList = scan (k + 1) (U + (s[k].toNat - 128) * 128 ^ k) (s.data.toList.drop (k + 1))) := by
 show _ = _
 rw [HS.out, drop_byte s k h, scan_more (by omega) hm]
theorem step_bad {s : ByteArray} {k U : Nat} (h : k < s.size) (hb : (0 < k ∧ s[k].toNat = 0) ∨ (k = 9 ∧ 1 < s[k].toNat)) (HS : Hid (scan 0 0 s.data.toList = scan k U (s.data.toList.drop k))) :
  scan 0 0 s.data.toList = (0, 0, 3) := by
 rw [HS.out, drop_byte s k h, scan_bad hb]
theorem step_last {s : ByteArray} {k U : Nat} (h : k < s.size) (hb : ¬ ((0 < k ∧ s[k].toNat = 0) ∨ (k = 9 ∧ 1 < s[k].toNat))) (hm : s[k].toNat < 128) (HS : Hid (scan 0 0 s.data.toList = scan k U (s.data.toList.drop k))) :
  scan 0 0 s.data.toList = (U + s[k].toNat * 128 ^ k, k + 1, 0) := by
 rw [HS.out, drop_byte s k h, scan_last hb hm]
theorem step_end {s : ByteArray} {k U : Nat} (h : ¬ k < s.size) (HS : Hid (scan 0 0 s.data.toList = scan k U (s.data.toList.drop k))) :
  scan 0 0 s.data.toList = (0, 0, 2) := by
 rw [HS.out, List.drop_eq_nil_of_le (by simpa using h)]; rfl
theorem room_lt {c k : Nat} (hc : c ≤ 127) (hk : k < 9) : c * 128 ^ k < 18446744073709551616 := by
 have h1 : (128 : Nat) ^ (k + 1) ≤ 9223372036854775808 := pow9 (by omega)
 have h2 : c * 128 ^ k ≤ 127 * 128 ^ k := Nat.mul_le_mul_right _ hc
 rw [Nat.pow_succ] at h1
 omega
theorem room_nine {c k : Nat} (hc : c ≤ 1) (hk : k ≤ 9) : c * 128 ^ k < 18446744073709551616 := by
 have h1 := pow9 hk
 have h2 : c * 128 ^ k ≤ 1 * 128 ^ k := Nat.mul_le_mul_right _ hc
 omega
theorem next_lt {U c k : Nat} (hU : U < 128 ^ k) (hc : c ≤ 127) : U + c * 128 ^ k < 128 ^ (k + 1) := by
 have h2 : c * 128 ^ k ≤ 127 * 128 ^ k := Nat.mul_le_mul_right _ hc
 rw [Nat.pow_succ]; omega
theorem ret3 {k1 k2 k3 : IntKind} {a b c a' b' c' : Int} (h1 : a = a') (h2 : b = b') (h3 : c = c') :
  Ending.returned (.tuple #[.int k1 a, .int k2 b, .int k3 c]) = .returned (.tuple #[.int k1 a', .int k2 b', .int k3 c']) := by subst h1 h2 h3; rfl
theorem or_nine (U c k : Nat) (hk : k = 9) (hU : U < 128 ^ k) (hc : c ≤ 1) : bits .or .u64 (U : Int) ((c : Int) * 9223372036854775808) = ((U + c * 128 ^ k : Nat) : Int) := by
 have h := or_step U c k hU (by omega) (room_nine hc (by omega))
 have e : IntKind.u64.wrap ((c : Int) * 2 ^ (7 * k)) = (c : Int) * 9223372036854775808 := by
  subst hk
  rw [IntKind.wrap_u64, show (2 : Int) ^ (7 * 9) = 9223372036854775808 from rfl]
  omega
 rw [e] at h; exact h
theorem or_zero (c : Nat) (hc : c < 256) : bits .or .u64 0 (c : Int) = (c : Int) := by
 have := u64_or_nat 0 c (by decide) (by omega)
 rw [Nat.zero_or] at this; exact this
theorem first_any (s : ByteArray) (hs : s.size ≤ maxLen) (w : World) :
  Calls Tryz.prog 170 #[.string s] w fun e w' => e = .returned (.tuple #[.int .u64 (scan 0 0 s.data.toList).1, .int .i64 (scan 0 0 s.data.toList).2.1, .int .i64 (scan 0 0 s.data.toList).2.2]) ∧ w = w' := by
 replace hs : s.size ≤ 9223372036854775807 := hs
 go_enter Tryz.func170, Tryz.ntmps170
 go_wp2
 go_step3
 go_wp2
 go_step3
 go_wp2
 go_loop [5, 6, 12] (fun u e i => ∃ k U : Nat, e = .int .i64 2 ∧ k ≤ s.size ∧ k ≤ 9 ∧ i = .int .i64 k ∧ u = .int .u64 U ∧ Hid (U < 128 ^ k) ∧ Hid (scan 0 0 s.data.toList = scan k U (s.data.toList.drop k))) (fun _ _ i => s.size - (intOf i).toNat)
 case atStart => exact ⟨0, 0, rfl, by omega, by omega, rfl, rfl, (by decide : (0 : Nat) < 128 ^ 0), rfl⟩
 case round =>
  obtain ⟨k, U, rfl, hk, hk9, rfl, rfl, HU, HS⟩ := hrel
  by_cases hlt : k < s.size
  ·have hc : s[k].toNat ≤ 255 := by have := s[k].toNat_lt; omega
   by_cases hm : 128 ≤ s[k].toNat
   ·by_cases h9 : k = 9
    ·have H := Lib.hid (step_bad hlt (Or.inr ⟨h9, by omega⟩) HS)
     have h9' : 9 ≤ k := by omega
     clear h9
     go_wp2
     go_ret3
     rw [H.out]
     exact ⟨rfl, rfl⟩
    ·have h9' : k < 9 := by omega
     have H := step_more hlt h9' hm HS
     have HO := Lib.hid (or_step U (s[k].toNat - 128) k HU.out hk9 (room_lt (by omega) h9'))
     have HN : Hid (U + (s[k].toNat - 128) * 128 ^ k < 128 ^ (k + 1)) := next_lt HU.out (by omega)
     have hsub : ((s[k].toNat - 128 : Nat) : Int) = (s[k].toNat : Int) - 128 := by omega
     rw [hsub] at HO
     clear h9 hsub
     by_cases h0 : 0 < k
     all_goals
      go_wp2
      go_round
      case rel => exact ⟨k + 1, _, rfl, by omega, by omega, by go_num, by rw [HO.out], HN, H⟩
      case measure => simp [intOf]; omega
   ·have hm' : s[k].toNat < 128 := by omega
    clear hm
    by_cases hA : 0 < k ∧ s[k].toNat = 0
    ·have H := Lib.hid (step_bad hlt (Or.inl hA) HS)
     have hA1 : 0 < k := hA.1
     have hA2 : s[k].toNat ≤ 0 := by omega
     clear hA
     go_wp2
     go_ret3
     rw [H.out]
     exact ⟨rfl, rfl⟩
    ·by_cases hE : k = 9 ∧ 1 < s[k].toNat
     ·have H := Lib.hid (step_bad hlt (Or.inr hE) HS)
      have hE1 : 9 ≤ k := by omega
      have hE2 : 1 < s[k].toNat := hE.2
      clear hE hA
      go_wp2
      go_ret3
      rw [H.out]
      exact ⟨rfl, rfl⟩
     ·have H := Lib.hid (step_last hlt (by omega) hm' HS)
      have HO := Lib.hid (or_step U s[k].toNat k HU.out hk9 (by
       by_cases h : k = 9
       ·exact room_nine (by omega) hk9
       ·exact room_lt (by omega) (by omega)))
      rcases (show (k = 0 ∧ U = 0) ∨ (0 < k ∧ k < 9 ∧ 0 < s[k].toNat) ∨ (9 ≤ k ∧ 0 < s[k].toNat ∧ s[k].toNat ≤ 1) by
       have := HU.out
       rcases Nat.eq_zero_or_pos k with h | h
       ·subst h; simp at this; exact Or.inl ⟨rfl, this⟩
       ·omega) with ⟨h1, h2⟩ | ⟨h1, h2, h3⟩ | ⟨h1, h2, h3⟩
      ·subst h1 h2
       clear hA hE
       go_wp2
       go_ret3
       rw [H.out]
       refine ⟨ret3 ?_ ?_ rfl, rfl⟩
       ·rw [or_zero _ (by omega)]; simp
       ·rfl
      ·clear hA hE
       go_wp2
       go_ret3
       rw [H.out, HO.out]
       exact ⟨rfl, rfl⟩
      ·clear hA hE
       go_wp2
       go_ret3
       rw [H.out]
       refine ⟨ret3 ?_ ?_ rfl, rfl⟩
       ·exact or_nine U _ k (by omega) HU.out h3
       ·show (10 : Int) = ((k + 1 : Nat) : Int); omega
  ·have H := Lib.hid (step_end hlt HS)
   go_wp2
   go_ret3
   rw [H.out]
   exact ⟨rfl, rfl⟩
def gN (l : List UInt8) (p : Int) : Int := if p < 0 ∨ (l.length : Int) < p then 0 else if (scan 0 0 (l.drop p.toNat)).2.2 = 0 then unturn (scan 0 0 (l.drop p.toNat)).1 else 0
def gT (l : List UInt8) (p : Int) : Int := if p < 0 ∨ (l.length : Int) < p then 0 else if (scan 0 0 (l.drop p.toNat)).2.2 = 0 then p + (scan 0 0 (l.drop p.toNat)).2.1 else 0
def gE (l : List UInt8) (p : Int) : Int := if p < 0 ∨ (l.length : Int) < p then 1 else (scan 0 0 (l.drop p.toNat)).2.2
theorem g_out {l : List UInt8} {p : Int} (h : p < 0 ∨ (l.length : Int) < p) : gN l p = 0 ∧ gT l p = 0 ∧ gE l p = 1 := by
 unfold gN gT gE; rw [if_pos h, if_pos h, if_pos h]; exact ⟨rfl, rfl, rfl⟩
theorem g_in {l : List UInt8} {k : Nat} (h : k ≤ l.length) {u m e : Nat} (hs : scan 0 0 (l.drop k) = (u, m, e)) :
  gN l k = (if e = 0 then unturn u else 0) ∧ gT l k = (if e = 0 then (k : Int) + m else 0) ∧ gE l k = e := by
 unfold gN gT gE
 have h0 : ¬ ((k : Int) < 0 ∨ (l.length : Int) < k) := by omega
 rw [if_neg h0, if_neg h0, if_neg h0, Int.toNat_natCast, hs]
 exact ⟨rfl, rfl, rfl⟩
theorem extract_list (s : ByteArray) (k : Nat) : (s.extract k s.size).data.toList = s.data.toList.drop k := by
 rw [Lib.extract_data, List.take_of_length_le (by rw [List.length_drop, ← Lib.size_eq]; exact Nat.le_refl _)]
theorem get_any (s : ByteArray) (p : Int) (hs : s.size ≤ maxLen) (w : World) :
  Calls Tryz.prog 126 #[.string s, .int .i64 p] w fun e w' => e = .returned (.tuple #[.int .i64 (gN s.data.toList p), .int .i64 (gT s.data.toList p), .int .i64 (gE s.data.toList p)]) ∧ w = w' := by
 have hsz : s.data.toList.length = s.size := by simp
 replace hs : s.size ≤ 9223372036854775807 := hs
 by_cases h0 : p < 0
 ·have H := Lib.hid (g_out (l := s.data.toList) (p := p) (Or.inl h0))
  clear hsz
  go_enter Tryz.func126, Tryz.ntmps126
  go_wp2
  go_ret3
  rw [H.out.1, H.out.2.1, H.out.2.2]
  exact ⟨rfl, rfl⟩
 by_cases h1 : (s.size : Int) < p
 ·have H := Lib.hid (g_out (l := s.data.toList) (p := p) (Or.inr (by omega)))
  clear hsz
  go_enter Tryz.func126, Tryz.ntmps126
  go_wp2
  go_ret3
  rw [H.out.1, H.out.2.1, H.out.2.2]
  exact ⟨rfl, rfl⟩
 obtain ⟨k, rfl⟩ : ∃ k : Nat, p = k := ⟨p.toNat, by omega⟩
 have hk : k ≤ s.size := by omega
 clear h0 h1
 have hx := extract_list s k
 obtain ⟨t, ht⟩ : ∃ t, t = s.extract k s.size := ⟨_, rfl⟩
 rw [← ht] at hx
 have htz : t.size ≤ maxLen := by
  have e1 : t.data.toList.length = t.size := by simp
  have e2 := congrArg List.length hx
  simp only [List.length_drop] at e2
  show _ ≤ 9223372036854775807
  omega
 obtain ⟨u, m, e, hsc⟩ : ∃ u m e, scan 0 0 (s.data.toList.drop k) = (u, m, e) := ⟨_, _, _, rfl⟩
 have H := Lib.hid (g_in (by omega) hsc)
 have hsc' : scan 0 0 t.data.toList = (u, m, e) := by rw [hx]; exact hsc
 have cF := first_any t htz
 rw [hsc', ht] at cF
 have HF := Lib.hid cF
 by_cases he : e = 0
 ·subst he
  have hok := scan_ok hsc
  have hm : m ≤ s.size - k := by
   obtain ⟨_, ⟨r, hr⟩, hm⟩ := hok
   have e2 := congrArg List.length hr
   simp only [List.length_drop, List.length_append] at e2
   omega
  have hu : u < two64 := hok.1
  clear hsz hx hsc hsc' cF htz hok ht t
  go_enter Tryz.func126, Tryz.ntmps126
  go_wp2_with (first
   | (go_at_call 170; refine (HF.out _).mono ?_; rintro e w' ⟨rfl, rfl⟩)
   | (go_at_call 171; refine (back_any _ hu _).mono ?_; rintro e w' ⟨rfl, rfl⟩))
  go_ret3
  rw [H.out.1, H.out.2.1, H.out.2.2]
  exact ⟨rfl, rfl⟩
 ·have h1 : ((e : Int) != 0) = true := by simp; omega
  clear hsz hx hsc hsc' cF htz ht t
  go_enter Tryz.func126, Tryz.ntmps126
  go_wp2_with (first
   | (go_at_call 170; refine (HF.out _).mono ?_; rintro e w' ⟨rfl, rfl⟩))
  go_ret3
  rw [H.out.1, H.out.2.1, H.out.2.2, if_neg he, if_neg he]
  exact ⟨rfl, rfl⟩
def cs (l : List UInt8) : List Value := l.map fun b => .int .u8 b.toNat
theorem cs_append (a b : List UInt8) : cs (a ++ b) = cs a ++ cs b := by simp [cs]
theorem cs_length (a : List UInt8) : (cs a).length = a.length := by simp [cs]
theorem u8_info : (Tryz.prog.info? 5).map (fun i => (i.zero, i.size, i.bytes)) = some (some (.int .u8 0), 1, 1) := by kernel_rfl
def Behind (base m : Nat) (xs : List Value) (l : List UInt8) (w : World) (e : Ending) (w' : World) : Prop :=
 ∃ v, e = .returned v ∧ w'.ownsRow base 5 1 v (m + l.length) (xs ++ cs l) ∧ Below base w w'
def hiB (u : Nat) : UInt8 := UInt8.ofNat (u % 128 + 128)
def loB (u : Nat) : UInt8 := UInt8.ofNat u
theorem or_fin : ∀ x : Fin 256, x.val ||| 128 = x.val % 128 + 128 := by decide +kernel
theorem or_high (u : Nat) : bits .or .u8 ((u : Int) % 256) 128 = ((hiB u).toNat : Int) := by
 have h := u8_or_nat (u % 256) 128 (by omega) (by omega)
 have h2 := or_fin ⟨u % 256, by omega⟩
 have e : (((u % 256 : Nat) : Int)) = (u : Int) % 256 := by omega
 rw [e] at h
 have e2 : (hiB u).toNat = u % 128 + 128 := by unfold hiB; simp; omega
 rw [e2]
 refine h.trans ?_
 simp only at h2
 rw [h2]; omega
theorem low_byte {u : Nat} (h : u < 128) : (u : Int) % 256 = ((loB u).toNat : Int) := by
 have e2 : (loB u).toNat = u := by unfold loB; simp; omega
 rw [e2]; omega
theorem put_more {U u k : Nat} {d : List UInt8} (H : Hid (enc U = d ++ enc u ∧ d.length = k)) (h : k + 1 < (enc U).length) :
  Hid (enc U = (d ++ [hiB u]) ++ enc (u / 128) ∧ (d ++ [hiB u]).length = k + 1) := by
 obtain ⟨h1, h2⟩ := H.out
 have hu : 128 ≤ u := by
  rcases Nat.lt_or_ge u 128 with hl | hl
  ·rw [enc_lo hl] at h1
   have := congrArg List.length h1
   simp at this; omega
  ·exact hl
 exact ⟨by rw [h1, enc_hi hu]; simp [hiB], by simp [h2]⟩
theorem put_last {U u k : Nat} {d : List UInt8} (H : Hid (enc U = d ++ enc u ∧ d.length = k)) (h : (enc U).length ≤ k + 1) : u < 128 ∧ enc U = d ++ [loB u] ∧ (enc U).length = k + 1 := by
 obtain ⟨h1, h2⟩ := H.out
 have hl := congrArg List.length h1
 simp only [List.length_append] at hl
 have h3 := enc_pos u
 have hu : u < 128 := by
  rcases Nat.lt_or_ge u 128 with hu | hu
  ·exact hu
  ·rw [enc_hi hu] at hl
   have := enc_pos (u / 128)
   simp only [List.length_cons] at hl
   omega
 refine ⟨hu, by rw [h1, enc_lo hu]; rfl, by omega⟩
theorem behind_any (n : Int) (hf : Fits n) (base m : Nat) (v : Value) (xs : List Value) (w : World) (hb : base ≤ w.heap.size) (hm : m ≤ 1000000000000) (hown : w.ownsRow base 5 1 v m xs) :
  Calls Tryz.prog 103 #[v, .int .i64 n] w (Behind base m xs (enc (turn n)) w) := by
 obtain ⟨i0, hi, hz0, hz1, hz2⟩ := info_parts u8_info
 have hu : turn n ≤ 18446744073709551615 := by have := turn_fits hf; omega
 have hs1 : 1 ≤ sz n := enc_pos _
 have hs2 : sz n ≤ 10 := enc_ten (turn_fits hf)
 go_enter Tryz.func103, Tryz.ntmps103
 go_wp2_with (first
  | (go_at_call 147; refine (turned_any _ hf _).mono ?_; rintro e w' ⟨rfl, rfl⟩)
  | (go_at_call 148; refine (size_any _ hf _).mono ?_; rintro e w' ⟨rfl, rfl⟩))
 go_loopw [0, 5, 11] (fun b t i wr => ∃ (k u : Nat) (d : List UInt8), k + 1 ≤ sz n ∧ i = .int .i64 k ∧ t = .int .u64 u ∧ u ≤ 18446744073709551615 ∧ Hid (enc (turn n) = d ++ enc u ∧ d.length = k) ∧ wr.ownsRow base 5 1 b (m + k) (xs ++ cs d) ∧ Below base w wr)
  (fun _ _ i _ => sz n - (intOf i).toNat)
 case atStart => exact ⟨0, turn n, [], by omega, rfl, rfl, hu, ⟨rfl, rfl⟩, by simpa [cs] using hown, Below.refl _ _⟩
 case round =>
  obtain ⟨k, u, d, hk, rfl, rfl, hu2, HE, hr, hbl⟩ := hrel
  by_cases hlt : k + 1 < sz n
  ·have HE2 := put_more HE hlt
   have ho := or_high u
   have hbs := hbl.size
   go_wp2_with (at_builtin; refine wpList_append_own _ rfl _ _ 85 rfl base 5 i0 (.int .u8 0) 1 1 Tryz.underlying85 hi hz0 hz1 hz2 rfl (by decide) _ _ _ rfl (hr.alloc _) ⟨wr.heap.size, 0, none⟩ 1 1 [.int .u8 ((hiB u).toNat : Int)] rfl rfl ?c1 ?c2 ?c3 ?c4 ?c5 ?_)
   case c1 =>
    intro j t hj
    match j, hj with
    | 0, hj => simp at hj; subst hj; simp [Addr.add]
   case c2 => intro t ht; simp at ht; subst ht; rfl
   case c3 => unfold maxLen; omega
   case c4 => omega
   case c5 => simp; omega
   ·intro v' w1 hown' hgrow _
    have hb1 : Below base w w1 := (hbl.alloc (by omega) _).grown hgrow (by simp; omega) (fun g hg => (hr.lt g hg).1)
    have hown2 : w1.ownsRow base 5 1 v' (m + (k + 1)) (xs ++ cs (d ++ [hiB u])) := by
     rw [cs_append]; exact hown'
    clear hown' hgrow hbl hr ho
    go_wp2
    go_roundw
    case rel => exact ⟨k + 1, u / 128, d ++ [hiB u], by omega, by go_num, by go_num, by omega, HE2, hown2, hb1⟩
    case measure => simp [intOf]; omega
  ·obtain ⟨hu3, he, hl⟩ := put_last HE (show (enc (turn n)).length ≤ k + 1 by unfold sz at hlt; omega)
   have ho := low_byte hu3
   have hbs := hbl.size
   have HH := Lib.hid (And.intro he hl)
   clear he hl
   go_wp2_with (at_builtin; refine wpList_append_own _ rfl _ _ 85 rfl base 5 i0 (.int .u8 0) 1 1 Tryz.underlying85 hi hz0 hz1 hz2 rfl (by decide) _ _ _ rfl (hr.alloc _) ⟨wr.heap.size, 0, none⟩ 1 1 [.int .u8 ((loB u).toNat : Int)] rfl rfl ?d1 ?d2 ?d3 ?d4 ?d5 ?_)
   case d1 =>
    intro j t hj
    match j, hj with
    | 0, hj => simp at hj; subst hj; simp [Addr.add]; omega
   case d2 => intro t ht; simp at ht; subst ht; rfl
   case d3 => unfold maxLen; omega
   case d4 => omega
   case d5 => simp; omega
   ·intro v' w1 hown' hgrow _
    have hb1 : Below base w w1 := (hbl.alloc (by omega) _).grown hgrow (by simp; omega) (fun g hg => (hr.lt g hg).1)
    clear hgrow hbl hr ho
    go_wp2
    go_ret
    refine ⟨v', rfl, ?_, hb1⟩
    rw [HH.out.2, HH.out.1, cs_append]
    exact hown'
theorem bs_data (l : List UInt8) : (bs l).data.toList = l := by simp [bs]
theorem own_string {w : World} {base m : Nat} {v : Value} {l : List UInt8} (h : w.ownsRow base 5 1 v m (cs l)) (hp : 0 < l.length) :
  (convert 85 9 v).run Tryz.prog w = .ok (.string (bs l)) w := by
 have hml : m = l.length := by have := h.1; rw [cs_length] at this; omega
 subst hml
 obtain ⟨g, cap, rfl⟩ : ∃ g cap, v = .slice (some ⟨g, 0, none⟩) l.length cap := by
  rcases h.2 with ⟨_, h0⟩ | ⟨g, cap, _, hv, _⟩
  ·omega
  ·exact ⟨g, cap, hv⟩
 exact run_convert_bytes_back w 85 9 5 ⟨g, 0, none⟩ cap l Tryz.underlying85 Tryz.underlying5 Tryz.underlying9 (fun j hj => by
  have := h.cells (g := g) rfl j (.int .u8 (l[j].toNat : Int)) (by simp [cs, hj])
  exact this)
theorem put_any (n : Int) (hf : Fits n) (w : World) :
  Calls Tryz.prog 102 #[.int .i64 n] w fun e w' => e = .returned (.string (bs (enc (turn n)))) ∧ Below w.heap.size w w' := by
 go_enter Tryz.func102, Tryz.ntmps102
 go_wp2_with (go_at_call 103; refine (behind_any _ hf w.heap.size 0 _ [] _ (Nat.le_refl _) (by omega) (World.ownsRow_nil _ _ _ _)).mono ?_; rintro e w' ⟨v, rfl, ho, hb⟩; have hc := own_string (l := enc (turn n)) ho (enc_pos _))
 go_ret
 exact ⟨rfl, hb⟩
theorem g_ok {l : List UInt8} {p : Int} (h : gE l p = 0) : 0 ≤ p ∧ p < gT l p ∧ gT l p ≤ l.length ∧ Fits (gN l p) := by
 by_cases ho : p < 0 ∨ (l.length : Int) < p
 ·have := (g_out ho).2.2; omega
 ·obtain ⟨k, rfl⟩ : ∃ k : Nat, p = k := ⟨p.toNat, by omega⟩
  obtain ⟨u, m, e, hs⟩ : ∃ u m e, scan 0 0 (l.drop k) = (u, m, e) := ⟨_, _, _, rfl⟩
  obtain ⟨h1, h2, h3⟩ := g_in (by omega) hs
  have he : e = 0 := by omega
  subst he
  obtain ⟨hu, ⟨r, hr⟩, hm⟩ := scan_ok hs
  have hl := congrArg List.length hr
  simp only [List.length_drop, List.length_append] at hl
  have hp := enc_pos u
  rw [h1, h2, if_pos rfl, if_pos rfl]
  exact ⟨by omega, by omega, by omega, unturn_fits hu⟩
theorem g_plain {l : List UInt8} {k : Nat} (h : gE l k = 0) : ∃ t : Nat, gT l k = t ∧ k < t ∧ t ≤ k + 10 ∧ t ≤ l.length ∧ enc (turn (gN l k)) = (l.drop k).take (t - k) ∧ Fits (gN l k) ∧
  ∀ i (hi : i < l.length), k ≤ i → i < t → (l[i].toNat < 128 ↔ i + 1 = t) := by
 obtain ⟨hp, _, hle, hf⟩ := g_ok h
 have hk : k ≤ l.length := by
  by_cases hk : k ≤ l.length
  ·exact hk
  ·have := (g_out (l := l) (p := (k : Int)) (Or.inr (by omega))).2.2; omega
 obtain ⟨u, m, e, hs⟩ : ∃ u m e, scan 0 0 (l.drop k) = (u, m, e) := ⟨_, _, _, rfl⟩
 obtain ⟨h1, h2, h3⟩ := g_in hk hs
 have he : e = 0 := by omega
 subst he
 rw [if_pos rfl] at h1 h2
 obtain ⟨hu, ⟨r, hr⟩, hm⟩ := scan_ok hs
 have hten : (enc u).length ≤ 10 := enc_ten hu
 have hpos := enc_pos u
 refine ⟨k + m, by rw [h2]; omega, by omega, by omega, by omega, ?_, hf, ?_⟩
 ·rw [h1, turn_unturn, hr, show k + m - k = (enc u).length by omega, List.take_left]
 ·intro i hi hki hit
  obtain ⟨hs', c, he, hh, hc, _⟩ := enc_high u
  have hlen : (enc u).length = hs'.length + 1 := by rw [he]; simp
  have e1 : l[i] = (l.drop k)[i - k]'(by simp; omega) := by
   rw [List.getElem_drop]; congr 1; omega
  rw [e1]
  have e2 : (l.drop k)[i - k]'(by simp; omega) = (hs' ++ (c :: r))[i - k]'(by simp; omega) := by
   congr 1; rw [hr, he]; simp
  rw [e2, List.getElem_append]
  by_cases hlt : i - k < hs'.length
  ·rw [dif_pos hlt]
   have := hh _ (List.getElem_mem hlt)
   omega
  ·rw [dif_neg hlt]
   have e3 : i - k - hs'.length = 0 := by omega
   simp only [e3, List.getElem_cons_zero]
   omega
theorem byte_list (s : ByteArray) (i : Nat) (h : i < s.size) : s.data.toList[i]'(by simpa using h) = s[i] := rfl
theorem app_list (a b : ByteArray) : (a ++ b).data.toList = a.data.toList ++ b.data.toList := by simp
def FitsL (l : List Int) : Prop := ∀ i, Fits (l.getD i 0)
def encK (n : Nat) (l : List Int) (k : Nat) : List UInt8 := enc (turn n) ++ (l.take k).flatMap fun x => enc (turn x)
def encL (l : List Int) : List UInt8 := encK l.length l l.length
theorem encK_zero (n : Nat) (l : List Int) : encK n l 0 = enc (turn n) := by simp [encK]
theorem encK_succ {n : Nat} {l : List Int} {k : Nat} (h : k < l.length) : encK n l (k + 1) = encK n l k ++ enc (turn (l.getD k 0)) := by
 unfold encK
 rw [List.take_succ_eq_append_getElem h, List.flatMap_append, List.append_assoc]
 simp [h]
theorem encK_len {n : Nat} {l : List Int} {k : Nat} (hn : n ≤ 1000000) (hF : FitsL l) (h : k ≤ l.length) : (encK n l k).length ≤ 10 * (k + 1) := by
 induction k with
 | zero =>
  rw [encK_zero]
  exact enc_ten (turn_fits (n := (n : Int)) ⟨by omega, by omega⟩)
 | succ k ih =>
  rw [encK_succ (by omega), List.length_append]
  have h1 := ih (by omega)
  have h2 : (enc (turn (l.getD k 0))).length ≤ 10 := enc_ten (turn_fits (hF k))
  omega
theorem encK_pos (n : Nat) (l : List Int) (k : Nat) : 0 < (encK n l k).length := by
 unfold encK; have := enc_pos (turn n); rw [List.length_append]; omega
theorem list_any (a : Option Addr) (n c : Nat) (l : List Int) (w : World) (hr : Row w a n l) (hF : FitsL l) (hn : n ≤ 1000000) :
  Calls Tryz.prog 55 #[.slice a n c] w fun e w' => e = .returned (.string (bs (encL l))) ∧ Below w.heap.size w w' := by
 have HN := Lib.hid hr.1
 have HF := Lib.hid hF
 have hfn : Fits (n : Int) := ⟨by omega, by omega⟩
 have HL : Hid (encL l = encK n l n) := by show _ = _; rw [HN.out]; rfl
 clear hF
 go_enter Tryz.func55, Tryz.ntmps55
 go_wp2_with (go_at_call 103; refine (behind_any _ hfn w.heap.size 0 _ [] _ (Nat.le_refl _) (by omega) (World.ownsRow_nil _ _ _ _)).mono ?_; rintro e w1 ⟨v, rfl, ho, hb⟩)
 go_loopw [3, 11] (fun b i wr => ∃ k : Nat, k ≤ n ∧ i = .int .i64 k ∧ wr.ownsRow w.heap.size 5 1 b (encK n l k).length (cs (encK n l k)) ∧ Below w.heap.size w wr)
  (fun _ i _ => n - (intOf i).toNat)
 case atStart => exact ⟨0, by omega, rfl, by rw [encK_zero]; simpa using ho, hb⟩
 case round =>
  obtain ⟨k, hk, rfl, hown, hbl⟩ := hrel
  have hbs := hbl.size
  by_cases hlt : k < n
  ·obtain ⟨b, off, rfl, hB, hc⟩ := hr.2 (by omega)
   obtain ⟨x, hx⟩ : ∃ x, x = l.getD k 0 := ⟨_, rfl⟩
   have hcx : wr.cell? ⟨b, off + k, none⟩ = some (.int .i64 x) := by rw [hx]; exact (hbl.cell (p := ⟨b, off + k, none⟩) hB).trans (hc k hlt)
   have hfx : Fits x := by rw [hx]; exact HF.out k
   have hl10 := encK_len hn HF.out (k := k) (by rw [← HN.out]; exact hk)
   have HS : Hid (encK n l (k + 1) = encK n l k ++ enc (turn x)) := by show _ = _; rw [hx]; exact encK_succ (by rw [← HN.out]; exact hlt)
   clear hx hc ho hb
   go_wp2_with (go_at_call 103; refine (behind_any _ hfx w.heap.size _ _ _ _ hbs (by omega) hown).mono ?_; rintro e w2 ⟨v2, rfl, ho2, hb2⟩)
   go_roundw
   case rel => exact ⟨k + 1, by omega, by go_num, by rw [HS.out, List.length_append, cs_append]; exact ho2, hbl.trans hb2⟩
   case measure => simp [intOf]; omega
  ·have hkn : k = n := by omega
   subst hkn
   have hcv := own_string hown (encK_pos _ _ _)
   clear ho hb
   go_wp2
   go_ret
   exact ⟨by rw [HL.out]; rfl, hbl⟩
def nums (l : List UInt8) : Nat → List Int → Int → List Int × Int × Int
 | 0, out, p => (out, p, 0)
 | k + 1, out, p => if gE l p = 0 then nums l k (out ++ [gN l p]) (gT l p) else ([], 0, gE l p)
theorem nums_zero (l : List UInt8) (out : List Int) (p : Int) : nums l 0 out p = (out, p, 0) := rfl
theorem nums_ok {l : List UInt8} {k : Nat} {out : List Int} {p : Int} (h : gE l p = 0) : nums l (k + 1) out p = nums l k (out ++ [gN l p]) (gT l p) := by rw [nums, if_pos h]
theorem nums_err {l : List UInt8} {k : Nat} {out : List Int} {p : Int} (h : gE l p ≠ 0) : nums l (k + 1) out p = ([], 0, gE l p) := by rw [nums, if_neg h]
def getL (l : List UInt8) (p most : Int) : List Int × Int × Int :=
 if most < 0 then ([], 0, 1) else if gE l p ≠ 0 then ([], 0, gE l p) else if gN l p < 0 then ([], 0, 3) else if most < gN l p then ([], 0, 4) else nums l (gN l p).toNat [] (gT l p)
def GotL (r : List Int × Int × Int) (w : World) (e : Ending) (w' : World) : Prop :=
 ∃ a n c, e = .returned (.tuple #[.slice a n c, .int .i64 r.2.1, .int .i64 r.2.2]) ∧ Row w' a n r.1 ∧ Below w.heap.size w w' ∧ ∀ ad, a = some ad → w.heap.size ≤ ad.block
theorem int_info : (Tryz.prog.info? 3).map (fun i => (i.zero, i.size, i.bytes)) = some (some (.int .i64 0), 1, 8) := by kernel_rfl
theorem numbers_any (s : ByteArray) (p : Int) (C : Nat) (w : World) (hs : s.size ≤ 1000000) (hp0 : 0 ≤ p) (hp1 : p ≤ s.size) (hC : C ≤ 9223372036854775807) :
  Calls Tryz.prog 172 #[.string s, .int .i64 p, .int .i64 C] w (GotL (nums s.data.toList C [] p) w) := by
 obtain ⟨i0, hi, hz0, hz1, hz2⟩ := info_parts int_info
 have hsm : s.size ≤ maxLen := by unfold maxLen; omega
 go_enter Tryz.func172, Tryz.ntmps172
 go_wp2
 go_loopw [1, 9, 14] (fun at_ v i wr => ∃ (k : Nat) (out : List Int) (q : Int), k ≤ C ∧ i = .int .i64 k ∧ at_ = .int .i64 q ∧ 0 ≤ q ∧ q ≤ s.size ∧ (out.length : Int) ≤ q ∧ Hid (nums s.data.toList C [] p = nums s.data.toList (C - k) out q) ∧
   wr.ownsRow w.heap.size 3 1 v out.length (out.map (Value.int .i64)) ∧ Below w.heap.size w wr)
  (fun _ _ i _ => C - (intOf i).toNat)
 case atStart => exact ⟨0, [], p, by omega, rfl, rfl, hp0, hp1, by simpa using hp0, rfl, World.ownsRow_nil _ _ _ _, Below.refl _ _⟩
 case round =>
  obtain ⟨k, out, q, hk, rfl, rfl, hq0, hq1, hol, HS, hown, hbl⟩ := hrel
  have hbs := hbl.size
  by_cases hlt : k < C
  ·have hlen : (s.data.toList.length : Int) = s.size := by simp
   have hck : C - k = (C - (k + 1)) + 1 := by omega
   have cG := get_any s q hsm
   by_cases he : gE s.data.toList q = 0
   ·obtain ⟨_, hg1, hg2, _⟩ := g_ok he
    have HS2 : Hid (nums s.data.toList C [] p = nums s.data.toList (C - (k + 1)) (out ++ [gN s.data.toList q]) (gT s.data.toList q)) := by
     show _ = _
     rw [HS.out, hck, nums_ok he]
    rw [he] at cG
    rw [hlen] at hg2
    obtain ⟨N, hN⟩ : ∃ N, N = gN s.data.toList q := ⟨_, rfl⟩
    obtain ⟨T, hT⟩ : ∃ T, T = gT s.data.toList q := ⟨_, rfl⟩
    rw [← hN, ← hT] at cG HS2
    rw [← hT] at hg1 hg2
    have HG := Lib.hid cG
    clear cG hN hT hck hlen he
    go_wp2_with (first
     | (go_at_call 126; refine (HG.out _).mono ?_; rintro e w' ⟨rfl, rfl⟩)
     | (at_builtin; refine wpList_append_own _ rfl _ _ 22 rfl w.heap.size 3 i0 (.int .i64 0) 1 8 Tryz.underlying22 hi hz0 hz1 hz2 rfl (by decide) _ _ _ rfl (hown.alloc _) ⟨wr.heap.size, 0, none⟩ 1 1 [.int .i64 N] rfl rfl ?c1 ?c2 ?c3 ?c4 ?c5 ?_))
    case c1 =>
     intro j t hj
     match j, hj with
     | 0, hj => simp at hj; subst hj; simp [Addr.add]
    case c2 => intro t ht; simp at ht; subst ht; rfl
    case c3 => unfold maxLen; omega
    case c4 => omega
    case c5 => simp; omega
    ·intro v' w1 hown' hgrow _
     have hb1 : Below w.heap.size w w1 := (hbl.alloc (by omega) _).grown hgrow (by simp; omega) (fun g hg => (hown.lt g hg).1)
     have hown2 : w1.ownsRow w.heap.size 3 1 v' (out ++ [N]).length ((out ++ [N]).map (Value.int .i64)) := by
      rw [List.map_append, List.length_append]; exact hown'
     clear hown' hgrow hbl hown
     go_wp2
     go_roundw
     case rel => exact ⟨k + 1, out ++ [N], T, by omega, by go_num, rfl, by omega, hg2, by simp; omega, HS2, hown2, hb1⟩
     case measure => simp [intOf]; omega
   ·have HS2 : Hid (nums s.data.toList C [] p = ([], 0, gE s.data.toList q)) := by
     show _ = _
     rw [HS.out, hck, nums_err he]
    obtain ⟨E, hE⟩ : ∃ E, E = gE s.data.toList q := ⟨_, rfl⟩
    rw [← hE] at cG HS2 he
    have hE1 : (E != 0) = true := by simpa using he
    have HG := Lib.hid cG
    clear cG hE hck hlen he
    go_wp2_with (first
     | (go_at_call 126; refine (HG.out _).mono ?_; rintro e w' ⟨rfl, rfl⟩))
    go_ret3
    rw [HS2.out]
    exact ⟨none, 0, 0, rfl, Row.nil _ _, hbl, fun _ h => by cases h⟩
  ·have HS2 : Hid (nums s.data.toList C [] p = (out, q, 0)) := by
    show _ = _
    rw [HS.out, show C - k = 0 by omega, nums_zero]
   obtain ⟨a, n, c, rfl, hR⟩ := Row.own hown
   go_wp2
   go_ret3
   rw [HS2.out]
   exact ⟨a, n, c, rfl, hR, hbl, fun ad e => by subst e; exact (hown.lt _ rfl).1⟩
theorem getL_low {l : List UInt8} {p most : Int} (h : most < 0) : getL l p most = ([], 0, 1) := by unfold getL; rw [if_pos h]
theorem getL_err {l : List UInt8} {p most : Int} (h : 0 ≤ most) (he : gE l p ≠ 0) : getL l p most = ([], 0, gE l p) := by unfold getL; rw [if_neg (by omega), if_pos he]
theorem getL_form {l : List UInt8} {p most : Int} (h : 0 ≤ most) (he : gE l p = 0) (hn : gN l p < 0) : getL l p most = ([], 0, 3) := by unfold getL; rw [if_neg (by omega), if_neg (by omega), if_pos hn]
theorem getL_big {l : List UInt8} {p most : Int} (h : 0 ≤ most) (he : gE l p = 0) (hn : 0 ≤ gN l p) (hb : most < gN l p) : getL l p most = ([], 0, 4) := by
 unfold getL; rw [if_neg (by omega), if_neg (by omega), if_neg (by omega), if_pos hb]
theorem getL_ok {l : List UInt8} {p most : Int} (h : 0 ≤ most) (he : gE l p = 0) (hn : 0 ≤ gN l p) (hb : gN l p ≤ most) : getL l p most = nums l (gN l p).toNat [] (gT l p) := by
 unfold getL; rw [if_neg (by omega), if_neg (by omega), if_neg (by omega), if_neg (by omega)]
theorem getList_any (s : ByteArray) (p most : Int) (w : World) (hs : s.size ≤ 1000000) :
  Calls Tryz.prog 127 #[.string s, .int .i64 p, .int .i64 most] w (GotL (getL s.data.toList p most) w) := by
 have hsm : s.size ≤ maxLen := by unfold maxLen; omega
 by_cases h0 : most < 0
 ·have H := Lib.hid (getL_low (l := s.data.toList) (p := p) h0)
  go_enter Tryz.func127, Tryz.ntmps127
  go_wp2
  go_ret3
  rw [H.out]
  exact ⟨none, 0, 0, rfl, Row.nil _ _, Below.refl _ _, fun _ h => by cases h⟩
 have h0' : 0 ≤ most := by omega
 clear h0
 have cG := get_any s p hsm
 obtain ⟨N, hN⟩ : ∃ N, N = gN s.data.toList p := ⟨_, rfl⟩
 obtain ⟨T, hT⟩ : ∃ T, T = gT s.data.toList p := ⟨_, rfl⟩
 obtain ⟨E, hE⟩ : ∃ E, E = gE s.data.toList p := ⟨_, rfl⟩
 rw [← hN, ← hT, ← hE] at cG
 by_cases he : E = 0
 ·subst he
  obtain ⟨_, hg1, hg2, hg3⟩ := g_ok hE.symm
  have hlen : (s.data.toList.length : Int) = s.size := by simp
  rw [← hT] at hg1 hg2
  rw [← hN] at hg3
  rw [hlen] at hg2
  clear hlen
  have HG := Lib.hid cG
  clear cG
  by_cases h1 : N < 0
  ·have H := Lib.hid (getL_form h0' hE.symm (by rw [← hN]; exact h1))
   clear hN hT hE
   go_enter Tryz.func127, Tryz.ntmps127
   go_wp2_with (go_at_call 126; refine (HG.out _).mono ?_; rintro e w' ⟨rfl, rfl⟩)
   go_ret3
   rw [H.out]
   exact ⟨none, 0, 0, rfl, Row.nil _ _, Below.refl _ _, fun _ h => by cases h⟩
  by_cases h2 : most < N
  ·have H := Lib.hid (getL_big h0' hE.symm (by rw [← hN]; omega) (by rw [← hN]; exact h2))
   clear hN hT hE
   go_enter Tryz.func127, Tryz.ntmps127
   go_wp2_with (go_at_call 126; refine (HG.out _).mono ?_; rintro e w' ⟨rfl, rfl⟩)
   go_ret3
   rw [H.out]
   exact ⟨none, 0, 0, rfl, Row.nil _ _, Below.refl _ _, fun _ h => by cases h⟩
  obtain ⟨C, rfl⟩ : ∃ C : Nat, N = C := ⟨N.toNat, by omega⟩
  have H := Lib.hid (getL_ok h0' hE.symm (by rw [← hN]; omega) (by rw [← hN]; omega))
  rw [← hN, ← hT, Int.toNat_natCast] at H
  have hC : C ≤ 9223372036854775807 := by have := hg3.2; omega
  clear hN hT hE hg3
  rw [H.out]
  have HM := Lib.hid (fun w => numbers_any s T C w hs (by omega) hg2 hC)
  clear H
  go_enter Tryz.func127, Tryz.ntmps127
  go_wp2_with (first
   | (go_at_call 126; refine (HG.out _).mono ?_; rintro e w' ⟨rfl, rfl⟩)
   | (go_at_call 172; refine (HM.out _).mono ?_; rintro e w' ⟨a, n, c, rfl, hR, hb, hnew⟩))
  go_ret3
  exact ⟨a, n, c, rfl, hR, hb, hnew⟩
 ·have H := Lib.hid (getL_err h0' (by rw [← hE]; exact he))
  rw [← hE] at H
  have hE1 : (E != 0) = true := by simpa using he
  have HG := Lib.hid cG
  clear cG hN hT hE he
  go_enter Tryz.func127, Tryz.ntmps127
  go_wp2_with (go_at_call 126; refine (HG.out _).mono ?_; rintro e w' ⟨rfl, rfl⟩)
  go_ret3
  rw [H.out]
  exact ⟨none, 0, 0, rfl, Row.nil _ _, Below.refl _ _, fun _ h => by cases h⟩
end Go.Proofs.YtngehojibcmieaaGreatDoor.Kb
end
