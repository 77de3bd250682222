/- What is proved here: plain facts of the sum of 16 bits: one round, a byte's eight rounds, bytes one behind the other; all of it goes with exclusive or, and no two sums become one. Conditions: none. -/
namespace Go.Proofs.YtdkhefloooadhaaDoor

/-- One round. -/
def rnd (c : BitVec 16) : BitVec 16 := if c.msb then (c <<< 1) ^^^ 4129#16 else c <<< 1
theorem rnd_xor (a b : BitVec 16) : rnd (a ^^^ b) = rnd a ^^^ rnd b := by
  unfold rnd
  rw [BitVec.msb_xor, BitVec.shiftLeft_xor_distrib]
  cases a.msb <;> cases b.msb <;> simp [BitVec.xor_assoc]
  · rw [BitVec.xor_comm (4129#16) (b <<< 1)]
  · rw [← BitVec.xor_assoc (4129#16), BitVec.xor_comm (4129#16) (b <<< 1), BitVec.xor_assoc, BitVec.xor_self, BitVec.xor_zero]
theorem rnd_zero : rnd 0#16 = 0#16 := by decide
theorem rnd_kernel (c : BitVec 16) (h : rnd c = 0#16) : c = 0#16 := by
  unfold rnd at h
  cases hm : c.msb
  · rw [hm] at h
    simp only [Bool.false_eq_true, if_false] at h
    apply BitVec.eq_of_toNat_eq
    have h1 := congrArg BitVec.toNat h
    rw [BitVec.toNat_shiftLeft, Nat.shiftLeft_eq] at h1
    have h2 := BitVec.msb_eq_false_iff_two_mul_lt.1 hm
    have e : (2 : Nat) ^ 16 = 65536 := rfl
    rw [e] at h1 h2
    simp only [BitVec.toNat_ofNat] at h1 ⊢
    omega
  · rw [hm] at h
    simp only [if_true] at h
    have h1 := congrArg (fun x => x.getLsbD 0) h
    simp at h1

/-- Several rounds. -/
def rnds : Nat → BitVec 16 → BitVec 16
  | 0, c => c
  | n + 1, c => rnds n (rnd c)
theorem rnds_xor (n : Nat) (a b : BitVec 16) : rnds n (a ^^^ b) = rnds n a ^^^ rnds n b := by
  induction n generalizing a b with
  | zero => rfl
  | succ n ih => show rnds n (rnd (a ^^^ b)) = _; rw [rnd_xor, ih]; rfl
theorem rnds_kernel (n : Nat) (c : BitVec 16) (h : rnds n c = 0#16) : c = 0#16 := by
  induction n generalizing c with
  | zero => exact h
  | succ n ih => exact rnd_kernel c (ih (rnd c) h)
theorem rnds_add (m n : Nat) (c : BitVec 16) : rnds (m + n) c = rnds n (rnds m c) := by
  induction m generalizing c with
  | zero => rw [Nat.zero_add]; rfl
  | succ m ih => rw [Nat.succ_add]; exact ih (rnd c)
theorem rnds_last (n : Nat) (c : BitVec 16) : rnds (n + 1) c = rnd (rnds n c) := rnds_add n 1 c
theorem eq_of_xor {a b : BitVec 16} (h : a ^^^ b = 0#16) : a = b := by
  have : (a ^^^ b) ^^^ b = 0#16 ^^^ b := by rw [h]
  rwa [BitVec.xor_assoc, BitVec.xor_self, BitVec.xor_zero, BitVec.zero_xor] at this
theorem rnds_inj (n : Nat) {a b : BitVec 16} (h : rnds n a = rnds n b) : a = b :=
  eq_of_xor (rnds_kernel n _ (by rw [rnds_xor, h, BitVec.xor_self]))
theorem rnds_zero (n : Nat) : rnds n 0#16 = 0#16 := by
  have := rnds_xor n 0#16 0#16
  rwa [BitVec.xor_self, BitVec.xor_self] at this

/-- A byte at the upper end, and at the lower one. -/
def up (b : UInt8) : BitVec 16 := BitVec.ofNat 16 (b.toNat * 256)
def low (b : UInt8) : BitVec 16 := BitVec.ofNat 16 b.toNat
theorem rnds_low (b : UInt8) : rnds 8 (low b) = up b := by
  have h : ∀ x : Fin 256, rnds 8 (BitVec.ofNat 16 x.val) = BitVec.ofNat 16 (x.val * 256) := by decide +kernel
  exact h ⟨b.toNat, b.toNat_lt⟩

/-- One byte, and bytes one behind the other. -/
def stp (c : BitVec 16) (b : UInt8) : BitVec 16 := rnds 8 (c ^^^ up b)
def crc (c : BitVec 16) (l : List UInt8) : BitVec 16 := l.foldl stp c
theorem crc_nil (c : BitVec 16) : crc c [] = c := rfl
theorem crc_cons (c : BitVec 16) (b : UInt8) (l : List UInt8) : crc c (b :: l) = crc (stp c b) l := rfl
theorem crc_append (c : BitVec 16) (a b : List UInt8) : crc c (a ++ b) = crc (crc c a) b := List.foldl_append
theorem crc_inj {a b : BitVec 16} {l : List UInt8} (h : crc a l = crc b l) : a = b := by
  induction l generalizing a b with
  | nil => exact h
  | cons x l ih =>
    have h1 := rnds_inj 8 (ih h)
    have : (a ^^^ up x) ^^^ up x = (b ^^^ up x) ^^^ up x := by rw [h1]
    rwa [BitVec.xor_assoc, BitVec.xor_self, BitVec.xor_zero, BitVec.xor_assoc, BitVec.xor_self, BitVec.xor_zero] at this
theorem up_xor (a b : UInt8) : up (a ^^^ b) = up a ^^^ up b := by
  apply BitVec.eq_of_toNat_eq
  unfold up
  have h1 := a.toNat_lt
  have h2 := b.toNat_lt
  have h3 := (a ^^^ b).toNat_lt
  have e : (2 : Nat) ^ 16 = 65536 := rfl
  rw [BitVec.toNat_xor, BitVec.toNat_ofNat, BitVec.toNat_ofNat, BitVec.toNat_ofNat, e, Nat.mod_eq_of_lt (by omega), Nat.mod_eq_of_lt (by omega), Nat.mod_eq_of_lt (by omega), UInt8.toNat_xor]
  have := Nat.shiftLeft_xor_distrib (a := a.toNat) (b := b.toNat) (i := 8)
  simpa [Nat.shiftLeft_eq] using this
theorem xor_four (a b c d : BitVec 16) : (a ^^^ b) ^^^ (c ^^^ d) = (a ^^^ c) ^^^ (b ^^^ d) := by
  rw [BitVec.xor_assoc, BitVec.xor_assoc, ← BitVec.xor_assoc b c d, BitVec.xor_comm b c, BitVec.xor_assoc c b d]
/-- Two sums laid over each other. -/
def over : List UInt8 → List UInt8 → List UInt8
  | a :: r, b :: s => (a ^^^ b) :: over r s
  | _, _ => []
theorem crc_over (a b : BitVec 16) (s t : List UInt8) (h : s.length = t.length) : crc (a ^^^ b) (over s t) = crc a s ^^^ crc b t := by
  induction s generalizing a b t with
  | nil => cases t with
    | nil => rfl
    | cons => simp at h
  | cons x s ih => cases t with
    | nil => simp at h
    | cons y t =>
      show crc (stp (a ^^^ b) (x ^^^ y)) (over s t) = crc (stp a x) s ^^^ crc (stp b y) t
      rw [← ih _ _ t (by simpa using h)]
      congr 1
      unfold stp
      rw [up_xor, xor_four, rnds_xor]
theorem over_take (s t : List UInt8) (n : Nat) : over (s.take n) (t.take n) = (over s t).take n := by
  induction n generalizing s t with
  | zero => simp [over]
  | succ n ih => cases s <;> cases t <;> simp [over, ih]
theorem over_length (s t : List UInt8) : (over s t).length = min s.length t.length := by
  induction s generalizing t with
  | nil => simp [over]
  | cons x s ih => cases t <;> simp [over, ih]
theorem over_get (s t : List UInt8) (i : Nat) (h1 : i < s.length) (h2 : i < t.length) : (over s t)[i]? = some (s[i] ^^^ t[i]) := by
  induction s generalizing t i with
  | nil => simp at h1
  | cons x s ih => cases t with
    | nil => simp at h2
    | cons y t => cases i with
      | zero => simp [over]
      | succ i => simpa [over] using ih t i (by simpa using h1) (by simpa using h2)

/-- Two bytes as a number of 16 bits. -/
def word (x y : UInt8) : BitVec 16 := up x ^^^ low y
theorem xor_low (k a b : Nat) (h : b < 2 ^ k) : (a * 2 ^ k) ^^^ b = a * 2 ^ k + b := by
  have e1 : a * 2 ^ k + b = (a * 2 ^ k) ||| b := by
    have := Nat.shiftLeft_add_eq_or_of_lt h a
    rwa [Nat.shiftLeft_eq] at this
  rw [e1]
  apply Nat.eq_of_testBit_eq
  intro i
  rw [Nat.testBit_xor, Nat.testBit_or]
  by_cases hi : i < k
  · have : (a * 2 ^ k).testBit i = false := by
      have := Nat.testBit_shiftLeft (x := a) (i := k) (j := i)
      rw [Nat.shiftLeft_eq] at this
      simpa [show ¬ k ≤ i by omega] using this
    rw [this]; simp
  · have : b.testBit i = false := Nat.testBit_lt_two_pow (Nat.lt_of_lt_of_le h (Nat.pow_le_pow_right (n := 2) (by omega) (show k ≤ i by omega)))
    rw [this]; simp
theorem xor_mul (k a b : Nat) : (a ^^^ b) * 2 ^ k = (a * 2 ^ k) ^^^ (b * 2 ^ k) := by
  have := Nat.shiftLeft_xor_distrib (a := a) (b := b) (i := k)
  rwa [Nat.shiftLeft_eq, Nat.shiftLeft_eq, Nat.shiftLeft_eq] at this
theorem ofNat_xor (a b : Nat) : BitVec.ofNat 16 (a ^^^ b) = BitVec.ofNat 16 a ^^^ BitVec.ofNat 16 b := by
  apply BitVec.eq_of_toNat_eq
  rw [BitVec.toNat_xor, BitVec.toNat_ofNat, BitVec.toNat_ofNat, BitVec.toNat_ofNat, Nat.xor_mod_two_pow]
theorem word_val (x y : UInt8) : word x y = BitVec.ofNat 16 (x.toNat * 256 + y.toNat) := by
  rw [← show x.toNat * 256 ^^^ y.toNat = x.toNat * 256 + y.toNat from xor_low 8 _ _ y.toNat_lt, ofNat_xor]
  rfl
theorem word_inj {x y u v : UInt8} (h : word x y = word u v) : x = u ∧ y = v := by
  rw [word_val, word_val] at h
  have h1 := congrArg BitVec.toNat h
  have := x.toNat_lt
  have := y.toNat_lt
  have := u.toNat_lt
  have := v.toNat_lt
  have e : (2 : Nat) ^ 16 = 65536 := rfl
  rw [BitVec.toNat_ofNat, BitVec.toNat_ofNat, e, Nat.mod_eq_of_lt (by omega), Nat.mod_eq_of_lt (by omega)] at h1
  exact ⟨UInt8.toNat_inj.1 (by omega), UInt8.toNat_inj.1 (by omega)⟩
theorem crc_two (c : BitVec 16) (x y : UInt8) : crc c [x, y] = rnds 16 (c ^^^ word x y) := by
  show rnds 8 (rnds 8 (c ^^^ up x) ^^^ up y) = _
  rw [← rnds_low y, ← rnds_xor, BitVec.xor_assoc]
  exact (rnds_add 8 8 _).symm
/-- A sum's two bytes. -/
def hiB (c : BitVec 16) : UInt8 := UInt8.ofNat (c.toNat / 256)
def loB (c : BitVec 16) : UInt8 := UInt8.ofNat (c.toNat % 256)
theorem hiB_nat (c : BitVec 16) : (hiB c).toNat = c.toNat / 256 := by
  have := c.isLt
  unfold hiB; rw [UInt8.toNat_ofNat']; omega
theorem loB_nat (c : BitVec 16) : (loB c).toNat = c.toNat % 256 := by unfold loB; rw [UInt8.toNat_ofNat']; omega
theorem word_of (c : BitVec 16) : word (hiB c) (loB c) = c := by
  rw [word_val, hiB_nat, loB_nat, show c.toNat / 256 * 256 + c.toNat % 256 = c.toNat by omega]
  exact BitVec.ofNat_toNat 16 c |>.trans (BitVec.setWidth_eq c)
theorem crc_back (c : BitVec 16) : crc c [hiB c, loB c] = 0#16 := by rw [crc_two, word_of, BitVec.xor_self, rnds_zero]
theorem crc_back_iff (c : BitVec 16) (x y : UInt8) (h : crc c [x, y] = 0#16) : x = hiB c ∧ y = loB c := by
  rw [crc_two] at h
  have h1 := eq_of_xor (rnds_kernel _ _ h)
  have h2 := word_inj (h1.symm.trans (word_of c).symm)
  exact h2
theorem crc_two_inj {c : BitVec 16} {x y u v : UInt8} (h : crc c [x, y] = crc c [u, v]) : x = u ∧ y = v := by
  rw [crc_two, crc_two] at h
  have h1 := rnds_inj _ h
  have h2 : c ^^^ (c ^^^ word x y) = c ^^^ (c ^^^ word u v) := by rw [h1]
  rw [← BitVec.xor_assoc, ← BitVec.xor_assoc, BitVec.xor_self, BitVec.zero_xor, BitVec.zero_xor] at h2
  exact word_inj h2
/-- Two bytes in the middle decide the sum. -/
theorem crc_mid (a r : List UInt8) (x y u v : UInt8) (c : BitVec 16) : crc c (a ++ [x, y] ++ r) = crc c (a ++ [u, v] ++ r) ↔ x = u ∧ y = v := by
  constructor
  · intro h
    rw [crc_append, crc_append, crc_append c (a ++ [u, v]), crc_append c a] at h
    exact crc_two_inj (crc_inj h)
  · rintro ⟨rfl, rfl⟩; rfl
theorem crc_zeros (n : Nat) : crc 0#16 (List.replicate n 0) = 0#16 := by
  induction n with
  | zero => rfl
  | succ n ih =>
    rw [List.replicate_succ, crc_cons, show stp 0#16 0 = 0#16 by decide +kernel]
    exact ih

theorem rnd_small (c : Nat) (h : c < 32768) : rnd (BitVec.ofNat 16 c) = BitVec.ofNat 16 (c * 2) := by
  unfold rnd
  have e : (2 : Nat) ^ 16 = 65536 := rfl
  have hm : (BitVec.ofNat 16 c).msb = false := by
    rw [BitVec.msb_eq_false_iff_two_mul_lt, BitVec.toNat_ofNat, e]; omega
  rw [hm]
  apply BitVec.eq_of_toNat_eq
  simp only [Bool.false_eq_true, if_false]
  rw [BitVec.toNat_shiftLeft, Nat.shiftLeft_eq, BitVec.toNat_ofNat, BitVec.toNat_ofNat, e]
  omega
theorem rnds_small (c : Nat) (h : c < 4096) : rnds 4 (BitVec.ofNat 16 c) = BitVec.ofNat 16 (c * 16) := by
  show rnd (rnd (rnd (rnd (BitVec.ofNat 16 c)))) = _
  rw [rnd_small _ (by omega), rnd_small _ (by omega), rnd_small _ (by omega), rnd_small _ (by omega)]
  congr 1; omega
/-- One round, by plain numbers. -/
theorem rnd_nat (c : BitVec 16) : (rnd c).toNat = if 65536 ≤ 2 * c.toNat then (2 * c.toNat - 65536) ^^^ 4129 else 2 * c.toNat := by
  have hc := c.isLt
  have e : (2 : Nat) ^ 16 = 65536 := rfl
  unfold rnd
  cases hm : c.msb
  · have h2 := BitVec.msb_eq_false_iff_two_mul_lt.1 hm
    rw [e] at h2 hc
    rw [if_neg (show ¬ 65536 ≤ 2 * c.toNat by omega)]
    simp only [Bool.false_eq_true, if_false]
    rw [BitVec.toNat_shiftLeft, Nat.shiftLeft_eq, e]; omega
  · have h2 := BitVec.msb_eq_true_iff_two_mul_ge.1 hm
    rw [e] at h2 hc
    rw [if_pos (show 65536 ≤ 2 * c.toNat by omega)]
    simp only [if_true]
    rw [BitVec.toNat_xor, BitVec.toNat_shiftLeft, Nat.shiftLeft_eq, e, show c.toNat * 2 ^ 1 % 65536 = 2 * c.toNat - 65536 by omega]
    rfl

/-- A half byte's four rounds, by the table. -/
def tab (i : Nat) : BitVec 16 := rnds 4 (BitVec.ofNat 16 (i * 4096))
theorem half_tab (c : BitVec 16) (h : Nat) : BitVec.ofNat 16 (c.toNat * 16) ^^^ tab ((c.toNat / 4096) ^^^ h) = rnds 4 (c ^^^ BitVec.ofNat 16 (h * 4096)) := by
  have e0 : c = BitVec.ofNat 16 (c.toNat / 4096 * 4096) ^^^ BitVec.ofNat 16 (c.toNat % 4096) := by
    have h1 : (c.toNat / 4096 * 4096) ^^^ (c.toNat % 4096) = c.toNat / 4096 * 4096 + c.toNat % 4096 := xor_low 12 _ _ (by omega)
    rw [← ofNat_xor, h1, show c.toNat / 4096 * 4096 + c.toNat % 4096 = c.toNat by omega]
    exact (BitVec.ofNat_toNat 16 c |>.trans (BitVec.setWidth_eq c)).symm
  have e1 : rnds 4 (BitVec.ofNat 16 (c.toNat % 4096)) = BitVec.ofNat 16 (c.toNat * 16) := by
    rw [rnds_small _ (by omega)]
    apply BitVec.eq_of_toNat_eq
    rw [BitVec.toNat_ofNat, BitVec.toNat_ofNat, show (2 : Nat) ^ 16 = 65536 from rfl]; omega
  have e2 : tab ((c.toNat / 4096) ^^^ h) = rnds 4 (BitVec.ofNat 16 (c.toNat / 4096 * 4096)) ^^^ rnds 4 (BitVec.ofNat 16 (h * 4096)) := by
    unfold tab
    rw [show (c.toNat / 4096 ^^^ h) * 4096 = (c.toNat / 4096 * 4096) ^^^ (h * 4096) from xor_mul 12 _ _, ofNat_xor, rnds_xor]
  rw [e2, ← e1]
  conv => rhs; rw [e0]
  rw [rnds_xor, rnds_xor, ← BitVec.xor_assoc, BitVec.xor_comm (rnds 4 (BitVec.ofNat 16 (c.toNat % 4096)))]
/-- What overHalf answers. -/
def half (c : BitVec 16) (h : Nat) : BitVec 16 := rnds 4 (c ^^^ BitVec.ofNat 16 (h * 4096))
theorem half_two (c : BitVec 16) (b : UInt8) : half (half c (b.toNat / 16)) (b.toNat % 16) = stp c b := by
  unfold half stp
  have e1 : BitVec.ofNat 16 (b.toNat % 16 * 4096) = rnds 4 (BitVec.ofNat 16 (b.toNat % 16 * 256)) := by
    rw [rnds_small _ (by omega)]; congr 1; omega
  have e2 : up b = BitVec.ofNat 16 (b.toNat / 16 * 4096) ^^^ BitVec.ofNat 16 (b.toNat % 16 * 256) := by
    have h1 : (b.toNat / 16 * 4096) ^^^ (b.toNat % 16 * 256) = b.toNat / 16 * 4096 + b.toNat % 16 * 256 := xor_low 12 _ _ (by omega)
    rw [← ofNat_xor, h1]
    exact congrArg (BitVec.ofNat 16) (show b.toNat * 256 = b.toNat / 16 * 4096 + b.toNat % 16 * 256 by omega)
  rw [e1, e2, ← rnds_xor, BitVec.xor_assoc]
  exact (rnds_add 4 4 _).symm
end Go.Proofs.YtdkhefloooadhaaDoor
