/- What is proved here: plain facts of the sum of 16 bits: one round, a byte's eight rounds, bytes one behind the other; all of it goes with exclusive or, and no two sums become one. Conditions: none. contracts of crc.overHalf, crc.On and crc.Of. Condition: the table of half bytes holds what it is laid as ('Hal'). contracts of the two functions of crc that lay a sum behind bytes, of crc.Open and of strings.Clone. Conditions: the table of half bytes holds what it is laid as; each string is no longer than its theorem says (a million bytes, for Seal and Open). -/
import Derived.Test.YtngehojibcmieaaGreatDoorQGb
import Derived.Below
import Derived.Test.YtngehojibcmieaaGreatDoorQShelf
import Derived.Laws.MakeOwn
import Derived.IntWalk
set_option maxRecDepth 100000
set_option maxHeartbeats 8000000
section
namespace Go.Proofs.YtngehojibcmieaaGreatDoor.Kr
def rnd (c : BitVec 16) : BitVec 16 := if c.msb then (c <<< 1) ^^^ 4129#16 else c <<< 1
theorem rnd_xor (a b : BitVec 16) : rnd (a ^^^ b) = rnd a ^^^ rnd b := by
 unfold rnd
 rw [BitVec.msb_xor, BitVec.shiftLeft_xor_distrib]
 cases a.msb <;> cases b.msb <;> simp [BitVec.xor_assoc]
 ·rw [BitVec.xor_comm (4129#16) (b <<< 1)]
 ·rw [← BitVec.xor_assoc (4129#16), BitVec.xor_comm (4129#16) (b <<< 1), BitVec.xor_assoc, BitVec.xor_self, BitVec.xor_zero]
def rnds : Nat → BitVec 16 → BitVec 16
 | 0, c => c
 | n + 1, c => rnds n (rnd c)
theorem rnds_xor (n : Nat) (a b : BitVec 16) : rnds n (a ^^^ b) = rnds n a ^^^ rnds n b := by
 induction n generalizing a b with
 | zero => rfl
 | succ n ih => show rnds n (rnd (a ^^^ b)) = _; rw [rnd_xor, ih]; rfl
theorem rnds_add (m n : Nat) (c : BitVec 16) : rnds (m + n) c = rnds n (rnds m c) := by
 induction m generalizing c with
 | zero => rw [Nat.zero_add]; rfl
 | succ m ih => rw [Nat.succ_add]; exact ih (rnd c)
def up (b : UInt8) : BitVec 16 := BitVec.ofNat 16 (b.toNat * 256)
def low (b : UInt8) : BitVec 16 := BitVec.ofNat 16 b.toNat
def stp (c : BitVec 16) (b : UInt8) : BitVec 16 := rnds 8 (c ^^^ up b)
def crc (c : BitVec 16) (l : List UInt8) : BitVec 16 := l.foldl stp c
theorem crc_nil (c : BitVec 16) : crc c [] = c := rfl
theorem crc_cons (c : BitVec 16) (b : UInt8) (l : List UInt8) : crc c (b :: l) = crc (stp c b) l := rfl
theorem crc_append (c : BitVec 16) (a b : List UInt8) : crc c (a ++ b) = crc (crc c a) b := List.foldl_append
theorem xor_low (k a b : Nat) (h : b < 2 ^ k) : (a * 2 ^ k) ^^^ b = a * 2 ^ k + b := by
 have e1 : a * 2 ^ k + b = (a * 2 ^ k) ||| b := by
  have := Nat.shiftLeft_add_eq_or_of_lt h a
  rwa [Nat.shiftLeft_eq] at this
 rw [e1]
 apply Nat.eq_of_testBit_eq
 intro i
 rw [Nat.testBit_xor, Nat.testBit_or]
 by_cases hi : i < k
 ·have : (a * 2 ^ k).testBit i = false := by
   have := Nat.testBit_shiftLeft (x := a) (i := k) (j := i)
   rw [Nat.shiftLeft_eq] at this
   simpa [show ¬ k ≤ i by omega] using this
  rw [this]; simp
 ·have : b.testBit i = false := Nat.testBit_lt_two_pow (Nat.lt_of_lt_of_le h (Nat.pow_le_pow_right (n := 2) (by omega) (show k ≤ i by omega)))
  rw [this]; simp
theorem xor_mul (k a b : Nat) : (a ^^^ b) * 2 ^ k = (a * 2 ^ k) ^^^ (b * 2 ^ k) := by
 have := Nat.shiftLeft_xor_distrib (a := a) (b := b) (i := k)
 rwa [Nat.shiftLeft_eq, Nat.shiftLeft_eq, Nat.shiftLeft_eq] at this
theorem ofNat_xor (a b : Nat) : BitVec.ofNat 16 (a ^^^ b) = BitVec.ofNat 16 a ^^^ BitVec.ofNat 16 b := by
 apply BitVec.eq_of_toNat_eq
 rw [BitVec.toNat_xor, BitVec.toNat_ofNat, BitVec.toNat_ofNat, BitVec.toNat_ofNat, Nat.xor_mod_two_pow]
def hiB (c : BitVec 16) : UInt8 := UInt8.ofNat (c.toNat / 256)
def loB (c : BitVec 16) : UInt8 := UInt8.ofNat (c.toNat % 256)
theorem hiB_nat (c : BitVec 16) : (hiB c).toNat = c.toNat / 256 := by
 have := c.isLt
 unfold hiB; rw [UInt8.toNat_ofNat']; omega
theorem loB_nat (c : BitVec 16) : (loB c).toNat = c.toNat % 256 := by unfold loB; rw [UInt8.toNat_ofNat']; omega
theorem rnd_small (c : Nat) (h : c < 32768) : rnd (BitVec.ofNat 16 c) = BitVec.ofNat 16 (c * 2) := by
 unfold rnd
 have e : (2 : Nat) ^ 16 = 65536 := rfl
 have hm : (BitVec.ofNat 16 c).msb = false := by
  rw [BitVec.msb_eq_false_iff_two_mul_lt, BitVec.toNat_ofNat, e]; omega
 rw [hm]
 apply BitVec.eq_of_toNat_eq
 simp only [Bool.false_eq_true, if_false]
 rw [BitVec.toNat_shiftLeft, Nat.shiftLeft_eq, BitVec.toNat_ofNat, BitVec.toNat_ofNat, e]
 omega
theorem rnds_small (c : Nat) (h : c < 4096) : rnds 4 (BitVec.ofNat 16 c) = BitVec.ofNat 16 (c * 16) := by
 show rnd (rnd (rnd (rnd (BitVec.ofNat 16 c)))) = _
 rw [rnd_small _ (by omega), rnd_small _ (by omega), rnd_small _ (by omega), rnd_small _ (by omega)]
 congr 1; omega
def tab (i : Nat) : BitVec 16 := rnds 4 (BitVec.ofNat 16 (i * 4096))
theorem half_tab (c : BitVec 16) (h : Nat) : BitVec.ofNat 16 (c.toNat * 16) ^^^ tab ((c.toNat / 4096) ^^^ h) = rnds 4 (c ^^^ BitVec.ofNat 16 (h * 4096)) := by
 have e0 : c = BitVec.ofNat 16 (c.toNat / 4096 * 4096) ^^^ BitVec.ofNat 16 (c.toNat % 4096) := by
  have h1 : (c.toNat / 4096 * 4096) ^^^ (c.toNat % 4096) = c.toNat / 4096 * 4096 + c.toNat % 4096 := xor_low 12 _ _ (by omega)
  rw [← ofNat_xor, h1, show c.toNat / 4096 * 4096 + c.toNat % 4096 = c.toNat by omega]
  exact (BitVec.ofNat_toNat 16 c |>.trans (BitVec.setWidth_eq c)).symm
 have e1 : rnds 4 (BitVec.ofNat 16 (c.toNat % 4096)) = BitVec.ofNat 16 (c.toNat * 16) := by
  rw [rnds_small _ (by omega)]
  apply BitVec.eq_of_toNat_eq
  rw [BitVec.toNat_ofNat, BitVec.toNat_ofNat, show (2 : Nat) ^ 16 = 65536 from rfl]; omega
 have e2 : tab ((c.toNat / 4096) ^^^ h) = rnds 4 (BitVec.ofNat 16 (c.toNat / 4096 * 4096)) ^^^ rnds 4 (BitVec.ofNat 16 (h * 4096)) := by
  unfold tab
  rw [show (c.toNat / 4096 ^^^ h) * 4096 = (c.toNat / 4096 * 4096) ^^^ (h * 4096) from xor_mul 12 _ _, ofNat_xor, rnds_xor]
 rw [e2, ← e1]
 conv => rhs; rw [e0]
 rw [rnds_xor, rnds_xor, ← BitVec.xor_assoc, BitVec.xor_comm (rnds 4 (BitVec.ofNat 16 (c.toNat % 4096)))]
def half (c : BitVec 16) (h : Nat) : BitVec 16 := rnds 4 (c ^^^ BitVec.ofNat 16 (h * 4096))
theorem half_two (c : BitVec 16) (b : UInt8) : half (half c (b.toNat / 16)) (b.toNat % 16) = stp c b := by
 unfold half stp
 have e1 : BitVec.ofNat 16 (b.toNat % 16 * 4096) = rnds 4 (BitVec.ofNat 16 (b.toNat % 16 * 256)) := by
  rw [rnds_small _ (by omega)]; congr 1; omega
 have e2 : up b = BitVec.ofNat 16 (b.toNat / 16 * 4096) ^^^ BitVec.ofNat 16 (b.toNat % 16 * 256) := by
  have h1 : (b.toNat / 16 * 4096) ^^^ (b.toNat % 16 * 256) = b.toNat / 16 * 4096 + b.toNat % 16 * 256 := xor_low 12 _ _ (by omega)
  rw [← ofNat_xor, h1]
  exact congrArg (BitVec.ofNat 16) (show b.toNat * 256 = b.toNat / 16 * 4096 + b.toNat % 16 * 256 by omega)
 rw [e1, e2, ← rnds_xor, BitVec.xor_assoc]
 exact (rnds_add 4 4 _).symm
end Go.Proofs.YtngehojibcmieaaGreatDoor.Kr
end
section
namespace Go.Proofs.YtngehojibcmieaaGreatDoor.Kr
open Go.ChangeShapes Go.WideShapes Go.RowKit
def Hal (w : World) : Prop := 0 < w.heap.size ∧ ∀ i : Nat, i < 16 → w.cell? ⟨0, i, none⟩ = some (.int .u16 (tab i).toNat)
theorem Hal.below {w w' : World} (h : Hal w) (g : Below w.heap.size w w') : Hal w' :=
 ⟨Nat.lt_of_lt_of_le h.1 g.size, fun i hi => (g.cell (p := ⟨0, i, none⟩) h.1).trans (h.2 i hi)⟩
theorem half_index (c : BitVec 16) (h : Nat) (hh : h < 16) : ∃ k : Nat, k < 16 ∧ bits .xor .u16 ((c.toNat : Int) / 4096) (h : Int) = (k : Int) ∧
  bits .xor .u16 (IntKind.u16.wrap ((c.toNat : Int) * 16)) ((tab k).toNat : Int) = ((half c h).toNat : Int) := by
 have hc : c.toNat < 65536 := c.isLt
 have e : (2 : Nat) ^ 16 = 65536 := rfl
 refine ⟨(c.toNat / 4096) ^^^ h, Nat.xor_lt_two_pow (n := 4) (by omega) (by omega), ?_, ?_⟩
 ·have := u16_xor_nat (c.toNat / 4096) h (by omega) (by omega)
  rw [← this]; congr 1
 ·have h1 : IntKind.u16.wrap ((c.toNat : Int) * 16) = ((BitVec.ofNat 16 (c.toNat * 16)).toNat : Int) := by
   rw [IntKind.wrap_u16, BitVec.toNat_ofNat, e]; omega
  rw [h1, u16_xor_nat _ _ (BitVec.isLt _) (BitVec.isLt _), ← BitVec.toNat_xor, half_tab]
  rfl
theorem half_any (c : BitVec 16) (h : Nat) (hh : h < 16) (w : World) (hn : Hal w) :
  Calls Tryz.prog 212 #[.int .u16 c.toNat, .int .u8 h] w fun e w' => e = .returned (.int .u16 (half c h).toNat) ∧ w = w' := by
 obtain ⟨k, hk, hx, hy⟩ := half_index c h hh
 have hcell := hn.2 k hk
 obtain ⟨t, ht⟩ : ∃ t : Int, t = (tab k).toNat := ⟨_, rfl⟩
 obtain ⟨r, hr⟩ : ∃ r : Int, r = (half c h).toNat := ⟨_, rfl⟩
 rw [← ht] at hy hcell
 rw [← hr] at hy ⊢
 clear ht hr
 go_enter Tryz.func212, Tryz.ntmps212
 go_wp2
 go_ret
 exact ⟨rfl, rfl⟩
theorem half_at (c d : BitVec 16) (v : Int) (h : Nat) (hh : h < 16) (hv : v = (h : Int)) (hd : half c h = d) (w : World) (hn : Hal w) :
  Calls Tryz.prog 212 #[.int .u16 c.toNat, .int .u8 v] w fun e w' => e = .returned (.int .u16 d.toNat) ∧ w = w' := by
 subst hv hd; exact half_any c h hh w hn
def sm (n : Int) : BitVec 16 := BitVec.ofInt 16 n
theorem sm_val (n : Int) : ((sm n).toNat : Int) = n % 65536 := by
 unfold sm
 rw [BitVec.toNat_ofInt]
 simp only [show (2 ^ 16 : Nat) = 65536 from rfl]; omega
theorem crc_take (c : BitVec 16) (s : ByteArray) (k : Nat) (h : k < s.size) : crc c (s.data.toList.take (k + 1)) = stp (crc c (s.data.toList.take k)) s[k] := by
 have hk : k < s.data.toList.length := by simpa using h
 rw [List.take_succ_eq_append_getElem hk, crc_append, crc_cons, crc_nil]
 congr 1
theorem byte_lo (b : UInt8) : bits .and .u8 (b.toNat : Int) 15 = (b.toNat : Int) % 16 := by
 have h := u8_and_nat b.toNat 15 b.toNat_lt (by omega)
 have h1 : b.toNat &&& 15 = b.toNat % 16 := Nat.and_two_pow_sub_one_eq_mod b.toNat 4
 rw [h1] at h; exact h
theorem on_any (n : Int) (s : ByteArray) (hs : s.size ≤ maxLen) (w : World) (hn : Hal w) :
  Calls Tryz.prog 169 #[.int .i64 n, .string s] w fun e w' => e = .returned (.int .i64 (crc (sm n) s.data.toList).toNat) ∧ w = w' := by
 replace hs : s.size ≤ 9223372036854775807 := hs
 have H0 : Hid (IntKind.u16.wrap n = ((sm n).toNat : Int)) := by show _ = _; rw [sm_val, IntKind.wrap_u16]
 have HN := Lib.hid hn
 have hz := H0.out
 clear hn
 go_enter Tryz.func169, Tryz.ntmps169
 go_wp2
 go_loop [5, 11] (fun c i => ∃ (k : Nat) (x : BitVec 16), k ≤ s.size ∧ i = .int .i64 k ∧ c = .int .u16 x.toNat ∧ Hid (x = crc (sm n) (s.data.toList.take k))) (fun _ i => s.size - (intOf i).toNat)
 case atStart => exact ⟨0, sm n, by omega, rfl, rfl, rfl⟩
 case round =>
  obtain ⟨k, x, hk, rfl, rfl, HX⟩ := hrel
  by_cases hlt : k < s.size
  ·obtain ⟨y, hy⟩ : ∃ y, half x (s[k].toNat / 16) = y := ⟨_, rfl⟩
   obtain ⟨z, hz2⟩ : ∃ z, half y (s[k].toNat % 16) = z := ⟨_, rfl⟩
   have C1 := Lib.hid (fun W h => half_at x y ((s[k].toNat : Int) / 16) (s[k].toNat / 16) (by have := s[k].toNat_lt; omega) (by omega) hy W h)
   have C2 := Lib.hid (fun W h => half_at y z ((s[k].toNat : Int) % 16) (s[k].toNat % 16) (by omega) (by omega) hz2 W h)
   have HX2 : Hid (z = crc (sm n) (s.data.toList.take (k + 1))) := by
    show _ = _
    rw [← hz2, ← hy, half_two, crc_take _ _ _ hlt, HX.out]
   have hlo := byte_lo s[k]
   clear hy hz2 HX hz H0
   go_wp2_with fail
   refine (C1.out _ HN.out).mono ?_; rintro e w' ⟨rfl, rfl⟩
   go_wp2_with fail
   refine (C2.out _ HN.out).mono ?_; rintro e w' ⟨rfl, rfl⟩
   go_wp2
   go_round
   case rel => exact ⟨k + 1, _, by omega, by go_num, rfl, HX2⟩
   case measure => simp [intOf]; omega
  ·have hkn : k = s.size := by omega
   have HX2 : Hid (x = crc (sm n) s.data.toList) := by
    show _ = _
    rw [HX.out, List.take_of_length_le (by simp; omega)]
   go_wp2
   go_ret
   exact ⟨by rw [HX2.out]; rfl, rfl⟩
theorem of_any (s : ByteArray) (hs : s.size ≤ maxLen) (w : World) (hn : Hal w) :
  Calls Tryz.prog 124 #[.string s] w fun e w' => e = .returned (.int .i64 (crc 0#16 s.data.toList).toNat) ∧ w = w' := by
 have c := Lib.hid (on_any 0 s hs w hn)
 rw [show sm 0 = 0#16 by decide +kernel] at c
 go_enter Tryz.func124, Tryz.ntmps124
 go_wp2_with (go_at_call 169; refine c.out.mono ?_; rintro e w' ⟨rfl, rfl⟩)
 go_ret
 exact ⟨rfl, rfl⟩
theorem bs_data (l : List UInt8) : (bs l).data.toList = l := by simp [bs]
theorem app_list (a b : ByteArray) : (a ++ b).data.toList = a.data.toList ++ b.data.toList := by simp [ByteArray.data_append]
theorem conv_two (u v : Int) (x y : UInt8) (hu : u = x.toNat) (hv : v = y.toNat) : ∀ W : World,
  (convert 85 9 (.slice (some ⟨W.heap.size, 0, none⟩) 2 2)).run Tryz.prog (W.alloc (.cells #[.int .u8 u, .int .u8 v] 5)) = .ok (.string (bs [x, y])) (W.alloc (.cells #[.int .u8 u, .int .u8 v] 5)) := fun W =>
 run_convert_bytes_back (W.alloc (.cells #[.int .u8 u, .int .u8 v] 5)) 85 9 5 ⟨W.heap.size, 0, none⟩ 2 [x, y] Tryz.underlying85 Tryz.underlying5 Tryz.underlying9 (fun j hj => by
  match j, hj with
  | 0, _ => subst hu; simp [Addr.add]
  | 1, _ => subst hv; simp [Addr.add])
theorem clone_any (s : ByteArray) (hs : s.size ≤ 281474976710656) (w : World) :
  Calls Tryz.prog 81 #[.string s] w fun e w' => e = .returned (.string s) ∧ Below w.heap.size w w' := by
 have C := Lib.hid (fun W => Tryz.stringslite_Clone s W hs)
 go_enter Tryz.func81, Tryz.ntmps81
 go_wp2_with (go_at_call 125; refine (C.out _).mono ?_; rintro e w' ⟨rfl, hb⟩)
 go_ret
 exact ⟨rfl, hb⟩
def sb (l : List UInt8) : List UInt8 := [hiB (crc 0#16 l), loB (crc 0#16 l)]
theorem seal_any (s : ByteArray) (hs : s.size ≤ maxLen) (w : World) (hn : Hal w) :
  Calls Tryz.prog 80 #[.string s] w fun e w' => e = .returned (.string (bs (sb s.data.toList))) ∧ Below w.heap.size w w' := by
 have C := Lib.hid (of_any s hs w hn)
 obtain ⟨c, hc⟩ : ∃ c, crc 0#16 s.data.toList = c := ⟨_, rfl⟩
 unfold sb
 rw [hc] at C ⊢
 have hcv := conv_two ((c.toNat : Int) / 256) ((c.toNat : Int) % 256) (hiB c) (loB c) (by rw [hiB_nat]; omega) (by rw [loB_nat]; omega) w
 obtain ⟨B, hB⟩ : ∃ B, bs [hiB c, loB c] = B := ⟨_, rfl⟩
 rw [hB] at hcv ⊢
 clear hc hn hB
 go_enter Tryz.func80, Tryz.ntmps80
 go_wp2_with (go_at_call 124; refine C.out.mono ?_; rintro e w' ⟨rfl, rfl⟩)
 go_ret
 exact ⟨rfl, (Below.refl _ _).alloc (Nat.le_refl _) _⟩
theorem sb_size (l : List UInt8) : (bs (sb l)).size = 2 := by rw [bs_size]; rfl
theorem sealed_any (s : ByteArray) (hs : s.size ≤ 1000000) (w : World) (hn : Hal w) :
  Calls Tryz.prog 57 #[.string s] w fun e w' => e = .returned (.string (bs (s.data.toList ++ sb s.data.toList))) ∧ Below w.heap.size w w' := by
 have C := Lib.hid (seal_any s (by unfold maxLen; omega) w hn)
 have hz := sb_size s.data.toList
 have HE : Hid (bs (s.data.toList ++ sb s.data.toList) = s ++ bs (sb s.data.toList)) := by
  show _ = _
  rw [← bs_of (s ++ _), app_list, bs_data]
 obtain ⟨B, hB⟩ : ∃ B, bs (sb s.data.toList) = B := ⟨_, rfl⟩
 rw [hB] at C hz HE
 have hz2 : B.size ≤ 2 := by omega
 rw [HE.out]
 clear hB hz HE
 go_enter Tryz.func57, Tryz.ntmps57
 go_wp2_with (go_at_call 80; refine C.out.mono ?_; rintro e w' ⟨rfl, hb⟩)
 go_ret
 exact ⟨rfl, hb⟩
theorem below_drewN (B n : Nat) (w : World) : Below B w (w.drewN n) := ⟨rfl, rfl, rfl, Nat.le_refl _, fun _ _ => rfl⟩
theorem hal_drewN {w : World} (h : Hal w) (n : Nat) : Hal (w.drewN n) := h.below (below_drewN _ n w)
def opn (l : List UInt8) : List UInt8 × Int :=
 if l.length < 2 then ([], 2) else if l.drop (l.length - 2) = sb (l.take (l.length - 2)) then (l.take (l.length - 2), 0) else ([], 5)
theorem open_any (s : ByteArray) (hs : s.size ≤ 1000000) (w : World) (hn : Hal w) :
  Calls Tryz.prog 41 #[.string s] w fun e w' => e = .returned (.tuple #[.string (bs (opn s.data.toList).1), .int .i64 (opn s.data.toList).2]) ∧ Below w.heap.size w w' := by
 have hsz : s.data.toList.length = s.size := by simp
 by_cases h2 : s.size < 2
 ·have H : Hid (opn s.data.toList = ([], 2)) := by show _ = _; unfold opn; rw [if_pos (by omega)]
  rw [H.out]
  clear hsz H
  go_enter Tryz.func41, Tryz.ntmps41
  go_wp2
  go_ret2
  exact ⟨rfl, Below.refl _ _⟩
 obtain ⟨m, hm⟩ : ∃ m : Nat, s.size = m + 2 := ⟨s.size - 2, by omega⟩
 have hX : (s.extract 0 m).data.toList = s.data.toList.take m := by rw [Lib.extract_data]; simp
 have hY : (s.extract m (m + 2)).data.toList = s.data.toList.drop m := by
  rw [Lib.extract_data, List.take_of_length_le]
  rw [List.length_drop]; omega
 obtain ⟨X, hXe⟩ : ∃ X, s.extract 0 m = X := ⟨_, rfl⟩
 obtain ⟨Y, hYe⟩ : ∃ Y, s.extract m (m + 2) = Y := ⟨_, rfl⟩
 rw [hXe] at hX
 rw [hYe] at hY
 have hXs : X.size ≤ 1000000 := by rw [Lib.size_eq, hX, List.length_take]; omega
 have C := Lib.hid (fun W h => seal_any X (by unfold maxLen; omega) W h)
 have CC := Lib.hid (fun W => clone_any X (by omega) W)
 obtain ⟨B, hB⟩ : ∃ B, bs (sb X.data.toList) = B := ⟨_, rfl⟩
 rw [hB] at C
 have c1 : (0 : Int) ≤ (m : Int) := by omega
 have c2 : (m : Int) ≤ (m : Int) + 2 := by omega
 have c3 : ((m : Int) + 2).toNat = m + 2 := by omega
 by_cases hq : Y.data.toList = sb X.data.toList
 ·have H : Hid (opn s.data.toList = (X.data.toList, 0)) := by
   show _ = _; unfold opn
   rw [if_neg (by omega), hsz, hm, show m + 2 - 2 = m by omega, ← hY, ← hX, if_pos hq]
  rw [H.out]
  have hq2 : (Y.toList == B.toList) = true := by rw [Lib.toList_data, Lib.toList_data, ← hB, bs_data, hq, beq_self_eq_true]
  have H2 : Hid (bs X.data.toList = X) := bs_of X
  clear hsz hq hB hX hY H
  go_enter Tryz.func41, Tryz.ntmps41
  go_wp2
  go_quiet (fail)
  go_wp2_with fail
  refine (C.out _ (hal_drewN hn _)).mono ?_; rintro e w1 ⟨rfl, hb⟩
  replace hb := (below_drewN w.heap.size _ w).trans hb
  go_wp2_with fail
  refine (CC.out _).mono ?_; rintro e w2 ⟨rfl, hb2⟩
  go_wp2
  go_ret2
  exact ⟨by rw [H2.out]; rfl, hb.trans (hb2.mono hb.size)⟩
 ·have H : Hid (opn s.data.toList = ([], 5)) := by
   show _ = _; unfold opn
   rw [if_neg (by omega), hsz, hm, show m + 2 - 2 = m by omega, ← hY, ← hX, if_neg hq]
  rw [H.out]
  have hq2 : (Y.toList == B.toList) = false := by rw [Lib.toList_data, Lib.toList_data, ← hB, bs_data, beq_eq_false_iff_ne]; exact hq
  clear hsz hq hB hX hY H
  go_enter Tryz.func41, Tryz.ntmps41
  go_wp2
  go_quiet (fail)
  go_wp2_with fail
  refine (C.out _ (hal_drewN hn _)).mono ?_; rintro e w1 ⟨rfl, hb⟩
  replace hb := (below_drewN w.heap.size _ w).trans hb
  go_wp2
  go_ret2
  exact ⟨rfl, hb⟩
end Go.Proofs.YtngehojibcmieaaGreatDoor.Kr
end
