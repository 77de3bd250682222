/- What is proved here: the contract of the document's Number. Conditions: the string is no longer than a million bytes. -/
import Derived.Test.YtofmlodfhdjjiaaDoorDg2
namespace Go.Proofs.YtofmlodfhdjjiaaDoor
open Go.ChangeShapes Go.WideShapes Go.RowKit

/-- A number with one digit more, as 64 bits hold it. -/
def stepR (neg : Bool) (x : Int) (b : UInt8) : Int := if b = 45 then x else if neg = true then wrap64 (10 * x - ((b.toNat : Int) - 48)) else wrap64 (10 * x + ((b.toNat : Int) - 48))
/-- The same without bounds. -/
def stepE (neg : Bool) (x : Int) (b : UInt8) : Int := if b = 45 then x else if neg = true then 10 * x - ((b.toNat : Int) - 48) else 10 * x + ((b.toNat : Int) - 48)
def nR (l : List UInt8) : Int := (l.take 30).foldl (stepR (l.head? == some 45)) 0
theorem wrap_add (a c : Int) : wrap64 (10 * wrap64 a + c) = wrap64 (10 * a + c) := by unfold wrap64; omega
theorem wrap_sub (a c : Int) : wrap64 (10 * wrap64 a - c) = wrap64 (10 * a - c) := by unfold wrap64; omega
theorem step_wrap (neg : Bool) (x : Int) (b : UInt8) : stepR neg (wrap64 x) b = wrap64 (stepE neg x b) := by
  unfold stepR stepE
  split
  · rfl
  · split
    · exact wrap_sub _ _
    · exact wrap_add _ _
theorem fold_wrap (neg : Bool) (l : List UInt8) : ∀ x, l.foldl (stepR neg) (wrap64 x) = wrap64 (l.foldl (stepE neg) x) := by
  induction l with
  | nil => intro x; rfl
  | cons b l ih => intro x; rw [List.foldl_cons, List.foldl_cons, step_wrap, ih]
theorem wrap_zero : wrap64 0 = 0 := by decide +kernel
theorem byte45 {b : UInt8} (h : b.toNat ≠ 45) : b ≠ 45 := fun e => h (by rw [e]; rfl)
theorem fold_digits (neg : Bool) (u : Nat) : (Lib.decDigits u).foldl (stepE neg) 0 = if neg = true then -(u : Int) else u := by
  induction u using Nat.strongRecOn with
  | _ u ih =>
    by_cases h : 10 ≤ u
    · rw [dec_step h, List.foldl_append, ih (u / 10) (by omega)]
      have hv := dgB_val (d := u % 10) (by omega)
      have h45 : dgB (u % 10) ≠ 45 := byte45 (by omega)
      simp only [List.foldl_cons, List.foldl_nil, stepE]
      rw [if_neg h45]
      cases neg
      · simp only [Bool.false_eq_true, if_false]; omega
      · simp only [if_true]; omega
    · rw [dec_last (by omega)]
      have hv := dgB_val (d := u) (by omega)
      have h45 : dgB u ≠ 45 := byte45 (by omega)
      simp only [List.foldl_cons, List.foldl_nil, stepE]
      rw [if_neg h45]
      cases neg
      · simp only [Bool.false_eq_true, if_false]; omega
      · simp only [if_true]; omega
theorem wrap_fits {n : Int} (h : Fits n) : wrap64 n = n := by obtain ⟨h1, h2⟩ := h; unfold wrap64; omega
theorem nR_itoa {n : Int} (hf : Fits n) : nR (Lib.itoa n) = n := by
  have hl := itoa_len hf
  unfold nR
  rw [List.take_of_length_le (by omega)]
  have hw : ∀ neg, (Lib.itoa n).foldl (stepR neg) 0 = wrap64 ((Lib.itoa n).foldl (stepE neg) 0) := fun neg => by
    have := fold_wrap neg (Lib.itoa n) 0
    rw [wrap_zero] at this; exact this
  rw [hw]
  have hfw := wrap_fits hf
  by_cases hn : n < 0
  · obtain ⟨u, rfl⟩ : ∃ u : Nat, n = -(u : Int) := ⟨n.natAbs, by omega⟩
    rw [itoa_n (by omega)]
    have e : (some (45 : UInt8) == some 45) = true := by decide
    simp only [List.head?_cons, e, List.foldl_cons]
    rw [show stepE true 0 45 = 0 from rfl, fold_digits, if_pos rfl, hfw]
  · obtain ⟨u, rfl⟩ : ∃ u : Nat, n = (u : Int) := ⟨n.toNat, by omega⟩
    rw [itoa_p]
    have hd : ((Lib.decDigits u).head? == some 45) = false := by
      cases h : Lib.decDigits u with
      | nil => rfl
      | cons c r =>
        have := digits_mem u c (by rw [h]; simp)
        have h45 : c ≠ 45 := byte45 (by omega)
        simp [h45]
    rw [hd, fold_digits, if_neg (by decide), hfw]
theorem wrap_range (x : Int) : Fits (wrap64 x) := by unfold wrap64 Fits; omega
theorem step_fits {neg : Bool} {x : Int} (h : Fits x) (b : UInt8) : Fits (stepR neg x b) := by
  unfold stepR
  split
  · exact h
  · split <;> exact wrap_range _
theorem num_R (l : List UInt8) (x : Int) (hx : x = nR l) (hf : Fits x) : num l = if Lib.itoa x = l then (x, 0) else (0, 3) := by
  split
  · rename_i h
    have := num_itoa hf
    rw [h] at this; exact this
  · rename_i h
    rcases num_cases l with ⟨n, h1, h2, h3⟩ | h1
    · exfalso
      apply h
      have := nR_itoa h3
      rw [h2, ← hx] at this
      rw [this]; exact h2
    · exact h1
theorem fold_take {l : List UInt8} {k : Nat} (h : k < l.length) (neg : Bool) : (l.take (k + 1)).foldl (stepR neg) 0 = stepR neg ((l.take k).foldl (stepR neg) 0) l[k] := by
  rw [List.take_add_one, List.foldl_append, List.getElem?_eq_getElem h]; rfl
set_option maxHeartbeats 1000000 in
set_option maxRecDepth 100000 in
theorem numberR_any (s : ByteArray) (hs : s.size ≤ 1000000) (w : World) :
    Calls Tryd.prog 18 #[.string s] w (Two2 (num s.data.toList) w) := by
  obtain ⟨R, hR⟩ : ∃ R, R = num s.data.toList := ⟨_, rfl⟩
  rw [← hR]
  have HR := Lib.hid hR
  obtain ⟨neg, hneg⟩ : ∃ neg, neg = (s.data.toList.head? == some 45) := ⟨_, rfl⟩
  have HN := Lib.hid hneg
  clear hR hneg
  go_enter Tryd.func18, Tryd.ntmps18
  go_wp2
  go_loopw [4, 5] (fun n i wr => ∃ (k : Nat) (x : Int), k ≤ s.size ∧ k ≤ 30 ∧ i = .int .i64 k ∧ n = .int .i64 x ∧ Hid (Fits x) ∧ Hid (x = (s.data.toList.take k).foldl (stepR neg) 0) ∧ w = wr) (fun _ i _ => s.size - (intOf i).toNat)
  case atStart => exact ⟨0, 0, by omega, by omega, rfl, rfl, fits0, rfl, rfl⟩
  case round =>
    obtain ⟨k, x, hk, hk2, rfl, rfl, HF, HX, rfl⟩ := hrel
    by_cases hlt : k < s.size ∧ k < 30
    · obtain ⟨hlt, h30⟩ := hlt
      have h0 : 0 < s.size := by omega
      have hst := fold_take (l := s.data.toList) (k := k) (by simpa using hlt) neg
      rw [byte_list s k hlt, ← HX.out] at hst
      have HF2 := Lib.hid (step_fits (neg := neg) HF.out s[k])
      have hn0 : (s[0] = 45) ↔ neg = true := by
        rw [HN.out]
        have : s.data.toList.head? = some s[0] := by rw [List.head?_eq_getElem?, List.getElem?_eq_getElem (by simpa using h0)]; rfl
        rw [this]; simp
      have d1 : decide ((k : Int) < 30) = true := by simp; omega
      clear HX HR HN
      by_cases h45 : s[k] = 45
      · have HX2 : Hid (x = (s.data.toList.take (k + 1)).foldl (stepR neg) 0) := by
          show _ = _
          rw [hst]; unfold stepR; rw [if_pos h45]
        clear hst HF2 hn0
        go_wp2
        go_roundw
        case rel => exact ⟨k + 1, x, by omega, by omega, by go_num, rfl, HF, HX2, trivial⟩
        case measure => simp [intOf]; omega
      · have g1 : ¬ s[k].toNat = 45 := fun e => h45 (UInt8.toNat_inj.1 e)
        have g2 : (s[k].toNat == 45) = false := by rw [beq_eq_false_iff_ne]; omega
        have g3 : ((s[k].toNat : Int) == 45) = false := by rw [beq_eq_false_iff_ne]; omega
        obtain ⟨y1, hy1⟩ : ∃ y1, wrap64 (10 * x) = y1 := ⟨_, rfl⟩
        by_cases hn : neg = true
        · have hs0 := hn0.2 hn
          obtain ⟨y, hy⟩ : ∃ y, wrap64 (y1 - ((s[k].toNat : Int) - 48)) = y := ⟨_, rfl⟩
          have hyr : stepR neg x s[k] = y := by
            unfold stepR
            rw [if_neg h45, if_pos hn, ← hy, ← hy1]; unfold wrap64; omega
          rw [hyr] at hst HF2
          have HX2 : Hid (y = (s.data.toList.take (k + 1)).foldl (stepR neg) 0) := hst.symm
          clear hst hyr hn0 hn HF
          go_wp2
          go_roundw
          case rel => exact ⟨k + 1, y, by omega, by omega, by go_num, by rw [show wrap64 (y1 - wrap64 (wrap64 (s[k].toNat : Int) - 48)) = y from by rw [← hy]; have := s[k].toNat_lt; unfold wrap64; omega], HF2, HX2, trivial⟩
          case measure => simp [intOf]; omega
        · have hs0 : ¬ s[0] = 45 := fun e => hn (hn0.1 e)
          have z1 : ¬ s[0].toNat = 45 := fun e => hs0 (UInt8.toNat_inj.1 e)
          have z2 : (s[0].toNat == 45) = false := by rw [beq_eq_false_iff_ne]; omega
          have z3 : ((s[0].toNat : Int) == 45) = false := by rw [beq_eq_false_iff_ne]; omega
          obtain ⟨y2, hy2⟩ : ∃ y2, wrap64 (y1 + (s[k].toNat : Int)) = y2 := ⟨_, rfl⟩
          obtain ⟨y, hy⟩ : ∃ y, wrap64 (y2 - 48) = y := ⟨_, rfl⟩
          have hyr : stepR neg x s[k] = y := by
            unfold stepR
            rw [if_neg h45, if_neg hn, ← hy, ← hy2, ← hy1]; unfold wrap64; omega
          rw [hyr] at hst HF2
          have HX2 : Hid (y = (s.data.toList.take (k + 1)).foldl (stepR neg) 0) := hst.symm
          clear hst hyr hn0 hn HF
          go_wp2
          go_roundw
          case rel => exact ⟨k + 1, y, by omega, by omega, by go_num, by rw [show wrap64 (wrap64 (y1 + wrap64 (s[k].toNat : Int)) - 48) = y from by rw [← hy, ← hy2]; have := s[k].toNat_lt; unfold wrap64; omega], HF2, HX2, trivial⟩
          case measure => simp [intOf]; omega
    · have hnr : x = nR s.data.toList := by
        rw [HX.out]
        unfold nR
        rw [← HN.out]
        rcases Nat.lt_or_ge k 30 with h30 | h30
        · have hks : k = s.size := by omega
          rw [List.take_of_length_le (by rw [← Lib.size_eq]; omega), List.take_of_length_le (by rw [← Lib.size_eq]; omega)]
        · rw [show k = 30 by omega]
      have hnum := num_R _ x hnr HF.out
      rw [← HR.out] at hnum
      have CD := Lib.hid (fun W => digits_any x HF.out W)
      obtain ⟨S, hS⟩ : ∃ S, S = bs (Lib.itoa x) := ⟨_, rfl⟩
      rw [← hS] at CD
      have hcase : (k < s.size ∧ decide ((k : Int) < s.size) = true ∧ decide ((k : Int) < 30) = false) ∨ (¬ k < s.size ∧ decide ((k : Int) < s.size) = false) := by
        rcases Nat.lt_or_ge k s.size with h | h
        · exact Or.inl ⟨h, by simp; omega, by simp; omega⟩
        · exact Or.inr ⟨by omega, by simp; omega⟩
      by_cases he : Lib.itoa x = s.data.toList
      · rw [if_pos he] at hnum
        have eS : S = s := by rw [hS, he, bs_of]
        rw [eS] at CD
        have HQ := Lib.hid hnum
        clear hnum he hS eS HX HN HR hnr HF hlt
        rcases hcase with ⟨c1, c2, c3⟩ | ⟨c1, c2⟩
        all_goals
          go_wp2_with (go_at_call 28; refine (CD.out _).mono ?_; rintro e w2 ⟨rfl, hb⟩)
          go_ret2
          rw [HQ.out]
          exact ⟨rfl, hb⟩
      · rw [if_neg he] at hnum
        have eS : (S.toList == s.toList) = false := by
          rw [beq_eq_false_iff_ne, Lib.toList_data, Lib.toList_data, hS, bs_data]; exact he
        have HQ := Lib.hid hnum
        clear hnum he hS HX HN HR hnr HF hlt
        rcases hcase with ⟨c1, c2, c3⟩ | ⟨c1, c2⟩
        all_goals
          go_wp2_with (go_at_call 28; refine (CD.out _).mono ?_; rintro e w2 ⟨rfl, hb⟩)
          go_ret2
          rw [HQ.out]
          exact ⟨rfl, hb⟩
end Go.Proofs.YtofmlodfhdjjiaaDoor
