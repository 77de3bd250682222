/- What is proved here: the walk of the law CrcOpens. Condition: the table of half bytes holds what it is laid as. -/
import Derived.Test.YtdkhefloooadhaaDoorW2
import Derived.RegionTactic
import Derived.ChangeAlike
import Derived.BigRegion
namespace Go.Proofs.YtdkhefloooadhaaDoor
open Go.ChangeShapes Go.WideShapes Go.RowKit

theorem byte_split (s : ByteArray) (j : Nat) (h : j + 1 < s.size) : s.data.toList = s.data.toList.take j ++ [s[j], s[j + 1]] ++ s.data.toList.drop (j + 2) := by
  have h1 : j < s.data.toList.length := by simpa using (show j < s.size by omega)
  have h2 : j + 1 < s.data.toList.length := by simpa using h
  have e : s.data.toList.drop j = s[j] :: s[j + 1] :: s.data.toList.drop (j + 2) := by
    rw [List.drop_eq_getElem_cons h1, List.drop_eq_getElem_cons h2]; rfl
  rw [List.append_assoc, List.cons_append, List.cons_append, List.nil_append, ← e, List.take_append_drop]
/-- What is opened has the sum 0. -/
theorem opn_crc (l : List UInt8) (h : 2 ≤ l.length) : ((opn l).2 = 0 ↔ crc 0#16 l = 0#16) ∧ ((opn l).2 = 0 ∨ (opn l).2 = 5) := by
  have hl : (l.drop (l.length - 2)).length = 2 := by rw [List.length_drop]; omega
  obtain ⟨x, y, hxy⟩ : ∃ x y, l.drop (l.length - 2) = [x, y] := by
    match l.drop (l.length - 2), hl with
    | [x, y], _ => exact ⟨x, y, rfl⟩
  have e : crc 0#16 l = crc (crc 0#16 (l.take (l.length - 2))) [x, y] := by
    rw [← hxy, ← crc_append, List.take_append_drop]
  unfold opn
  rw [if_neg (by omega), hxy]
  by_cases hq : [x, y] = sb (l.take (l.length - 2))
  · rw [if_pos hq]
    refine ⟨⟨fun _ => ?_, fun _ => rfl⟩, Or.inl rfl⟩
    rw [e, hq]; exact crc_back _
  · rw [if_neg hq]
    refine ⟨⟨fun h => by simp at h, fun h => ?_⟩, Or.inr rfl⟩
    rw [e] at h
    obtain ⟨h1, h2⟩ := crc_back_iff _ _ _ h
    exact absurd (by rw [h1, h2]; rfl) hq
theorem opn_seal (l : List UInt8) : opn (l ++ sb l) = (l, 0) := by
  unfold opn
  have hl : (l ++ sb l).length = l.length + 2 := by simp [sb]
  rw [if_neg (by omega), hl, show l.length + 2 - 2 = l.length by omega, List.drop_left, List.take_left, if_pos rfl]
theorem crc_seal (l : List UInt8) : crc 0#16 (l ++ sb l) = 0#16 := by rw [crc_append]; exact crc_back _
theorem xor_byte (x y : UInt8) : bits .xor .u8 (x.toNat : Int) (y.toNat : Int) = ((x ^^^ y).toNat : Int) := by
  rw [u8_xor_nat _ _ x.toNat_lt y.toNat_lt, UInt8.toNat_xor]
theorem xor_same (x y : UInt8) (h : x ^^^ y = x) : y = 0 := by
  have : x ^^^ (x ^^^ y) = x ^^^ x := by rw [h]
  rwa [← UInt8.xor_assoc, UInt8.xor_self, UInt8.zero_xor] at this

set_option maxHeartbeats 1000000 in
set_option maxRecDepth 100000 in
theorem opens_walk (s : ByteArray) (k t : Nat) (hs : s.size ≤ maxLen) (hk : k < 65536) (ht : t < 65536) (w : World) (hn : Hal w) :
    Calls Tryd.prog 5 #[.string s, .int .u16 k, .int .u16 t] w fun e w' => e = .returned (.bool true) ∧ Below w.heap.size w w' := by
  replace hs : s.size ≤ 9223372036854775807 := hs
  have KN := Lib.hid known_any
  by_cases h2 : 500 < s.size
  · go_enter Tryd.func5, Tryd.ntmps5
    go_wp2_with (go_at_call 10; refine (KN.out _ hn).mono ?_; rintro e w' ⟨rfl, hb⟩)
    go_ret
    exact ⟨rfl, hb⟩
  have h3 : s.size ≤ 500 := by omega
  clear h2 hs
  obtain ⟨T, hT⟩ : ∃ T : ByteArray, T.data.toList = s.data.toList ++ sb s.data.toList := ⟨bs _, bs_data _⟩
  have hTs : T.size = s.size + 2 := by rw [Lib.size_eq, hT]; simp [sb]
  have hT1 : 2 ≤ T.size := by omega
  have hT2 : T.size ≤ 502 := by omega
  have C1 := Lib.hid (sealed_at (s := s) (t := T) (by omega) hT.symm)
  have C2 := Lib.hid (open_at (s := T) (t := s) (e := 0) (by omega) (by rw [hT, opn_seal]))
  have C3 := Lib.hid (of_at (s := T) (n := 0) (by omega) (by rw [hT, crc_seal]; rfl))
  obtain ⟨j, hj⟩ : ∃ j : Nat, (k : Int) % ((T.size : Int) - 1) = j := ⟨((k : Int) % ((T.size : Int) - 1)).toNat, by have := Int.emod_nonneg (k : Int) (show ((T.size : Int) - 1) ≠ 0 by omega); omega⟩
  have hj2 : j + 1 < T.size := by have := Int.emod_lt_of_pos (k : Int) (show 0 < ((T.size : Int) - 1) by omega); omega
  have hj1 : j < T.size := by omega
  have c1 : (0 : Int) ≤ (j : Int) := by omega
  have c2 : (j : Int) < (T.size : Int) := by omega
  have c2' : (j : Int) ≤ (T.size : Int) := by omega
  have c3 : IntKind.i64.wrap ((j : Int) + 1) = (j : Int) + 1 := IntWalk.i64_in _ (by omega)
  have c4 : ((j : Int) + 1).toNat = j + 1 := by omega
  have c5 : (j : Int) + 1 < (T.size : Int) := by omega
  have c6 : IntKind.i64.wrap ((j : Int) + 2) = (j : Int) + 2 := IntWalk.i64_in _ (by omega)
  have c7 : ((j : Int) + 2).toNat = j + 2 := by omega
  have c8 : (j : Int) + 2 ≤ (T.size : Int) := by omega
  have c9 : (0 : Int) ≤ (j : Int) + 1 := by omega
  have c10 : (0 : Int) ≤ (j : Int) + 2 := by omega
  clear hTs
  obtain ⟨p, hp⟩ : ∃ p : UInt8, (t : Int) / 256 = (p.toNat : Int) := u8_of _ (by omega) (by omega)
  obtain ⟨q, hq⟩ : ∃ q : UInt8, (t : Int) % 256 = (q.toNat : Int) := u8_of _ (by omega) (by omega)
  obtain ⟨x, hx⟩ : ∃ x, T[j] ^^^ p = x := ⟨_, rfl⟩
  obtain ⟨y, hy⟩ : ∃ y, T[j + 1] ^^^ q = y := ⟨_, rfl⟩
  have x1 : bits .xor .u8 (T[j].toNat : Int) ((t : Int) / 256) = (x.toNat : Int) := by rw [hp, xor_byte, hx]
  have x2 : bits .xor .u8 (T[j + 1].toNat : Int) ((t : Int) % 256) = (y.toNat : Int) := by rw [hq, xor_byte, hy]
  obtain ⟨B, hB⟩ : ∃ B, bs [x, y] = B := ⟨_, rfl⟩
  have hBs : B.size ≤ 2 := by rw [← hB, bs_size]; exact Nat.le_refl _
  have HCV : Hid (∀ W : World, (convert 32 9 (.slice (some ⟨W.heap.size, 0, none⟩) 2 2)).run Tryd.prog ((W.alloc (.cells #[.int .u8 x.toNat, .int .u8 y.toNat] 5)).drew) = .ok (.string B) ((W.alloc (.cells #[.int .u8 x.toNat, .int .u8 y.toNat] 5)).drew)) := fun W => by
    have hcv := conv_two x.toNat y.toNat x y rfl rfl W.drew
    rw [hB] at hcv
    exact hcv
  obtain ⟨P, hP⟩ : ∃ P, T.extract 0 j = P := ⟨_, rfl⟩
  obtain ⟨Q, hQ⟩ : ∃ Q, T.extract (j + 2) T.size = Q := ⟨_, rfl⟩
  have hPs : P.size ≤ 502 := by rw [← hP]; simp; omega
  have hQs : Q.size ≤ 502 := by rw [← hQ]; simp; omega
  have hPl : P.data.toList = T.data.toList.take j := by rw [← hP, Lib.extract_data]; simp
  have hQl : Q.data.toList = T.data.toList.drop (j + 2) := by
    rw [← hQ, Lib.extract_data, List.take_of_length_le]
    simp
  have hVl : (P ++ B ++ Q).data.toList = T.data.toList.take j ++ [x, y] ++ T.data.toList.drop (j + 2) := by rw [app_list, app_list, hPl, hQl, ← hB, bs_data]
  obtain ⟨E, hE⟩ : ∃ E : Int, (opn (P ++ B ++ Q).data.toList).2 = E := ⟨_, rfl⟩
  obtain ⟨L, hL⟩ : ∃ L : ByteArray, (opn (P ++ B ++ Q).data.toList).1 = L.data.toList := ⟨bs _, (bs_data _).symm⟩
  have C4 := Lib.hid (open_at (s := P ++ B ++ Q) (t := L) (e := E) (by simp; omega) (by rw [← hE, ← hL]))
  have hEt : (t = 0 → E = 0) ∧ (t ≠ 0 → E = 5) := by
    have h := opn_crc (P ++ B ++ Q).data.toList (by rw [hVl]; simp; omega)
    rw [hE] at h
    have hm := crc_mid (T.data.toList.take j) (T.data.toList.drop (j + 2)) x y T[j] T[j + 1] 0#16
    rw [← byte_split T j hj2, ← hVl, hT, crc_seal] at hm
    constructor
    · intro h0
      subst h0
      have p0 : p = 0 := UInt8.toNat_inj.1 (by have : (p.toNat : Int) = 0 := by rw [← hp]; rfl
                                               simpa using this)
      have q0 : q = 0 := UInt8.toNat_inj.1 (by have : (q.toNat : Int) = 0 := by rw [← hq]; rfl
                                               simpa using this)
      refine h.1.2 (hm.2 ⟨?_, ?_⟩)
      · rw [← hx, p0]; exact UInt8.xor_zero
      · rw [← hy, q0]; exact UInt8.xor_zero
    · intro h0
      refine h.2.resolve_left fun h5 => h0 ?_
      obtain ⟨e1, e2⟩ := hm.1 (h.1.1 h5)
      rw [← hx] at e1
      rw [← hy] at e2
      have p0 := xor_same _ _ e1
      have q0 := xor_same _ _ e2
      rw [p0] at hp
      rw [q0] at hq
      have a1 : (t : Int) / 256 = 0 := hp
      have a2 : (t : Int) % 256 = 0 := hq
      omega
  obtain ⟨b, hb0, hE2⟩ : ∃ b : Bool, ((t : Int) == 0) = b ∧ E = if b then 0 else 5 := by
    by_cases h0 : t = 0
    · exact ⟨true, by rw [h0]; rfl, hEt.1 h0⟩
    · exact ⟨false, by rw [beq_eq_false_iff_ne]; omega, hEt.2 h0⟩
  clear hEt hE hL hVl hPl hQl hB hx hy hp hq hT
  have G := Below.refl w.heap.size w
  cases b
  all_goals
    simp only [Bool.false_eq_true, if_true, if_false] at hE2
    subst hE2
    go_enter Tryd.func5, Tryd.ntmps5
    go_wp2_with fail
    refine (C1.out _ hn).mono ?_; rintro e w1 ⟨rfl, hb⟩
    replace G := G.trans (hb.mono G.size); replace hn := hn.below hb; clear hb
    go_wp2_with fail
    refine (C2.out _ hn).mono ?_; rintro e w2 ⟨rfl, hb⟩
    replace G := G.trans (hb.mono G.size); replace hn := hn.below hb; clear hb
    go_wp2_with fail
    refine (C3.out _ hn).mono ?_; rintro e w' ⟨rfl, rfl⟩
    have hcv := HCV.out w2
    have G1 : Below w.heap.size w (w2.alloc (.cells #[.int .u8 x.toNat, .int .u8 y.toNat] 5)).drew := (G.alloc G.size _).drew
    have hn1 : Hal (w2.alloc (.cells #[.int .u8 x.toNat, .int .u8 y.toNat] 5)).drew := hn.below (((Below.refl _ _).alloc (Nat.le_refl _) _).drew)
    go_wp2_with fail
    go_region
    clear hcv
    generalize (w2.alloc (.cells #[.int .u8 x.toNat, .int .u8 y.toNat] 5)).drew = w3 at G1 hn1 ⊢
    go_wp2_with fail
    refine (C4.out _ hn1).mono ?_; rintro e w4 ⟨rfl, hb⟩
    replace G1 := G1.trans (hb.mono G1.size); replace hn1 := hn1.below hb; clear hb
    go_wp2_with fail
    refine (KN.out _ hn1).mono ?_; rintro e w5 ⟨rfl, hb⟩
    go_wp2
    go_ret
    exact ⟨rfl, G1.trans (hb.mono G1.size)⟩
end Go.Proofs.YtdkhefloooadhaaDoor
