/- What is proved here: the contract of the document's Parse. Conditions: the text has at most 900000 bytes. -/
import Derived.Test.YtofmlodfhdjjiaaDoorOneR
namespace Go.Proofs.YtofmlodfhdjjiaaDoor
open Go.ChangeShapes Go.WideShapes Go.RowKit

theorem prR_last {P : List (List UInt8)} {k : Nat} {p : List UInt8} (acc : List (Int × Int × Int)) (h : k + 1 = P.length) (hp : P.getD k [] = p) : prR acc (P.drop k) = if p = [] then (acc, 0) else if acc.length = 200 then ([], 4) else ([], 3) := by
  have hk : k < P.length := by omega
  rw [List.drop_eq_getElem_cons hk, List.drop_eq_nil_of_le (by omega)]
  have : P[k] = p := by rw [← hp, List.getD_eq_getElem?_getD, List.getElem?_eq_getElem hk]; rfl
  rw [this]; rfl
theorem prR_more {P : List (List UInt8)} {k : Nat} {p : List UInt8} (acc : List (Int × Int × Int)) (h : k + 1 < P.length) (hp : P.getD k [] = p) : prR acc (P.drop k) = if acc.length = 200 then ([], 4) else if (ins p).2 ≠ 0 then ([], (ins p).2) else prR (acc ++ [(ins p).1]) (P.drop (k + 1)) := by
  have hk : k < P.length := by omega
  have hk1 : k + 1 < P.length := h
  rw [List.drop_eq_getElem_cons hk, List.drop_eq_getElem_cons hk1]
  have : P[k] = p := by rw [← hp, List.getD_eq_getElem?_getD, List.getElem?_eq_getElem hk]; rfl
  rw [this]; rfl
theorem words_any (s : ByteArray) (hs : s.size ≤ 1000000) : ∀ (a : Option Addr) (n c : Nat) (w : World), RowS w a n (pcs 32 s.data.toList) → Calls Tryd.prog 34 #[.slice a n c] w (GotI (ins s.data.toList) w) := by
  intro a n c w hr
  have hl : s.data.toList.length = s.size := by simp
  have h1 := pcs_pos 32 s.data.toList
  have h2 := pcs_len 32 s.data.toList
  have h3 := hr.1
  have := one_any a n c (pcs 32 s.data.toList) w hr (by omega) (by omega) (fun p hp => by have := pcs_mem 32 s.data.toList p hp; omega)
  rw [ins_words] at this
  exact this
set_option maxHeartbeats 2000000 in
set_option maxRecDepth 100000 in
theorem parseR_any (s : ByteArray) (hs : s.size ≤ 900000) (w : World) :
    Calls Tryd.prog 16 #[.string s] w (GotR (parse s.data.toList) w) := by
  obtain ⟨i0, hi, hz0, hz1, hz2⟩ := info_parts ins_info
  obtain ⟨R, hR⟩ : ∃ R, R = parse s.data.toList := ⟨_, rfl⟩
  rw [← hR]
  obtain ⟨P, hP⟩ : ∃ P, P = pcs 10 s.data.toList := ⟨_, rfl⟩
  have H0 : Hid (R = prR [] (P.drop 0)) := by show _ = _; rw [hR, hP, List.drop_zero, parse_R]
  have hl : s.data.toList.length = s.size := by simp
  have hP1 : 1 ≤ P.length := by rw [hP]; exact pcs_pos _ _
  have hP2 : P.length ≤ 900001 := by rw [hP]; have := pcs_len 10 s.data.toList; omega
  have HM : Hid (∀ p ∈ P, p.length ≤ 1000000) := by intro p hp; rw [hP] at hp; have := pcs_mem 10 _ p hp; omega
  have cc := fun W => cutR_any s 10 10 (by decide) (by omega) W
  rw [← hP] at cc
  have CC := Lib.hid cc
  clear hR hP cc hl
  go_enter Tryd.func16, Tryd.ntmps16
  go_wp2_with fail
  refine (CC.out _).mono ?_; rintro e w1 ⟨A, n, c, rfl, hrow, hb⟩
  have G := hb
  have hn : n = P.length := hrow.1
  have HROW := Lib.hid hrow
  have hn1 : 1 ≤ n := by omega
  have hn2 : n ≤ 900001 := by omega
  have hwn : IntKind.i64.wrap ((n : Int) - 1) = (n : Int) - 1 := IntWalk.i64_in _ (by omega)
  have HNP := Lib.hid hn
  clear hrow hb CC hn hP1 hP2
  go_wp2
  go_loopw [5, 6] (fun v i wr => ∃ (out : List (Int × Int × Int)) (k : Nat), i = .int .i64 k ∧ k ≤ n ∧ out.length ≤ 200 ∧ Hid (R = prR out (P.drop k)) ∧ wr.ownsRow w1.heap.size 24 3 v out.length (cellsI out) ∧ Below w1.heap.size w1 wr)
    (fun _ i _ => n - (intOf i).toNat)
  case atStart => exact ⟨[], 0, rfl, by omega, by simp, H0, World.ownsRow_nil _ _ _ _, Below.refl _ _⟩
  case round =>
    obtain ⟨out, k, rfl, hk, hol, HS, hown, hbl⟩ := hrel
    clear H0
    have hbs := hbl.size
    obtain ⟨A3, n3, c3, rfl, rfl, hRow⟩ := own_form hown
    by_cases hlt : k < n
    · obtain ⟨b, off, rfl, hbw, hcell⟩ := (HROW.out.below hbl).2 hn1
      obtain ⟨p, hp⟩ : ∃ p, P.getD k [] = p := ⟨_, rfl⟩
      have hck := hcell k hlt
      rw [hp] at hck
      obtain ⟨X, hX⟩ : ∃ X, X = bs p := ⟨_, rfl⟩
      rw [← hX] at hck
      have HXd : Hid (X.data.toList = p) := by show _ = _; rw [hX, bs_data]
      have hXl : X.size ≤ 1000000 := by
        rw [hX, bs_size, ← hp]
        have hkl : k < P.length := by rw [← HNP.out]; exact hlt
        refine HM.out _ ?_
        rw [List.getD_eq_getElem?_getD, List.getElem?_eq_getElem hkl]; exact List.getElem_mem hkl
      clear hcell hX
      by_cases hlast : k + 1 = n
      · have HS' := HS.out
        rw [prR_last out (by rw [← HNP.out]; exact hlast) hp] at HS'
        have e1 : ((k : Int) == (n : Int) - 1) = true := by rw [beq_iff_eq]; omega
        have e1' : (k : Int) = (n : Int) - 1 := by omega
        by_cases hpe : p = []
        · rw [if_pos hpe] at HS'
          have HQ := Lib.hid HS'
          have e2 : (X.toList == []) = true := by rw [Lib.toList_data, HXd.out, hpe]; rfl
          have e3 : X.toList.isEmpty = true := by rw [Lib.toList_data, HXd.out, hpe]; rfl
          clear HS' HS hpe hp e1'
          go_wp2
          go_ret2
          rw [HQ.out]
          exact ⟨_, _, _, rfl, hRow, keep_below G hbl⟩
        · rw [if_neg hpe] at HS'
          have e2 : (X.toList == []) = false := by rw [Lib.toList_data, HXd.out]; simpa using hpe
          have e3 : X.toList.isEmpty = false := by rw [Lib.toList_data, HXd.out]; simpa using hpe
          by_cases h200 : out.length = 200
          · rw [if_pos h200] at HS'
            have HQ := Lib.hid HS'
            have g1 : (out.length == 200) = true := by simpa using h200
            have g2 : ((out.length : Int) == 200) = true := by rw [beq_iff_eq]; omega
            clear HS' HS hpe hp e1' h200 hRow
            go_wp2
            go_ret2
            rw [HQ.out]
            exact ⟨none, 0, 0, rfl, RowI.nil _ _, keep_below G hbl⟩
          · rw [if_neg h200] at HS'
            have HQ := Lib.hid HS'
            have g1 : (out.length == 200) = false := by rw [beq_eq_false_iff_ne]; omega
            have g2 : ((out.length : Int) == 200) = false := by rw [beq_eq_false_iff_ne]; omega
            clear HS' HS hpe hp e1' h200 hRow
            go_wp2
            go_ret2
            rw [HQ.out]
            exact ⟨none, 0, 0, rfl, RowI.nil _ _, keep_below G hbl⟩
      · have HS' := HS.out
        rw [prR_more out (by rw [← HNP.out]; omega) hp] at HS'
        have e1 : ((k : Int) == (n : Int) - 1) = false := by rw [beq_eq_false_iff_ne]; omega
        by_cases h200 : out.length = 200
        · rw [if_pos h200] at HS'
          have HQ := Lib.hid HS'
          have g1 : (out.length == 200) = true := by simpa using h200
          have g2 : ((out.length : Int) == 200) = true := by rw [beq_iff_eq]; omega
          clear HS' HS hp h200 hRow
          go_wp2
          go_ret2
          rw [HQ.out]
          exact ⟨none, 0, 0, rfl, RowI.nil _ _, keep_below G hbl⟩
        · rw [if_neg h200] at HS'
          have g1 : (out.length == 200) = false := by rw [beq_eq_false_iff_ne]; omega
          have g2 : ((out.length : Int) == 200) = false := by rw [beq_eq_false_iff_ne]; omega
          have hol2 : out.length + 1 ≤ 200 := by omega
          obtain ⟨⟨⟨o, a, b'⟩, E⟩, hD⟩ : ∃ r, r = ins p := ⟨_, rfl⟩
          rw [← hD] at HS'
          have cx := fun W => cutR_any X 32 32 (by decide) hXl W
          have CX := Lib.hid cx
          have c1 := words_any X hXl
          rw [HXd.out, ← hD] at c1
          rw [HXd.out] at CX
          have C1 := Lib.hid c1
          clear cx c1 hD hp HS hRow h200
          by_cases he : E = 0
          · subst he
            have HS2 : Hid (R = prR (out ++ [(o, a, b')]) (P.drop (k + 1))) := by show _ = _; rw [HS']; simp
            clear HS'
            go_wp2_with fail
            refine (CX.out _).mono ?_; rintro e w2 ⟨A2, n2, c2, rfl, hr2, hb2⟩
            have hown1 := own_below hown hb2
            replace hbl := keep_below hbl hb2
            clear hown hb2 hbs hck
            go_wp2_with fail
            refine (C1.out _ _ _ _ hr2).mono ?_; rintro e w4 ⟨rfl, hb4⟩
            replace hown1 := own_below hown1 hb4
            replace hbl := keep_below hbl hb4
            clear hb4 hr2 CX C1
            have hbs := hbl.size
            go_wp2_with (at_builtin; refine wpList_append_own _ rfl _ _ 22 rfl w1.heap.size 24 i0 (.agg #[.int .i64 0, .int .i64 0, .int .i64 0]) 3 24 Tryd.underlying22 hi hz0 hz1 hz2 rfl (by decide) _ _ _ rfl ((hown1.alloc _).alloc _) ⟨w4.heap.size + 1, 0, none⟩ 1 1 [.int .i64 o, .int .i64 a, .int .i64 b'] rfl rfl ?c1 ?c2 ?c3 ?c4 ?c5 ?_)
            case c1 =>
              intro j u hj
              match j, hj with
              | 0, hj => simp at hj; subst hj; simp [Addr.add]
              | 1, hj => simp at hj; subst hj; simp [Addr.add]
              | 2, hj => simp at hj; subst hj; simp [Addr.add]
            case c2 => intro u hu; simp at hu; rcases hu with rfl | rfl | rfl <;> rfl
            case c3 => unfold maxLen; omega
            case c4 => omega
            case c5 => simp; omega
            intro v' w5 hown' hgrow _
            have hb1 : Below w1.heap.size w1 w5 := ((hbl.alloc (by omega) _).alloc (by simp; omega) _).grown hgrow (by simp; omega) (fun g hg => (hown1.lt g hg).1)
            have hown2 : w5.ownsRow w1.heap.size 24 3 v' (out ++ [(o, a, b')]).length (cellsI (out ++ [(o, a, b')])) := by
              rw [cellsI_snoc, List.length_append]; exact hown'
            clear hown' hgrow hbl hown1
            go_wp2
            go_roundw
            case rel => exact ⟨out ++ [(o, a, b')], k + 1, by go_num, by omega, by simp; omega, HS2, hown2, hb1⟩
            case measure => simp [intOf]; omega
          · have HQ : Hid (R = ([], E)) := by show _ = _; rw [HS']; simp [he]
            have hE1 : (E != 0) = true := by simpa using he
            clear HS' he
            go_wp2_with fail
            refine (CX.out _).mono ?_; rintro e w2 ⟨A2, n2, c2, rfl, hr2, hb2⟩
            replace hbl := keep_below hbl hb2
            clear hb2 hck
            go_wp2_with fail
            refine (C1.out _ _ _ _ hr2).mono ?_; rintro e w4 ⟨rfl, hb4⟩
            replace hbl := keep_below hbl hb4
            clear hb4 hr2 CX C1
            go_wp2
            go_ret2
            rw [HQ.out]
            exact ⟨none, 0, 0, rfl, RowI.nil _ _, (keep_below G hbl).alloc (by have := (keep_below G hbl).size; omega) _⟩
    · have HQ : Hid (R = (out, 0)) := by
        show _ = _
        rw [HS.out, List.drop_eq_nil_of_le (by rw [← HNP.out]; omega)]; rfl
      clear HS
      go_wp2
      go_ret2
      rw [HQ.out]
      exact ⟨_, _, _, rfl, hRow, keep_below G hbl⟩
end Go.Proofs.YtofmlodfhdjjiaaDoor
