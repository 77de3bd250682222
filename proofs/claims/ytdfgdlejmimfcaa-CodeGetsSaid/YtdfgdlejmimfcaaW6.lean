/- What is proved here: the contract of the document's GetList, and the walk of the law CodeGets. Conditions: none beyond those each theorem states. -/
import Derived.Test.YtdfgdlejmimfcaaRefGet
namespace Go.Proofs.Ytdfgdlejmimfcaa
open Go.ChangeShapes Go.WideShapes Go.RowKit

set_option maxHeartbeats 2000000 in
set_option maxRecDepth 100000 in
theorem getListR_any (s : ByteArray) (p most : Int) (w : World) (hs : s.size ≤ 1000000) :
    Calls Try.prog 19 #[.string s, .int .i64 p, .int .i64 most] w (GotL (getL s.data.toList p most) w) := by
  have hlen : (s.data.toList.length : Int) = s.size := by simp
  have cG := getR_any s p hs
  obtain ⟨N, hN⟩ : ∃ N, N = gN s.data.toList p := ⟨_, rfl⟩
  obtain ⟨T, hT⟩ : ∃ T, T = gT s.data.toList p := ⟨_, rfl⟩
  obtain ⟨E, hE⟩ : ∃ E, E = gE s.data.toList p := ⟨_, rfl⟩
  rw [← hN, ← hT, ← hE] at cG
  have CG := Lib.hid cG
  clear cG
  by_cases hbad : p < 0 ∨ (s.size : Int) < p ∨ most < 0
  · have H : Hid (getL s.data.toList p most = ([], 0, 1)) := by
      show _ = _
      by_cases h0 : most < 0
      · exact getL_low h0
      · have := (g_out (l := s.data.toList) (p := p) (by omega)).2.2
        rw [getL_err (by omega) (by omega), this]
    clear hN hT hE hlen
    rcases (show p < 0 ∨ (0 ≤ p ∧ (s.size : Int) < p) ∨ (0 ≤ p ∧ p ≤ s.size ∧ most < 0) by omega) with h | ⟨h, h'⟩ | ⟨h, h', h''⟩
    all_goals
      clear hbad
      go_enter Try.func19, Try.ntmps19
      go_wp2_with (go_at_call 17; refine (CG.out _).mono ?_; rintro e w' ⟨rfl, hb⟩)
      go_ret3
      rw [H.out]
      exact ⟨none, 0, 0, rfl, Row.nil _ _, hb⟩
  have hp0 : 0 ≤ p := by omega
  have hp1 : p ≤ s.size := by omega
  have hm0 : 0 ≤ most := by omega
  clear hbad
  by_cases he : E = 0
  · subst he
    obtain ⟨_, hg1, hg2, hg3⟩ := g_ok hE.symm
    rw [← hT] at hg1 hg2
    rw [← hN] at hg3
    rw [hlen] at hg2
    by_cases h1 : N < 0
    · have H := Lib.hid (getL_form hm0 hE.symm (by rw [← hN]; exact h1))
      clear hN hT hE hlen
      go_enter Try.func19, Try.ntmps19
      go_wp2_with (go_at_call 17; refine (CG.out _).mono ?_; rintro e w' ⟨rfl, hb⟩)
      go_ret3
      rw [H.out]
      exact ⟨none, 0, 0, rfl, Row.nil _ _, hb⟩
    by_cases h2 : most < N
    · have H := Lib.hid (getL_big hm0 hE.symm (by rw [← hN]; omega) (by rw [← hN]; exact h2))
      clear hN hT hE hlen
      go_enter Try.func19, Try.ntmps19
      go_wp2_with (go_at_call 17; refine (CG.out _).mono ?_; rintro e w' ⟨rfl, hb⟩)
      go_ret3
      rw [H.out]
      exact ⟨none, 0, 0, rfl, Row.nil _ _, hb⟩
    obtain ⟨C, rfl⟩ : ∃ C : Nat, N = C := ⟨N.toNat, by omega⟩
    have H := Lib.hid (getL_ok hm0 hE.symm (by rw [← hN]; omega) (by rw [← hN]; omega))
    rw [← hN, ← hT, Int.toNat_natCast] at H
    have hC : C ≤ 9223372036854775807 := by have := hg3.2; omega
    clear hN hT hE hg3
    rw [H.out]
    clear H
    obtain ⟨i0, hi, hz0, hz1, hz2⟩ := info_parts int_info
    have d1 : decide (p < 0) = false := by simp; omega
    have d2 : decide ((s.size : Int) < p) = false := by simp; omega
    have d3 : decide (most < 0) = false := by simp; omega
    have d4 : decide ((C : Int) < 0) = false := by simp
    have d5 : decide (most < (C : Int)) = false := by simp; omega
    have HLen := Lib.hid hlen
    clear hlen
    go_enter Try.func19, Try.ntmps19
    go_wp2_with (go_at_call 17; refine (CG.out _).mono ?_; rintro e w' ⟨rfl, hb⟩)
    go_loopw [10, 12, 13] (fun at_ v i wr => ∃ (k : Nat) (out : List Int) (q : Int), k ≤ C ∧ i = .int .i64 k ∧ at_ = .int .i64 q ∧ 0 ≤ q ∧ q ≤ s.size ∧ (out.length : Int) ≤ q ∧ Hid (nums s.data.toList C [] T = nums s.data.toList (C - k) out q) ∧
        wr.ownsRow w.heap.size 3 1 v out.length (out.map (Value.int .i64)) ∧ Below w.heap.size w wr)
      (fun _ _ i _ => C - (intOf i).toNat)
    case atStart => exact ⟨0, [], T, by omega, rfl, rfl, by omega, hg2, by simp; omega, rfl, World.ownsRow_nil _ _ _ _, hb⟩
    case round =>
      obtain ⟨k, out, q, hk, rfl, rfl, hq0, hq1, hol, HS, hown, hbl⟩ := hrel
      have hbs := hbl.size
      clear hb
      by_cases hlt : k < C
      · have hck : C - k = (C - (k + 1)) + 1 := by omega
        have cQ := getR_any s q hs
        by_cases he : gE s.data.toList q = 0
        · obtain ⟨_, hr1, hr2, _⟩ := g_ok he
          have HS2 : Hid (nums s.data.toList C [] T = nums s.data.toList (C - (k + 1)) (out ++ [gN s.data.toList q]) (gT s.data.toList q)) := by
            show _ = _
            rw [HS.out, hck, nums_ok he]
          rw [he] at cQ
          rw [HLen.out] at hr2
          obtain ⟨M, hM⟩ : ∃ M, M = gN s.data.toList q := ⟨_, rfl⟩
          obtain ⟨R, hR⟩ : ∃ R, R = gT s.data.toList q := ⟨_, rfl⟩
          rw [← hM, ← hR] at cQ HS2
          rw [← hR] at hr1 hr2
          have HQ := Lib.hid cQ
          clear cQ hM hR hck he
          go_wp2_with fail
          refine (HQ.out _).mono ?_; rintro e w2 ⟨rfl, hb2⟩
          have hgrow0 : wr.grownBy w2 none := ⟨hb2.os, hb2.tape, hb2.output, hb2.size, fun i hi _ => hb2.block i hi⟩
          have hown1 : w2.ownsRow w.heap.size 3 1 u12 out.length (out.map (Value.int .i64)) := hown.kept hgrow0 (by cases h : u12.ownBlock with
            | none => exact Or.inl rfl
            | some _ => exact Or.inr (by simp))
          replace hbl := hbl.trans (hb2.mono hbs)
          clear hown hgrow0 hb2 hbs
          have hbs := hbl.size
          go_wp2_with (at_builtin; refine wpList_append_own _ rfl _ _ 22 rfl w.heap.size 3 i0 (.int .i64 0) 1 8 Try.underlying22 hi hz0 hz1 hz2 rfl (by decide) _ _ _ rfl (hown1.alloc _) ⟨w2.heap.size, 0, none⟩ 1 1 [.int .i64 M] rfl rfl ?c1 ?c2 ?c3 ?c4 ?c5 ?_)
          case c1 =>
            intro j t hj
            match j, hj with
            | 0, hj => simp at hj; subst hj; simp [Addr.add]
          case c2 => intro t ht; simp at ht; subst ht; rfl
          case c3 => unfold maxLen; omega
          case c4 => omega
          case c5 => simp; omega
          · intro v' w3 hown' hgrow _
            have hb1 : Below w.heap.size w w3 := (hbl.alloc (by omega) _).grown hgrow (by simp; omega) (fun g hg => (hown1.lt g hg).1)
            have hown2 : w3.ownsRow w.heap.size 3 1 v' (out ++ [M]).length ((out ++ [M]).map (Value.int .i64)) := by
              rw [List.map_append, List.length_append]; exact hown'
            clear hown' hgrow hbl hown1
            go_wp2
            go_roundw
            case rel => exact ⟨k + 1, out ++ [M], R, by omega, by go_num, rfl, by omega, hr2, by simp; omega, HS2, hown2, hb1⟩
            case measure => simp [intOf]; omega
        · have HS2 : Hid (nums s.data.toList C [] T = ([], 0, gE s.data.toList q)) := by
            show _ = _
            rw [HS.out, hck, nums_err he]
          obtain ⟨E, hE⟩ : ∃ E, E = gE s.data.toList q := ⟨_, rfl⟩
          rw [← hE] at cQ HS2 he
          have hE1 : (E != 0) = true := by simpa using he
          have HQ := Lib.hid cQ
          clear cQ hE hck he
          go_wp2_with fail
          refine (HQ.out _).mono ?_; rintro e w2 ⟨rfl, hb2⟩
          go_wp2
          go_ret3
          rw [HS2.out]
          exact ⟨none, 0, 0, rfl, Row.nil _ _, hbl.trans (hb2.mono hbs)⟩
      · have HS2 : Hid (nums s.data.toList C [] T = (out, q, 0)) := by
          show _ = _
          rw [HS.out, show C - k = 0 by omega, nums_zero]
        obtain ⟨a, n, c, rfl, hR⟩ := Row.own hown
        go_wp2
        go_ret3
        rw [HS2.out]
        exact ⟨a, n, c, rfl, hR, hbl⟩
  · have H := Lib.hid (getL_err hm0 (by rw [← hE]; exact he))
    rw [← hE] at H
    have hE1 : (E != 0) = true := by simpa using he
    clear hN hT hE he hlen
    go_enter Try.func19, Try.ntmps19
    go_wp2_with (go_at_call 17; refine (CG.out _).mono ?_; rintro e w' ⟨rfl, hb⟩)
    go_ret3
    rw [H.out]
    exact ⟨none, 0, 0, rfl, Row.nil _ _, hb⟩

/-- A list that is got is no longer than the bytes. -/
theorem nums_len (l : List UInt8) (k : Nat) (out : List Int) (p : Int) (h : (out.length : Int) ≤ p) (hp : p ≤ l.length) : ((nums l k out p).1.length : Int) ≤ l.length := by
  induction k generalizing out p with
  | zero => rw [nums_zero]; show (out.length : Int) ≤ _; omega
  | succ k ih =>
    by_cases he : gE l p = 0
    · obtain ⟨_, h1, h2, _⟩ := g_ok he
      rw [nums_ok he]
      exact ih _ _ (by simp; omega) h2
    · rw [nums_err he]; simp
theorem getL_len (l : List UInt8) (p most : Int) : ((getL l p most).1.length : Int) ≤ l.length := by
  unfold getL
  split
  · simp
  · split
    · simp
    · rename_i h1 h2
      have he : gE l p = 0 := by omega
      obtain ⟨_, h3, h4, _⟩ := g_ok he
      split
      · simp
      · split
        · simp
        · exact nums_len _ _ _ _ (by simp; omega) h4

set_option maxHeartbeats 2000000 in
set_option maxRecDepth 100000 in
theorem gets_walk (s : ByteArray) (p most : Int) (hs : s.size ≤ maxLen) (_hp : Fits p) (w : World) :
    Calls Try.prog 4 #[.string s, .int .i64 p, .int .i64 most] w fun e w' => e = .returned (.bool true) ∧ Below w.heap.size w w' := by
  replace hs : s.size ≤ 9223372036854775807 := hs
  have G := Below.refl w.heap.size w
  by_cases h1 : (300 : Int) < s.size
  · go_enter Try.func4, Try.ntmps4
    go_wp2_with (go_at_call 10; refine (known_any _).mono ?_; rintro e w' ⟨rfl, hg⟩; replace G := G.trans (hg.mono G.size); clear hg)
    go_ret
    exact ⟨rfl, G⟩
  have hs3 : s.size ≤ 300 := by omega
  clear h1
  have c1 := get_any s p (by unfold maxLen; omega)
  have c2 := getR_any s p (by omega)
  have c3 := fun W => getList_any s p most W (by omega)
  have c4 := fun W => getListR_any s p most W (by omega)
  have hl := getL_len s.data.toList p most
  have hsz : s.data.toList.length = s.size := by simp
  rw [hsz] at hl
  obtain ⟨N, hN⟩ : ∃ N, N = gN s.data.toList p := ⟨_, rfl⟩
  obtain ⟨T, hT⟩ : ∃ T, T = gT s.data.toList p := ⟨_, rfl⟩
  obtain ⟨E, hE⟩ : ∃ E, E = gE s.data.toList p := ⟨_, rfl⟩
  obtain ⟨R, hR⟩ : ∃ R, R = getL s.data.toList p most := ⟨_, rfl⟩
  rw [← hN, ← hT, ← hE] at c1 c2
  rw [← hR] at c3 c4 hl
  obtain ⟨L, Y, Z⟩ := R
  have C1 := Lib.hid c1
  have C2 := Lib.hid c2
  have C3 := Lib.hid c3
  have C4 := Lib.hid c4
  have hl2 : L.length ≤ 300 := by have : (L.length : Int) ≤ s.size := hl; omega
  clear c1 c2 c3 c4 hN hT hE hR hsz hl
  go_enter Try.func4, Try.ntmps4
  go_wp2_with fail
  refine (C1.out _).mono ?_; rintro e w1 ⟨rfl, rfl⟩
  go_wp2_with fail
  refine (C2.out _).mono ?_; rintro e w2 ⟨rfl, hb⟩
  replace G := G.trans (hb.mono G.size); clear hb
  go_wp2_with fail
  refine (C3.out _).mono ?_; rintro e w3 ⟨a, n, c, rfl, hR1, hb⟩
  replace G := G.trans (hb.mono G.size); clear hb
  go_wp2_with fail
  refine (C4.out _).mono ?_; rintro e w4 ⟨a', n', c', rfl, hR2, hb⟩
  replace G := G.trans (hb.mono G.size); replace hR1 := hR1.below hb; clear hb
  go_wp2_with fail
  refine (same_any _ _ _ _ _ _ L _ hR1 hR2 (by have e1 : n = L.length := hR1.1; omega)).mono ?_; rintro e w5 ⟨rfl, hb⟩
  replace G := G.trans (hb.mono G.size); clear hb hR1 hR2
  go_wp2_with fail
  refine (known_any _).mono ?_; rintro e w6 ⟨rfl, hb⟩
  replace G := G.trans (hb.mono G.size); clear hb
  go_wp2
  go_ret
  exact ⟨rfl, G⟩
end Go.Proofs.Ytdfgdlejmimfcaa
