/- What is proved here: the walk of the law CodeBack. Conditions: numbers fit 64 bits. -/
import Derived.Test.YtdfgdlejmimfcaaW3
namespace Go.Proofs.Ytdfgdlejmimfcaa
open Go.ChangeShapes Go.WideShapes Go.RowKit

theorem take_of_extract (S : ByteArray) (k : Nat) : (S.extract 0 k).data.toList = S.data.toList.take k := by rw [Lib.extract_data, List.drop_zero, Nat.sub_zero]

theorem flat_succ {l : List Int} {k : Nat} (h : k < l.length) : flat (l.take (k + 1)) = flat (l.take k) ++ enc (turn (l.getD k 0)) := by
  unfold flat
  rw [List.take_succ_eq_append_getElem h, List.flatMap_append]
  simp [h]
theorem flat_split {l : List Int} {k : Nat} (h : k < l.length) : flat l = flat (l.take k) ++ (enc (turn (l.getD k 0)) ++ flat (l.drop (k + 1))) := by
  have e : l = l.take k ++ (l.getD k 0 :: l.drop (k + 1)) := by
    have : l.getD k 0 = l[k] := by simp [h]
    rw [this, ← List.drop_eq_getElem_cons h, List.take_append_drop]
  conv => lhs; rw [e]
  unfold flat
  rw [List.flatMap_append, List.flatMap_cons]
theorem app_list (a b : ByteArray) : (a ++ b).data.toList = a.data.toList ++ b.data.toList := by simp
set_option maxHeartbeats 1000000 in
set_option maxRecDepth 100000 in
theorem back_walk (s : ByteArray) (a : Option Addr) (n c : Nat) (l : List Int) (t : ByteArray) (w : World) (hs : s.size ≤ maxLen) (ht : t.size ≤ maxLen) (hr : Row w a n l) (hF : FitsL l) :
    Calls Try.prog 5 #[.string s, .slice a n c, .string t] w fun e w' => e = .returned (.bool true) ∧ Below w.heap.size w w' := by
  replace hs : s.size ≤ 9223372036854775807 := hs
  replace ht : t.size ≤ 9223372036854775807 := ht
  have G := Below.refl w.heap.size w
  by_cases h1 : (100 : Int) < s.size
  · go_enter Try.func5, Try.ntmps5
    go_wp2_with (go_at_call 10; refine (known_any _).mono ?_; rintro e w' ⟨rfl, hg⟩; replace G := G.trans (hg.mono G.size); clear hg)
    go_ret
    exact ⟨rfl, G⟩
  by_cases h2 : (100 : Int) < t.size
  · go_enter Try.func5, Try.ntmps5
    go_wp2_with (go_at_call 10; refine (known_any _).mono ?_; rintro e w' ⟨rfl, hg⟩; replace G := G.trans (hg.mono G.size); clear hg)
    go_ret
    exact ⟨rfl, G⟩
  by_cases h3 : 100 < n
  · go_enter Try.func5, Try.ntmps5
    go_wp2_with (go_at_call 10; refine (known_any _).mono ?_; rintro e w' ⟨rfl, hg⟩; replace G := G.trans (hg.mono G.size); clear hg)
    go_ret
    exact ⟨rfl, G⟩
  have hn2 : n ≤ 100 := by omega
  have hs2 : s.size ≤ 100 := by omega
  have ht2 : t.size ≤ 100 := by omega
  clear h1 h2 h3
  have hnl : n = l.length := hr.1
  obtain ⟨S, hS, cS⟩ := list_as (a := a) (n := n) (c := c) hF (by omega)
  have hSl : S.size = (encL l).length := by rw [Lib.size_eq, hS]
  have hlen := encL_len hF (by omega)
  have hSs : S.size ≤ 1010 := by omega
  have hSp : 1 ≤ S.size := by rw [hSl]; exact encK_pos _ _ _
  have hAF := all_fit hF
  have r1 : getL (s ++ S ++ t).data.toList s.size n = (l, (s.size : Int) + S.size, 0) := by
    have := getL_enc l hAF (by omega) s.data.toList t.data.toList n (by omega)
    simpa [hS, hSl] using this
  have r2 : getL (s ++ S.extract 0 (S.size - 1)).data.toList s.size n = ([], 0, 2) := by
    have := getL_cut l hAF (by omega) s.data.toList n (by omega)
    rw [← hSl] at this
    have e : (s ++ S.extract 0 (S.size - 1)).data.toList = s.data.toList ++ (encL l).take (S.size - 1) := by rw [app_list, take_of_extract, hS]
    rw [e, Lib.size_eq s]
    exact this
  have C1 := Lib.hid (getList_at (s := s ++ S ++ t) (p := s.size) (m := n) (by simp; omega) r1)
  have C2 := Lib.hid (getList_at (s := s ++ S.extract 0 (S.size - 1)) (p := s.size) (m := n) (by simp; omega) r2)
  have CS := Lib.hid cS
  have hmin : min (S.size : Int) 1 = 1 := by omega
  have HNL := Lib.hid hnl
  clear cS r1 r2 hlen hSl hS hnl
  have d1 : decide ((100 : Int) < s.size) = false := by simp; omega
  have d2 : decide ((100 : Int) < t.size) = false := by simp; omega
  have d3 : decide ((100 : Int) < n) = false := by simp; omega
  go_enter Try.func5, Try.ntmps5
  go_wp2_with fail
  refine (CS.out _ hr).mono ?_; rintro e w1 ⟨rfl, hb⟩
  replace G := G.trans (hb.mono G.size); replace hr := hr.below hb; clear hb
  go_wp2_with fail
  refine (C1.out _).mono ?_; rintro e w2 ⟨a1, n1, c1, rfl, hR1, hb⟩
  replace G := G.trans (hb.mono G.size); replace hr := hr.below hb; clear hb
  go_wp2_with fail
  refine (C2.out _).mono ?_; rintro e w3 ⟨_, _, _, rfl, _, hb⟩
  replace G := G.trans (hb.mono G.size); replace hr := hr.below hb; replace hR1 := hR1.below hb; clear hb
  clear hmin
  go_wp2_with fail
  go_loopw [15, 16] (fun x i wr => ∃ (k : Nat) (X : ByteArray), k ≤ n ∧ i = .int .i64 k ∧ x = .string X ∧ X.size ≤ 100 + 10 * k ∧ Hid (X.data.toList = s.data.toList ++ flat (l.take k)) ∧ Row wr a n l ∧ Row wr a1 n1 l ∧ Below w.heap.size w wr)
    (fun _ i _ => n - (intOf i).toNat)
  case atStart => exact ⟨0, s, by omega, rfl, rfl, by omega, (by simp [flat] : s.data.toList = s.data.toList ++ flat (l.take 0)), hr, hR1, G⟩
  case round =>
    clear hr hR1 G
    obtain ⟨k, X, hk, rfl, rfl, hX, HX, hr, hR1, G⟩ := hrel
    by_cases hlt : k < n
    · obtain ⟨b, off, rfl, hB, hc⟩ := hr.2 (by omega)
      obtain ⟨x, hx⟩ : ∃ x, x = l.getD k 0 := ⟨_, rfl⟩
      have hcx : wr.cell? ⟨b, off + k, none⟩ = some (.int .i64 x) := by rw [hx]; exact hc k hlt
      have hfx : Fits x := by rw [hx]; exact hF k
      obtain ⟨P, hP, cP⟩ := put_as hfx
      have CP := Lib.hid cP
      have hPs : P.size ≤ 10 := by rw [Lib.size_eq, hP]; exact enc_ten (turn_fits hfx)
      have HX2 : Hid ((X ++ P).data.toList = s.data.toList ++ flat (l.take (k + 1))) := by
        show _ = _
        rw [app_list, HX.out, hP, flat_succ (by have := HNL.out; omega), ← hx, List.append_assoc]
      clear hx hc cP hP
      go_wp2_with (go_at_call 11; refine (CP.out _).mono ?_; rintro e w4 ⟨rfl, hb⟩; replace G := G.trans (hb.mono G.size); replace hr := hr.below hb; replace hR1 := hR1.below hb; clear hb)
      go_roundw
      case rel => exact ⟨k + 1, X ++ P, by omega, by go_num, rfl, by simp; omega, HX2, hr, hR1, G⟩
      case measure => simp [intOf]; omega
    · have HX2 : Hid (X.data.toList = s.data.toList ++ flat l) := by
        show _ = _
        rw [HX.out, List.take_of_length_le (by have := HNL.out; omega)]
      have hX2 : X.size ≤ 1100 := by omega
      clear HX hX
      go_wp2_with fail
      go_loop [14, 17] (fun p i => ∃ j q : Nat, j ≤ n ∧ i = .int .i64 j ∧ p = .int .i64 q ∧ q ≤ 100 + 10 * j ∧ Hid (q = s.size + (flat (l.take j)).length)) (fun _ i => n - (intOf i).toNat)
      case atStart => exact ⟨0, s.size, by omega, rfl, rfl, by omega, (by simp [flat] : s.size = s.size + (flat (l.take 0)).length)⟩
      case round =>
        obtain ⟨j, q, hj, rfl, rfl, hq, HQ⟩ := hrel
        by_cases hjn : j < n
        · obtain ⟨b, off, rfl, hB, hc⟩ := hr.2 (by omega)
          obtain ⟨x, hx⟩ : ∃ x, x = l.getD j 0 := ⟨_, rfl⟩
          have hcx : wr.cell? ⟨b, off + j, none⟩ = some (.int .i64 x) := by rw [hx]; exact hc j hjn
          have hfx : Fits x := by rw [hx]; exact hF j
          have hjl : j < l.length := by have := HNL.out; omega
          have hz : sz x ≤ 10 := enc_ten (turn_fits hfx)
          have HQ2 : Hid (q + sz x = s.size + (flat (l.take (j + 1))).length) := by
            show _ = _
            rw [flat_succ hjl, ← hx, List.length_append, HQ.out]; unfold sz; omega
          have e1 : (X ++ t).data.toList = (s.data.toList ++ flat (l.take j)) ++ (enc (turn x) ++ (flat (l.drop (j + 1)) ++ t.data.toList)) := by
            rw [app_list, HX2.out, flat_split hjl, ← hx]; simp only [List.append_assoc]
          have e2 : (q : Int) = ((s.data.toList ++ flat (l.take j)).length : Nat) := by
            rw [List.length_append, ← Lib.size_eq, HQ.out]
          have cG := get_at (s := X ++ t) (p := q) (N := x) (T := (q : Int) + sz x) (E := 0) (by simp; omega) (by
            rw [e1, e2]
            obtain ⟨g1, g2, g3⟩ := get_enc hfx (s.data.toList ++ flat (l.take j)) (flat (l.drop (j + 1)) ++ t.data.toList)
            rw [g1, g2, g3])
          have CG := Lib.hid cG
          have CZ := Lib.hid (size_any x hfx)
          clear cG e1 e2 hx hc hjl
          go_wp2_with (first
            | (go_at_call 16; refine (CG.out _).mono ?_; rintro e w4 ⟨rfl, rfl⟩)
            | (go_at_call 13; refine (CZ.out _).mono ?_; rintro e w4 ⟨rfl, rfl⟩))
          go_round
          case rel => exact ⟨j + 1, q + sz x, by omega, by go_num, by go_num, by omega, HQ2⟩
          case measure => simp [intOf]; omega
        · go_wp2_with fail
          refine (same_any _ _ _ _ _ _ l _ hR1 hr (by have e1 := hR1.1; have e2 := hr.1; omega)).mono ?_; rintro e w5 ⟨rfl, hb⟩
          replace G := G.trans (hb.mono G.size); clear hb hr hR1
          go_wp2_with fail
          refine (known_any _).mono ?_; rintro e w7 ⟨rfl, hb⟩
          replace G := G.trans (hb.mono G.size); clear hb
          go_wp2
          go_ret
          exact ⟨rfl, G⟩
end Go.Proofs.Ytdfgdlejmimfcaa
