/- What is proved here: the contract of the document's Read for layer 4, and the walk of the law OpReads. Conditions: the string has at most a million bytes; in the walk none beyond those it states. -/
import Derived.Test.YtmahpmoaicjcjaaDoorR8
namespace Go.Proofs.YtmahpmoaicjcjaaDoor
open Go.ChangeShapes Go.WideShapes Go.RowKit

set_option maxHeartbeats 2000000 in
set_option maxRecDepth 100000 in
theorem readR_any (s : ByteArray) (hs : s.size ≤ 1000000) (w : World) :
    Calls Tryd.prog 22 #[.string s] w (GotR (rd s.data.toList) w) := by
  obtain ⟨i0, hi, hz0, hz1, hz2⟩ := info_parts ins_info
  obtain ⟨R, hR⟩ : ∃ R, R = rd s.data.toList := ⟨_, rfl⟩
  rw [← hR]
  have hlen : s.data.toList.length = s.size := by simp
  have HLen := Lib.hid hlen
  have HN := Lib.hid (trivial : True)
  have H0 : Hid (R = rdF s.data.toList (202 - ([] : List (Int × Int × Int)).length) [] ((0 : Nat) : Int)) := hR
  clear hR hlen
  go_enter Tryd.func22, Tryd.ntmps22
  go_wp2
  go_loopw [4, 5] (fun v t wr => ∃ (out : List (Int × Int × Int)) (q : Nat), t = .int .i64 q ∧ q ≤ s.size ∧ out.length ≤ 200 ∧ Hid (R = rdF s.data.toList (202 - out.length) out q) ∧ wr.ownsRow w.heap.size 23 3 v out.length (cellsI out) ∧ Below w.heap.size w wr)
    (fun _ t _ => s.size - (intOf t).toNat)
  case atStart => exact ⟨[], 0, rfl, by omega, by simp, H0, World.ownsRow_nil _ _ _ _, Below.refl _ _⟩
  case round =>
    obtain ⟨out, q, rfl, hq, hol, HS, hown, hbl⟩ := hrel
    clear H0
    have hbs := hbl.size
    have hfuel : 202 - out.length = (201 - out.length) + 1 := by omega
    obtain ⟨A, n, c, rfl, rfl, hRow⟩ := own_form hown
    by_cases hlt : q < s.size
    · by_cases h200 : out.length = 200
      · have HQ : Hid (R = ([], 4)) := by
          show _ = _
          rw [HS.out, hfuel, rdF_big (by rw [HLen.out]; omega) h200]
        have e2 : (out.length == 200) = true := by simpa using h200
        have e3 : ((out.length : Int) == 200) = true := by rw [beq_iff_eq]; omega
        clear hfuel hRow h200
        go_wp2
        go_ret2
        rw [HQ.out]
        exact ⟨none, 0, 0, rfl, RowI.nil _ _, hbl⟩
      · have hol2 : out.length + 1 ≤ 200 := by omega
        have e2 : (out.length == 200) = false := by rw [beq_eq_false_iff_ne]; omega
        have e3 : ((out.length : Int) == 200) = false := by rw [beq_eq_false_iff_ne]; omega
        obtain ⟨D, hD⟩ : ∃ D, D = dec s.data.toList q := ⟨_, rfl⟩
        have cD := decodeR_any s q hs
        rw [← hD] at cD
        have hok := dec_ok (l := s.data.toList) (k := q)
        have herr := rdF_err (l := s.data.toList) (f := 201 - out.length) (out := out) (p := q) (by rw [HLen.out]; omega) h200
        have hgo := rdF_ok (l := s.data.toList) (f := 201 - out.length) (out := out) (p := q) (by rw [HLen.out]; omega) h200
        rw [← hD] at hok herr hgo
        obtain ⟨⟨o, a, b⟩, t, E⟩ := D
        simp only at hok herr hgo
        have CD := Lib.hid cD
        have HS' := HS.out
        rw [hfuel] at HS'
        clear cD hD HS hRow h200 hfuel
        by_cases he : E = 0
        · subst he
          obtain ⟨t', ht, ht1, ht2, _⟩ := hok rfl
          subst ht
          rw [hgo rfl] at HS'
          have HS2 : Hid (R = rdF s.data.toList (202 - (out ++ [(o, a, b)]).length) (out ++ [(o, a, b)]) t') := by
            show _ = _
            rw [HS', show 202 - (out ++ [(o, a, b)]).length = 201 - out.length by simp]
          rw [HLen.out] at ht2
          clear HS' hok herr hgo
          go_wp2_with fail
          refine (CD.out _).mono ?_
          rintro e w2 ⟨rfl, hb2⟩
          have hown1 := own_below hown hb2
          replace hbl := hbl.trans (hb2.mono hbs)
          clear hown hb2 hbs
          have hbs := hbl.size
          go_wp2_with (at_builtin; refine wpList_append_own _ rfl _ _ 32 rfl w.heap.size 23 i0 (.agg #[.int .i64 0, .int .i64 0, .int .i64 0]) 3 24 Tryd.underlying32 hi hz0 hz1 hz2 rfl (by decide) _ _ _ rfl ((hown1.alloc _).alloc _) ⟨w2.heap.size + 1, 0, none⟩ 1 1 [.int .i64 o, .int .i64 a, .int .i64 b] rfl rfl ?c1 ?c2 ?c3 ?c4 ?c5 ?_)
          case c1 =>
            intro j u hj
            match j, hj with
            | 0, hj => simp at hj; subst hj; simp [Addr.add]
            | 1, hj => simp at hj; subst hj; simp [Addr.add]
            | 2, hj => simp at hj; subst hj; simp [Addr.add]
          case c2 => intro u hu; simp at hu; rcases hu with rfl | rfl | rfl <;> rfl
          case c3 => unfold maxLen; omega
          case c4 => omega
          case c5 => simp; omega
          intro v' w3 hown' hgrow _
          have hb1 : Below w.heap.size w w3 := ((hbl.alloc (by omega) _).alloc (by simp; omega) _).grown hgrow (by simp; omega) (fun g hg => (hown1.lt g hg).1)
          have hown2 : w3.ownsRow w.heap.size 23 3 v' (out ++ [(o, a, b)]).length (cellsI (out ++ [(o, a, b)])) := by
            rw [cellsI_snoc, List.length_append]; exact hown'
          clear hown' hgrow hbl hown1
          go_wp2
          go_roundw
          case rel => exact ⟨out ++ [(o, a, b)], t', rfl, ht2, by simp; omega, HS2, hown2, hb1⟩
          case measure => simp [intOf]; omega
        · have HQ : Hid (R = ([], E)) := by
            show _ = _
            rw [HS', herr he]
          have hE1 : (E != 0) = true := by simpa using he
          clear HS' hok herr hgo he
          go_wp2_with fail
          refine (CD.out _).mono ?_
          rintro e w2 ⟨rfl, hb2⟩
          go_wp2
          go_ret2
          rw [HQ.out]
          exact ⟨none, 0, 0, rfl, RowI.nil _ _, (hbl.trans (hb2.mono hbs)).alloc (by have := hb2.size; omega) _⟩
    · have HQ : Hid (R = (out, 0)) := by
        show _ = _
        rw [HS.out, hfuel, rdF_end (by rw [HLen.out]; omega)]
      clear hfuel
      have hk : s.size ≤ q := by omega
      go_wp2
      go_ret2
      rw [HQ.out]
      exact ⟨_, _, _, rfl, hRow, hbl⟩

set_option maxHeartbeats 4000000 in
set_option maxRecDepth 100000 in
theorem reads_walk (s : ByteArray) (p : Int) (w : World) (hn : Nms w) (hs : s.size ≤ maxLen) :
    Calls Tryd.prog 4 #[.string s, .int .i64 p] w fun e w' => e = .returned (.bool true) ∧ Below w.heap.size w w' := by
  replace hs : s.size ≤ 9223372036854775807 := hs
  have HN := Lib.hid hn
  have G := Below.refl w.heap.size w
  clear hn
  by_cases h1 : (3000 : Int) < s.size
  · go_enter Tryd.func4, Tryd.ntmps4
    go_wp2_with (go_at_call 18; refine (known_any _ HN.out).mono ?_; rintro e w' ⟨rfl, hb⟩)
    go_ret
    exact ⟨rfl, hb⟩
  have hs3 : s.size ≤ 3000 := by omega
  clear h1
  have c1 := fun W h => decode_any s p (by omega) W h
  have c2 := fun W => decodeR_any s p (by omega) W
  have c3 := fun W h => read_any s (by omega) W h
  have c4 := fun W => readR_any s (by omega) W
  obtain ⟨⟨⟨o, a, b⟩, t, E⟩, hD⟩ : ∃ r, dec s.data.toList p = r := ⟨_, rfl⟩
  obtain ⟨⟨X, F⟩, hX⟩ : ∃ r, rd s.data.toList = r := ⟨_, rfl⟩
  have hXl := rd_len s.data.toList
  rw [hD] at c1 c2
  rw [hX] at c3 c4 hXl
  simp only at hXl
  have C1 := Lib.hid c1
  have C2 := Lib.hid c2
  have C3 := Lib.hid c3
  have C4 := Lib.hid c4
  clear c1 c2 c3 c4 hD hX
  go_enter Tryd.func4, Tryd.ntmps4
  go_wp2_with fail
  refine (C1.out _ (HN.out.below G)).mono ?_; rintro e w1 ⟨rfl, hb⟩
  replace G := G.trans (hb.mono G.size); clear hb
  replace G := G.trans ((below_alloc w1 (.cells #[.int .i64 o, .int .i64 a, .int .i64 b] 23)).mono G.size)
  have HI := Lib.hid (Ins3.new w1 o a b)
  go_wp2_with fail
  refine (C2.out _).mono ?_; rintro e w2 ⟨rfl, hb⟩
  replace G := G.trans (hb.mono G.size); replace HI := Lib.hid (HI.out.below hb); clear hb
  replace G := G.trans ((below_alloc w2 (.cells #[.int .i64 o, .int .i64 a, .int .i64 b] 23)).mono G.size)
  replace HI := Lib.hid (HI.out.below (below_alloc w2 (.cells #[.int .i64 o, .int .i64 a, .int .i64 b] 23)))
  have HJ := Lib.hid (Ins3.new w2 o a b)
  go_wp2_with fail
  refine (C3.out _ (HN.out.below G)).mono ?_; rintro e w3 ⟨aX, nX, cX, rfl, hRX, hb⟩
  replace G := G.trans (hb.mono G.size); replace HI := Lib.hid (HI.out.below hb); replace HJ := Lib.hid (HJ.out.below hb); clear hb
  have HRX := Lib.hid hRX
  have hnX : nX ≤ 200 := by have e1 : nX = X.length := hRX.1; omega
  clear hRX
  go_wp2_with fail
  refine (C4.out _).mono ?_; rintro e w4 ⟨aY, nY, cY, rfl, hRY, hb⟩
  replace G := G.trans (hb.mono G.size); replace HI := Lib.hid (HI.out.below hb); replace HJ := Lib.hid (HJ.out.below hb); replace HRX := Lib.hid (HRX.out.below hb); clear hb
  have HRY := Lib.hid hRY
  have hnY : nY ≤ 200 := by have e1 : nY = X.length := hRY.1; omega
  clear hRY C1 C2 C3 C4
  obtain ⟨j0, j1, j2, j3⟩ := HI.out
  obtain ⟨l0, l1, l2, l3⟩ := HJ.out
  simp only at j1 j2 j3 l1 l2 l3
  clear HI HJ
  go_wp2_with fail
  refine (sameR_at (r := true) _ (by simp) HRX.out HRY.out (by omega) (by omega)).mono ?_; rintro e w5 ⟨rfl, hb⟩
  replace G := G.trans (hb.mono G.size); clear hb
  clear j0 j1 j2 j3 l0 l1 l2 l3
  go_wp2_with fail
  refine (known_any _ (HN.out.below G)).mono ?_; rintro e w6 ⟨rfl, hb⟩
  replace G := G.trans (hb.mono G.size); clear hb
  go_wp2
  go_ret
  exact ⟨rfl, G⟩
end Go.Proofs.YtmahpmoaicjcjaaDoor
