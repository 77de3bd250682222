/- What is proved here: the walk of the law TextParts. Conditions: the rows fit; the listed variables hold what their initialisers lay ('Env'). -/
import Derived.Test.YtofmlodfhdjjiaaDoorKnown
namespace Go.Proofs.YtofmlodfhdjjiaaDoor
open Go.ChangeShapes Go.WideShapes Go.RowKit

/-- The append law at an operation that its guard lets be. -/
theorem wpList_append_g {P : Program} (w : World) {ops : Array Oper} {rest : List Oper} {o : Oper} {a : Act} {Q : Exit → Act → World → Prop} (hw : Region.wanted o (yielded ops a.tmps) = true) (s x : Operand) (t : TypeId)
    (ho : o.op = .call { callee := .builtin .append, args := #[s, x], argTypes := #[t, t] })
    (base : Nat) (e : TypeId) (i : TypeInfo) (z : Value) (size bytes : Nat) (ht : P.underlying t = some (.slice e)) (hi : P.info? e = some i) (hz : i.zero = some z)
    (hsize : i.size = size) (hby : i.bytes = bytes) (hzs : z.cells.size = size) (hsz : 0 < size)
    (v : Value) (n : Nat) (xs : List Value) (hs : a.eval s = v) (hown : w.ownsRow base e size v n xs)
    (ad : Addr) (m c : Nat) (news : List Value) (hx : a.eval x = .slice (some ad) m c) (hl : news.length = m * size) (hnews : ∀ j u, news[j]? = some u → w.cell? (ad.add j) = some u) (h1 : ∀ u ∈ news, u.oneCell' = true)
    (h63 : n + m ≤ maxLen) (hbytes : (n + m) * bytes ≤ 140737488355328) (hbase : base ≤ w.heap.size)
    (h : ∀ v' w', w'.ownsRow base e size v' (n + m) (xs ++ news) → w.grownBy w' v.ownBlock → (v' = .slice none 0 0 ↔ v = .slice none 0 0 ∧ m = 0) → wpList P ops Q rest (a.put o.dst v') w') : wpList P ops Q (o :: rest) a w := by
  unfold wpList
  rw [if_pos hw]
  exact Or.inl (wp_append_own w s x t ho base e i z size bytes ht hi hz hsize hby hzs hsz v n xs hs hown ad m c news hx hl hnews h1 h63 hbytes hbase h)
theorem add_block (ad : Addr) (j : Nat) : (ad.add j).block = ad.block := by unfold Addr.add; split <;> rfl
/-- A row's cells, one by one. -/
theorem RowI.cells {w : World} {a : Option Addr} {n : Nat} {L : List (Int × Int × Int)} (h : RowI w a n L) (h0 : 0 < n) : ∃ ad, a = some ad ∧ ad.block < w.heap.size ∧ ∀ j u, (cellsI L)[j]? = some u → w.cell? (ad.add j) = some u := by
  obtain ⟨b, off, rfl, hlt, hc⟩ := h.2 h0
  refine ⟨⟨b, off, none⟩, rfl, hlt, fun j u hj => ?_⟩
  have hjl : j < L.length * 3 := by
    obtain ⟨h1, _⟩ := List.getElem?_eq_some_iff.1 hj
    rw [cellsI_length] at h1; exact h1
  have e : (⟨b, off, none⟩ : Addr).add j = ⟨b, off + j, none⟩ := Lib.add_plain b off j
  rw [e]
  obtain ⟨i, r, hi, hr, rfl⟩ : ∃ i r, i < L.length ∧ r < 3 ∧ j = i * 3 + r := ⟨j / 3, j % 3, by omega, by omega, by omega⟩
  obtain ⟨c1, c2, c3⟩ := hc i (by have := h.1; omega)
  obtain ⟨d1, d2, d3⟩ := cellsI_at L i hi
  rcases (show r = 0 ∨ r = 1 ∨ r = 2 by omega) with rfl | rfl | rfl
  · rw [Nat.add_zero] at hj ⊢
    rw [d1] at hj; rw [c1, ← hj]
  · rw [d2] at hj; rw [← Nat.add_assoc, c2, ← hj]
  · rw [d3] at hj; rw [← Nat.add_assoc, c3, ← hj]
theorem cellsI_one (L : List (Int × Int × Int)) : ∀ u ∈ cellsI L, u.oneCell' = true := by
  intro u hu
  unfold cellsI at hu
  rw [List.mem_flatMap] at hu
  obtain ⟨i, _, hi⟩ := hu
  simp at hi
  rcases hi with rfl | rfl | rfl <;> rfl
theorem cellsI_append (L M : List (Int × Int × Int)) : cellsI (L ++ M) = cellsI L ++ cellsI M := by simp [cellsI]
theorem count_take {l : List UInt8} {k : Nat} (h : k < l.length) : (l.take (k + 1)).count 10 = (l.take k).count 10 + if l[k] = 10 then 1 else 0 := by
  rw [List.take_add_one, List.count_append, List.getElem?_eq_getElem h]
  simp [List.count_cons]
set_option maxHeartbeats 1000000 in
set_option maxRecDepth 100000 in
theorem parts_main (a b : Option Addr) (n m c d : Nat) (L M : List (Int × Int × Int)) (hn : n + m ≤ 200) (hn0 : 0 < n) (hm0 : 0 < m) (w : World) (HE : Hid (Env w)) (HA : Hid (RowI w a n L)) (HB : Hid (RowI w b m M)) (HFL : Hid (AllFitI L)) (HFM : Hid (AllFitI M))
    (S T : ByteArray) (hSl : S.size ≤ 11000) (hTl : T.size ≤ 11000) (HS : Hid (showL L = S.data.toList)) (HT : Hid (showL M = T.data.toList)) (HX : Hid (parse (S ++ T).data.toList = (L ++ M, 0)))
    (HC : Hid (S.data.toList.count 10 = n)) (e1 : (S.toList == []) = false) (e2 : (T.toList == []) = false) :
    Calls Tryd.prog 7 #[.slice a n c, .slice b m d] w fun e w' => e = .returned (.bool true) ∧ Below w.heap.size w w' := by
  obtain ⟨i0, hi, hz0, hz1, hz2⟩ := info_parts ins_info
  have CK := Lib.hid known_any
  have d1 : decide ((200 : Int) < (n : Int) + m) = false := by simp; omega
  have hw1 : IntKind.i64.wrap ((n : Int) + m) = (n : Int) + m := IntWalk.i64_in _ (by omega)
  have hXs : (S ++ T).size ≤ 1000000 := by rw [ByteArray.size_append]; omega
  go_enter Tryd.func7, Tryd.ntmps7
  go_wp2_with fail
  refine (show_at HFL.out HS.out _ HA.out HE.out).mono ?_; rintro e w1 ⟨rfl, hb⟩
  have G := hb
  replace HA := Lib.hid (HA.out.below hb); replace HB := Lib.hid (HB.out.below hb); clear hb
  go_wp2_with fail
  refine (show_at HFM.out HT.out _ HB.out (HE.out.below G)).mono ?_; rintro e w2 ⟨rfl, hb⟩
  replace G := keep_below G hb; replace HA := Lib.hid (HA.out.below hb); replace HB := Lib.hid (HB.out.below hb); clear hb
  go_wp2_with fail
  refine (parse_at hXs HX.out _ (HE.out.below G)).mono ?_; rintro e w3 ⟨a3, n3, c3, rfl, hR, hb⟩
  replace G := keep_below G hb; replace HA := Lib.hid (HA.out.below hb); replace HB := Lib.hid (HB.out.below hb); clear hb
  have HR := Lib.hid hR; clear hR
  have hn3 : n3 = n + m := by have h1 : n3 = (L ++ M).length := HR.out.1; have h2 := HA.out.1; have h3 := HB.out.1; rw [List.length_append] at h1; omega
  subst hn3
  go_wp2
  go_loopw [9, 10] (fun l i wr => ∃ (k x : Nat), k ≤ S.size ∧ i = .int .i64 k ∧ l = .int .i64 x ∧ x ≤ k ∧ Hid (x = (S.data.toList.take k).count 10) ∧ w3 = wr)
    (fun _ i _ => S.size - (intOf i).toNat)
  case atStart => exact ⟨0, 0, by omega, rfl, rfl, by omega, rfl, rfl⟩
  case round =>
    obtain ⟨k, x, hk, rfl, rfl, hxk, HK, rfl⟩ := hrel
    by_cases hlt : k < S.size
    · have hc := count_take (l := S.data.toList) (k := k) (by simpa using hlt)
      rw [byte_list S k hlt] at hc
      by_cases h10 : S[k] = 10
      · have HK2 : Hid (x + 1 = (S.data.toList.take (k + 1)).count 10) := by show _ = _; rw [hc, if_pos h10, ← HK.out]
        clear hc HK
        go_wp2
        go_roundw
        case rel => exact ⟨k + 1, x + 1, by omega, by go_num, by go_num, by omega, HK2, trivial⟩
        case measure => simp [intOf]; omega
      · have HK2 : Hid (x = (S.data.toList.take (k + 1)).count 10) := by show _ = _; rw [hc, if_neg h10, ← HK.out]; rfl
        have h11 : ¬ S[k].toNat = 10 := fun e => h10 (UInt8.toNat_inj.1 e)
        have h12 : ((S[k].toNat : Int) == 10) = false := by rw [beq_eq_false_iff_ne]; omega
        have h13 : (S[k].toNat == 10) = false := by rw [beq_eq_false_iff_ne]; omega
        clear hc HK
        go_wp2
        go_roundw
        case rel => exact ⟨k + 1, x, by omega, by go_num, rfl, by omega, HK2, trivial⟩
        case measure => simp [intOf]; omega
    · have hx : x = n := by
        have h1 := HK.out
        rw [List.take_of_length_le (by rw [← Lib.size_eq]; omega), HC.out] at h1; exact h1
      subst hx
      clear HK
      have G0 := G.size
      obtain ⟨ad, rfl, hadl, hadc⟩ := HA.out.cells hn0
      obtain ⟨bd, rfl, hbdl, hbdc⟩ := HB.out.cells hm0
      have hLl : (cellsI L).length = x * 3 := by rw [cellsI_length, ← HA.out.1]
      have hMl : (cellsI M).length = m * 3 := by rw [cellsI_length, ← HB.out.1]
      have HO : Hid ((w3.alloc (.cells #[] 24)).ownsRow w3.heap.size 24 3 (.slice (some ⟨w3.heap.size, 0, none⟩) 0 0) 0 []) := by
        refine ⟨by simp, Or.inr ⟨w3.heap.size, 0, #[], rfl, Nat.le_refl _, new_block _ _, by omega, by unfold maxLen; omega, rfl, rfl⟩⟩
      have cA : ∀ (W : World), Below w3.heap.size w3 W → ∀ j u, (cellsI L)[j]? = some u → W.cell? (ad.add j) = some u := fun W hW j u hj => (hW.cell (p := ad.add j) (by rw [add_block]; exact hadl)).trans (hadc j u hj)
      have cB : ∀ (W : World), Below w3.heap.size w3 W → ∀ j u, (cellsI M)[j]? = some u → W.cell? (bd.add j) = some u := fun W hW j u hj => (hW.cell (p := bd.add j) (by rw [add_block]; exact hbdl)).trans (hbdc j u hj)
      have HcA := Lib.hid cA
      have HcB := Lib.hid cB
      have B0 := below_alloc w3 (.cells #[] 24)
      clear cA cB hadc hbdc HA HB
      go_wp2_with (at_builtin; refine wpList_append_g _ (by rfl) (.tmp 52) (.tmp 53) 22 rfl w3.heap.size 24 i0 (.agg #[.int .i64 0, .int .i64 0, .int .i64 0]) 3 24 Tryd.underlying22 hi hz0 hz1 hz2 rfl (by decide) _ _ _ rfl HO.out ad x c (cellsI L) rfl hLl (HcA.out _ B0) (cellsI_one L) ?c3 ?c4 ?c5 ?_)
      case c3 => unfold maxLen; omega
      case c4 => omega
      case c5 => simp
      intro v1 w4 hown1 hgrow1 _
      have B1 : Below w3.heap.size w3 w4 := B0.grown hgrow1 (by simp) (fun g hg => by simp [Value.ownBlock] at hg; omega)
      have hv1 : ∀ g, v1.ownBlock = some g → w3.heap.size ≤ g := fun g hg => (hown1.lt g hg).1
      obtain ⟨A1, c1, rfl, _⟩ := RowI.own hown1
      clear hgrow1 HO
      go_wp2_with (at_builtin; refine wpList_append_g _ (by rfl) (.tmp 54) (.tmp 55) 22 rfl w3.heap.size 24 i0 (.agg #[.int .i64 0, .int .i64 0, .int .i64 0]) 3 24 Tryd.underlying22 hi hz0 hz1 hz2 rfl (by decide) _ _ _ rfl hown1 bd m d (cellsI M) rfl hMl (HcB.out _ B1) (cellsI_one M) ?c3 ?c4 ?c5 ?_)
      case c3 => unfold maxLen; omega
      case c4 => omega
      case c5 => exact B1.size
      intro v2 w5 hown2 hgrow2 _
      have B2 : Below w3.heap.size w3 w5 := B1.grown hgrow2 B1.size hv1
      rw [← cellsI_append] at hown2
      obtain ⟨A5, c5, rfl, hR5⟩ := RowI.own hown2
      have HR2 := Lib.hid (HR.out.below B2)
      have HR5 := Lib.hid hR5
      replace G := keep_below G B2
      clear hown1 hown2 hgrow2 B0 B1 hR5 HR hv1 HcA HcB
      go_wp2_with fail
      refine (sameR_at (r := true) _ (by simp) HR2.out HR5.out (by omega) (by omega)).mono ?_; rintro e w6 ⟨rfl, hb⟩
      replace G := keep_below G hb; clear hb
      go_wp2_with (go_at_call 10; refine (CK.out _ (HE.out.below G)).mono ?_; rintro e w7 ⟨rfl, hb7⟩)
      go_ret
      exact ⟨rfl, keep_below G hb7⟩
end Go.Proofs.YtofmlodfhdjjiaaDoor
