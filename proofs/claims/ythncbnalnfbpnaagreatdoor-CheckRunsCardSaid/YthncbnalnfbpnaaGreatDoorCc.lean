/- What is proved here: contracts of check.Task and check.All. Conditions: the image lies in memory; the table of names holds what its initialiser lays ('Nms'). -/
import Derived.Test.YthncbnalnfbpnaaGreatDoorCb
import Derived.StillTailTactics
namespace Go.Proofs.YthncbnalnfbpnaaGreatDoor
open Go.ChangeShapes Go.WideShapes Go.RowKit

/-- A task of an image that lies in memory: its cells. -/
theorem ImV.Is.task {w : World} {x : ImV} {m : ImP} (h : x.Is w m) {k : Nat} (hk : k < x.tasks.n) :
    ∃ b off t T, x.tasks.a = some ⟨b, off, none⟩ ∧ b < w.heap.size ∧ m.tasks[k]? = some T ∧ TaV.Is w t T ∧ ∀ j v, t.cells[j]? = some v → w.cell? ⟨b, off + k * 7 + j, none⟩ = some v := by
  obtain ⟨-, -, -, -, -, -, ⟨hl, hr⟩, -⟩ := h
  obtain ⟨b, off, e, hlt, hc⟩ := hr (by omega)
  obtain ⟨t, T, h1, h2, h3⟩ := hc k hk
  exact ⟨b, off, t, T, e, hlt, h1, h2, h3⟩
set_option maxHeartbeats 2000000 in
set_option maxRecDepth 100000 in
theorem task_any (x : ImV) (m : ImP) (i : Int) (w : World) (h : x.Is w m) (hN : Nms w) (r : Int) (hq : taskE m i = r) :
    Calls Tryz.prog 14 #[x.v, .int .i64 i] w fun e w' => e = .returned (.int .i64 r) ∧ Below w.heap.size w w' := by
  have HI := Lib.hid h
  obtain ⟨z, hz⟩ : ∃ z, imE m = z := ⟨_, rfl⟩
  have CR := Lib.hid (fun W (hb : Below w.heap.size w W) => imRight_any x m W (h.below hb) (hN.below hb) z hz)
  have hlen : x.tasks.n = m.tasks.length := h.2.2.2.2.2.2.1.1
  have hmx : x.tasks.n ≤ 140737488355328 := h.2.2.2.2.2.2.2
  have HQ : Hid ((if z = true then (if 0 ≤ i ∧ i < (x.tasks.n : Int) then wrE m (tkAt m i) else 14) else 12) = r) := by rw [hlen, ← hz]; exact hq
  have HW : Hid (∀ (k : Nat) (t : TaV) (T : TkP), m.tasks[k]? = some T → z = true → ∀ W, Below w.heap.size w W → TaV.Is W t T → Calls Tryz.prog 30 #[pv x t] W fun e w' => e = .returned (.int .i64 (wrE m T)) ∧ Below W.heap.size W w') := by
    intro k t T hT h1 W hb ht
    obtain ⟨hk, e⟩ := List.getElem?_eq_some_iff.1 hT
    exact wrong_any x m t T W (h.below hb) ht (hz.trans h1) (by rw [← e]; exact List.getElem_mem hk) (hN.below hb) _ rfl
  have HT : Hid (∀ k, k < x.tasks.n → ∃ b off t T, x.tasks.a = some ⟨b, off, none⟩ ∧ b < w.heap.size ∧ m.tasks[k]? = some T ∧ TaV.Is w t T ∧ ∀ j v, t.cells[j]? = some v → w.cell? ⟨b, off + k * 7 + j, none⟩ = some v) := fun k hk => h.task hk
  clear hq hN h hlen hz
  obtain ⟨sw, la, cm, inp, ⟨sa, sn, sc⟩, ⟨ba, bn, bc⟩, ⟨ta, tn, tc⟩⟩ := x
  simp only [ImV.v, pv, Sl.v] at CR HW HQ hmx HT ⊢
  have C0 := Lib.hid (cells_new w #[.int .i64 sw, .int .i64 la, .int .i64 cm, .int .i64 inp, .slice sa sn sc, .slice ba bn bc, .slice ta tn tc] 26)
  have B0 := Lib.hid (below_alloc w (.cells #[.int .i64 sw, .int .i64 la, .int .i64 cm, .int .i64 inp, .slice sa sn sc, .slice ba bn bc, .slice ta tn tc] 26))
  cases z
  · have HR : Hid (12 = r) := HQ.out
    clear HQ HW HI
    go_enter Tryz.func14, Tryz.ntmps14
    go_wp2_with (refine (CR.out _ B0.out).mono ?_; rintro e w1 ⟨rfl, hb1⟩)
    go_ret
    exact ⟨by rw [← HR.out]; rfl, keep_below B0.out hb1⟩
  · by_cases hi0 : i < 0
    · have HR : Hid (14 = r) := by have := HQ.out; rw [if_pos rfl, if_neg (by omega)] at this; exact this
      have e1 : decide (i < 0) = true := decide_eq_true hi0
      clear HQ HW HI hi0
      go_enter Tryz.func14, Tryz.ntmps14
      go_wp2_with (refine (CR.out _ B0.out).mono ?_; rintro e w1 ⟨rfl, hb1⟩)
      go_ret
      exact ⟨by rw [← HR.out]; rfl, keep_below B0.out hb1⟩
    · have e1 : decide (i < 0) = false := decide_eq_false hi0
      by_cases hin : i < (tn : Int)
      · obtain ⟨k, rfl⟩ : ∃ k : Nat, i = (k : Int) := ⟨i.toNat, by omega⟩
        have e2 : decide ((tn : Int) ≤ (k : Int)) = false := decide_eq_false (by omega)
        obtain ⟨b, off, ⟨pr, pe, de, ji, ⟨xa, xn, xc⟩, ⟨oa, on, oc⟩, ⟨ca, cn, cc⟩⟩, T, rfl, hbl, hT, ht, hc⟩ := HT.out k (by omega)
        have HR : Hid (wrE m T = r) := by
          have := HQ.out
          rw [if_pos rfl, if_pos ⟨by omega, hin⟩] at this
          have e : tkAt m (k : Int) = T := by unfold tkAt; rw [Int.toNat_natCast, List.getD_eq_getElem?_getD, hT]; rfl
          rw [e] at this; exact this
        have CW := Lib.hid (fun W (hb : Below w.heap.size w W) => HW.out k ⟨pr, pe, de, ji, ⟨xa, xn, xc⟩, ⟨oa, on, oc⟩, ⟨ca, cn, cc⟩⟩ T hT (by first | rfl | trivial) W hb (ht.below hb))
        have HC := Lib.hid hc
        have i1 : (0 : Int) ≤ (k : Int) := by omega
        have i2 : (k : Int) < (tn : Int) := hin
        generalize wrE m T = y at HR CW
        clear HQ HW HI HT hT ht hc hi0 hin
        go_enter Tryz.func14, Tryz.ntmps14
        go_wp2_with (refine (CR.out _ B0.out).mono ?_; rintro e w1 ⟨rfl, hb1⟩; have bb := keep_below B0.out hb1; have c0 := keep_cell hb1 (C0.out 0 _ rfl); have c1 := keep_cell hb1 (C0.out 1 _ rfl); have c2 := keep_cell hb1 (C0.out 2 _ rfl); have c3 := keep_cell hb1 (C0.out 3 _ rfl); have c4 := keep_cell hb1 (C0.out 4 _ rfl); have c5 := keep_cell hb1 (C0.out 5 _ rfl); have c6 := keep_cell hb1 (C0.out 6 _ rfl))
        have d0 : w1.cell? ⟨b, off + k * 7, none⟩ = some (.int .i64 pr) := keep_cell bb (HC.out 0 _ rfl)
        have d1 : w1.cell? ⟨b, off + k * 7 + 1, none⟩ = some (.int .i64 pe) := keep_cell bb (HC.out 1 _ rfl)
        have d2 : w1.cell? ⟨b, off + k * 7 + 2, none⟩ = some (.int .i64 de) := keep_cell bb (HC.out 2 _ rfl)
        have d3 : w1.cell? ⟨b, off + k * 7 + 3, none⟩ = some (.int .i64 ji) := keep_cell bb (HC.out 3 _ rfl)
        have d4 : w1.cell? ⟨b, off + k * 7 + 4, none⟩ = some (.slice xa xn xc) := keep_cell bb (HC.out 4 _ rfl)
        have d5 : w1.cell? ⟨b, off + k * 7 + 5, none⟩ = some (.slice oa on oc) := keep_cell bb (HC.out 5 _ rfl)
        have d6 : w1.cell? ⟨b, off + k * 7 + 6, none⟩ = some (.slice ca cn cc) := keep_cell bb (HC.out 6 _ rfl)
        go_still_tail 7, (by kernel_rfl)
        change wpList _ _ _ _ _ w1.drew
        have bd := bb.drew
        generalize w1.drew = W2 at bd ⊢
        go_wp2_with (refine (CW.out _ bd).mono ?_; rintro e w3 ⟨rfl, hb3⟩)
        go_ret
        exact ⟨by rw [← HR.out]; rfl, keep_below bd hb3⟩
      · have HR : Hid (14 = r) := by have := HQ.out; rw [if_pos rfl, if_neg (by omega)] at this; exact this
        have e2 : decide ((tn : Int) ≤ i) = true := decide_eq_true (by omega)
        clear HQ HW HI hi0 hin
        go_enter Tryz.func14, Tryz.ntmps14
        go_wp2_with (refine (CR.out _ B0.out).mono ?_; rintro e w1 ⟨rfl, hb1⟩; have c6 := keep_cell hb1 (C0.out 6 _ rfl))
        go_ret
        exact ⟨by rw [← HR.out]; rfl, keep_below B0.out hb1⟩
theorem allG_snoc {m : ImP} : ∀ {l : List TkP} {k : Int}, (∀ t ∈ l, wrE m t = 0) → ∀ {q : List TkP}, allG m k (l ++ q) = allG m (k + l.length) q
  | [], k, _, q => by simp
  | t :: l, k, h, q => by
    rw [List.cons_append, allG, if_pos (h t (by simp)), allG_snoc (fun t ht => h t (by simp [ht]))]
    simp only [List.length_cons]
    congr 1
    omega
set_option maxHeartbeats 2000000 in
set_option maxRecDepth 100000 in
theorem all_any (x : ImV) (m : ImP) (w : World) (h : x.Is w m) (hN : Nms w) (r : Int × Int) (hq : allE m = r) :
    Calls Tryz.prog 12 #[x.v] w fun e w' => e = .returned (.tuple #[.int .i64 r.1, .int .i64 r.2]) ∧ Below w.heap.size w w' := by
  obtain ⟨z, hz⟩ : ∃ z, imE m = z := ⟨_, rfl⟩
  have CR := Lib.hid (fun W (hb : Below w.heap.size w W) => imRight_any x m W (h.below hb) (hN.below hb) z hz)
  have hlen : x.tasks.n = m.tasks.length := h.2.2.2.2.2.2.1.1
  have hmx : x.tasks.n ≤ 140737488355328 := h.2.2.2.2.2.2.2
  have HL := Lib.hid hlen
  have HQ : Hid ((if z = true then allG m 0 m.tasks else (-1, 12)) = r) := by rw [← hz]; exact hq
  have HW : Hid (∀ (k : Nat) (t : TaV) (T : TkP), m.tasks[k]? = some T → z = true → ∀ W, Below w.heap.size w W → TaV.Is W t T → Calls Tryz.prog 30 #[pv x t] W fun e w' => e = .returned (.int .i64 (wrE m T)) ∧ Below W.heap.size W w') := by
    intro k t T hT h1 W hb ht
    obtain ⟨hk, e⟩ := List.getElem?_eq_some_iff.1 hT
    exact wrong_any x m t T W (h.below hb) ht (hz.trans h1) (by rw [← e]; exact List.getElem_mem hk) (hN.below hb) _ rfl
  have HT : Hid (∀ k, k < x.tasks.n → ∃ b off t T, x.tasks.a = some ⟨b, off, none⟩ ∧ b < w.heap.size ∧ m.tasks[k]? = some T ∧ TaV.Is w t T ∧ ∀ j v, t.cells[j]? = some v → w.cell? ⟨b, off + k * 7 + j, none⟩ = some v) := fun k hk => h.task hk
  clear hq hN h hlen hz
  obtain ⟨sw, la, cm, inp, ⟨sa, sn, sc⟩, ⟨ba, bn, bc⟩, ⟨ta, tn, tc⟩⟩ := x
  simp only [ImV.v, pv, Sl.v] at CR HW HL hmx HT ⊢
  have C0 := Lib.hid (cells_new w #[.int .i64 sw, .int .i64 la, .int .i64 cm, .int .i64 inp, .slice sa sn sc, .slice ba bn bc, .slice ta tn tc] 26)
  have B0 := Lib.hid (below_alloc w (.cells #[.int .i64 sw, .int .i64 la, .int .i64 cm, .int .i64 inp, .slice sa sn sc, .slice ba bn bc, .slice ta tn tc] 26))
  cases z
  · have HR : Hid (((-1 : Int), (12 : Int)) = r) := HQ.out
    clear HQ HW
    go_enter Tryz.func12, Tryz.ntmps12
    go_wp2_with (refine (CR.out _ B0.out).mono ?_; rintro e w1 ⟨rfl, hb1⟩)
    go_ret2
    exact ⟨by rw [← HR.out]; rfl, keep_below B0.out hb1⟩
  · have HS : Hid (allG m 0 m.tasks = r) := HQ.out
    clear HQ
    go_enter Tryz.func12, Tryz.ntmps12
    go_wp2_with (refine (CR.out _ B0.out).mono ?_; rintro e w1 ⟨rfl, hb1⟩; have bb := keep_below B0.out hb1; have c6 := keep_cell hb1 (C0.out 6 _ rfl))
    have C1 : Hid (∀ j v, [.int .i64 sw, .int .i64 la, .int .i64 cm, .int .i64 inp, .slice sa sn sc, .slice ba bn bc, .slice ta tn tc][j]? = some v → w1.cell? ⟨w.heap.size, j, none⟩ = some v) := fun j v hj => keep_cell hb1 (C0.out j v hj)
    clear c6 C0 CR
    go_loopw [13] (fun i wr => ∃ k : Nat, k ≤ tn ∧ i = .int .i64 k ∧ Hid (∀ t ∈ m.tasks.take k, wrE m t = 0) ∧ Below w1.heap.size w1 wr) (fun i _ => tn - (intOf i).toNat)
    case atStart => exact ⟨0, by omega, rfl, fun t ht => by simp at ht, Below.refl _ _⟩
    case round =>
      obtain ⟨k, hk, rfl, HA, hbl⟩ := hrel
      have hbw := keep_below bb hbl
      by_cases hlt : k < tn
      · obtain ⟨b, off, ⟨pr, pe, de, ji, ⟨xa, xn, xc⟩, ⟨oa, on, oc⟩, ⟨ca, cn, cc⟩⟩, T, rfl, hB, hT, ht, hc⟩ := HT.out k hlt
        have i1 : (0 : Int) ≤ (k : Int) := by omega
        have i2 : (k : Int) < (tn : Int) := by omega
        have CW := Lib.hid (fun W (hb : Below w.heap.size w W) => HW.out k ⟨pr, pe, de, ji, ⟨xa, xn, xc⟩, ⟨oa, on, oc⟩, ⟨ca, cn, cc⟩⟩ T hT (by first | rfl | trivial) W hb (ht.below hb))
        have d0 : wr.cell? ⟨b, off + k * 7, none⟩ = some (.int .i64 pr) := keep_cell hbw (hc 0 _ rfl)
        have d1 : wr.cell? ⟨b, off + k * 7 + 1, none⟩ = some (.int .i64 pe) := keep_cell hbw (hc 1 _ rfl)
        have d2 : wr.cell? ⟨b, off + k * 7 + 2, none⟩ = some (.int .i64 de) := keep_cell hbw (hc 2 _ rfl)
        have d3 : wr.cell? ⟨b, off + k * 7 + 3, none⟩ = some (.int .i64 ji) := keep_cell hbw (hc 3 _ rfl)
        have d4 : wr.cell? ⟨b, off + k * 7 + 4, none⟩ = some (.slice xa xn xc) := keep_cell hbw (hc 4 _ rfl)
        have d5 : wr.cell? ⟨b, off + k * 7 + 5, none⟩ = some (.slice oa on oc) := keep_cell hbw (hc 5 _ rfl)
        have d6 : wr.cell? ⟨b, off + k * 7 + 6, none⟩ = some (.slice ca cn cc) := keep_cell hbw (hc 6 _ rfl)
        have ba' := below_alloc wr (.cells #[.int .i64 pr, .int .i64 pe, .int .i64 de, .int .i64 ji, .slice xa xn xc, .slice oa on oc, .slice ca cn cc] 52)
        have f0 := keep_cell ba' (keep_cell hbl (C1.out 0 _ rfl))
        have f1 := keep_cell ba' (keep_cell hbl (C1.out 1 _ rfl))
        have f2 := keep_cell ba' (keep_cell hbl (C1.out 2 _ rfl))
        have f3 := keep_cell ba' (keep_cell hbl (C1.out 3 _ rfl))
        have f4 := keep_cell ba' (keep_cell hbl (C1.out 4 _ rfl))
        have f5 := keep_cell ba' (keep_cell hbl (C1.out 5 _ rfl))
        have f6 := keep_cell ba' (keep_cell hbl (C1.out 6 _ rfl))
        have HB1 := Lib.hid (keep_below hbw ba')
        have HB2 := Lib.hid (keep_below hbl ba')
        have HX : Hid (∀ t ∈ m.tasks.take (k + 1), t ∈ m.tasks.take k ∨ t = T) := by
          intro t h; rw [take_cat hT] at h; rcases List.mem_append.1 h with h | h
          · exact Or.inl h
          · exact Or.inr (by simpa using h)
        have HG : Hid (wrE m T ≠ 0 → ((k : Int), wrE m T) = r) := by
          intro hne
          have hsplit : m.tasks = m.tasks.take k ++ T :: m.tasks.drop (k + 1) := by rw [← take_cons_drop hT, List.take_append_drop]
          have hl : (m.tasks.take k).length = k := by rw [List.length_take]; have := HL.out; omega
          have := HS.out
          rw [hsplit, allG_snoc HA.out, allG, if_neg hne, hl] at this
          rw [← this]; simp
        obtain ⟨y, hy⟩ : ∃ y, wrE m T = y := ⟨_, rfl⟩
        rw [hy] at CW HG
        have HY := Lib.hid hy
        clear hT ht hc hy ba'
        by_cases z1 : y = 0
        · have HA2 : Hid (∀ t ∈ m.tasks.take (k + 1), wrE m t = 0) := by
            intro t h; rcases HX.out t h with h | h
            · exact HA.out t h
            · rw [h, HY.out, z1]
          have e1 : (y == 0) = true := by simpa using z1
          have e2 : (y != 0) = false := by simpa using z1
          clear z1 HX HG HA HY
          go_wp2_with (refine (CW.out _ HB1.out).mono ?_; rintro e w3 ⟨rfl, hb3⟩)
          go_roundw
          case rel => exact ⟨k + 1, by omega, by go_num, HA2, keep_below HB2.out hb3⟩
          case measure => simp [intOf]; omega
        · have HR := Lib.hid (HG.out z1)
          have e1 : (y == 0) = false := by simpa using z1
          have e2 : (y != 0) = true := by simpa using z1
          clear z1 HX HG HA HY
          go_wp2_with (refine (CW.out _ HB1.out).mono ?_; rintro e w3 ⟨rfl, hb3⟩)
          go_ret2
          exact ⟨by rw [← HR.out]; rfl, keep_below HB1.out hb3⟩
      · obtain rfl : k = tn := by omega
        have HR : Hid (((-1 : Int), (0 : Int)) = r) := by
          have h1 := HA.out
          rw [List.take_of_length_le (by rw [← HL.out]; exact Nat.le_refl _)] at h1
          have h2 := allG_snoc (m := m) (l := m.tasks) (k := 0) h1 (q := [])
          rw [List.append_nil] at h2
          rw [← HS.out, h2]; rfl
        go_wp2
        go_ret2
        exact ⟨by rw [← HR.out]; rfl, hbw⟩
end Go.Proofs.YthncbnalnfbpnaaGreatDoor
