/- What is proved here: contracts of the document's own All and Slots. Conditions: the image lies in memory; what the document's own Right answers of it is told. -/
import Derived.Test.YthncbnalnfbpnaaGreatDoorP4
namespace Go.Proofs.YthncbnalnfbpnaaGreatDoor
open Go.ChangeShapes Go.WideShapes Go.RowKit

/-- What the document's own Right answers of an image, wherever what lies below is kept. -/
def RightTold (x : ImV) (m : ImP) (w : World) : Prop := ∀ W, Below w.heap.size w W → Calls Tryz.prog 31 #[x.v] W fun e w' => e = .returned (.bool (imE m)) ∧ Below W.heap.size W w'
theorem RightTold.below {x : ImV} {m : ImP} {w W : World} (h : RightTold x m w) (hb : Below w.heap.size w W) : RightTold x m W := fun W' hb' => h W' (keep_below hb hb')
theorem By.one {w W : World} {c : List Value} (hb : Below w.heap.size w W) (hc : ∀ j v, c[j]? = some v → W.cell? ⟨w.heap.size, j, none⟩ = some v) : By w c [] 0 W :=
  ⟨hb, hc, fun j v e => by simp at e⟩
set_option maxHeartbeats 4000000 in
set_option maxRecDepth 100000 in
theorem slots12_any (x : ImV) (m : ImP) (i : Int) (w : World) (h : x.Is w m) (cr : RightTold x m w) (r e0 : Int) (hq : taskE m i = e0) (hs : slW m i = r) :
    Calls Tryz.prog 9 #[x.v, .int .i64 i] w fun e w' => e = .returned (.tuple #[.int .i64 r, .int .i64 e0]) ∧ Below w.heap.size w w' := by
  have CT := Lib.hid (fun W (hb : Below w.heap.size w W) => task12_any x m i W (h.below hb) (cr.below hb) e0 hq)
  have hmx : x.tasks.n ≤ 140737488355328 := h.2.2.2.2.2.2.2
  by_cases z0 : e0 = 0
  · subst z0
    obtain ⟨h1, h2, h3, h4⟩ := taskE_zero hq
    obtain ⟨n1, n2, n3, n4, n5⟩ := numE_parts (imE_parts h1).1
    have hc := (wrE_zero h4).1
    have hu := (cE_zero hc).2
    have hlen : x.tasks.n = m.tasks.length := h.2.2.2.2.2.2.1.1
    obtain ⟨k, rfl⟩ : ∃ k : Nat, i = (k : Int) := ⟨i.toNat, by omega⟩
    obtain ⟨b, off, t, T, ha, hbl, hT, ht, hcs⟩ := h.task (k := k) (by omega)
    have eT : tkAt m (k : Int) = T := by unfold tkAt; rw [Int.toNat_natCast, List.getD_eq_getElem?_getD, hT]; rfl
    rw [eT] at hc hu
    obtain ⟨y, hy⟩ : ∃ y, y = cW true T.co := ⟨_, rfl⟩
    have hyb : 0 ≤ y ∧ y ≤ 1048576 := by rw [hy]; unfold cW; rw [if_pos hc]; omega
    have hr : r = y + 2 * m.sw + m.la + m.cm := by rw [← hs, hy, ← eT]; unfold slW; rw [if_pos hq]; omega
    have hcl : t.co.n ≤ 200 := by
      have hTm : T ∈ m.tasks := List.mem_of_getElem? hT
      have hco := (tkE_parts ((tasksE_parts (imE_parts h1).2.2.2).2.2.1 T hTm)).2.2.2
      unfold codeE at hco
      simp only [Bool.and_eq_true] at hco
      have := inB_iff.1 hco.1
      have h6 := ht.2.2.2.2.2.2.1.1
      omega
    obtain ⟨q1, q2, q3, -⟩ := h
    have CW := Lib.hid (fun W (hb : Below w.heap.size w W) => (by have := worstR_any t.co.a t.co.n t.co.c T.co W (ht.2.2.2.2.2.2.1.below hb) (by omega); rw [hc, ← hy] at this; exact this : Calls Tryz.prog 26 #[t.co.v] W fun e w' => e = .returned (.tuple #[.int .i64 y, .int .i64 0]) ∧ Below W.heap.size W w'))
    obtain ⟨sw, la, cm, inp, ⟨sa, sn, sc⟩, ⟨ba, bn, bc⟩, ⟨ta, tn, tc⟩⟩ := x
    obtain ⟨pr, pe, de, ji, ⟨xa, xn, xc⟩, ⟨oa, on, oc⟩, ⟨ca, cn, cc⟩⟩ := t
    simp only at ha q1 q2 q3 hlen hmx
    have C0 := Lib.hid (cells_new w #[.int .i64 sw, .int .i64 la, .int .i64 cm, .int .i64 inp, .slice sa sn sc, .slice ba bn bc, .slice ta tn tc] 31)
    have B0 := Lib.hid (below_alloc w (.cells #[.int .i64 sw, .int .i64 la, .int .i64 cm, .int .i64 inp, .slice sa sn sc, .slice ba bn bc, .slice ta tn tc] 31))
    subst ha
    rw [← q1] at hr n1
    rw [← q2] at hr n2
    rw [← q3] at hr n3
    simp only [ImV.v, Sl.v] at CT CW ⊢
    have s1 : IntKind.i64.wrap (2 * sw) = 2 * sw := IntWalk.i64_in _ (by omega)
    have s2 : IntKind.i64.wrap (y + 2 * sw) = y + 2 * sw := IntWalk.i64_in _ (by omega)
    have s3 : IntKind.i64.wrap (y + 2 * sw + la) = y + 2 * sw + la := IntWalk.i64_in _ (by omega)
    have s4 : IntKind.i64.wrap (y + 2 * sw + la + cm) = y + 2 * sw + la + cm := IntWalk.i64_in _ (by omega)
    have i1 : (0 : Int) ≤ (k : Int) := h2
    have i2 : (k : Int) < (tn : Int) := by omega
    have d6 : w.cell? ⟨b, off + k * 7 + 6, none⟩ = some (.slice ca cn cc) := hcs 6 _ rfl
    have D6 := Lib.hid d6
    have HR := Lib.hid hr
    clear d6 hcs ht hT eT hy hr hc hu h4 hs hq h1 cr hyb n1 n2 n3 n4 n5 hlen q1 q2 q3 h3 hcl
    go_enter Tryz.func9, Tryz.ntmps9
    go_wp2_with (first
      | (go_at_call 26; refine (CW.out _ bb).mono ?_; rintro e w2 ⟨rfl, hb2⟩; have f0 := keep_cell hb2 c0; have f1 := keep_cell hb2 c1; have f2 := keep_cell hb2 c2)
      | (go_at_call 15; refine (CT.out _ B0.out).mono ?_; rintro e w1 ⟨rfl, hb1⟩; have bb := keep_below B0.out hb1; have c0 := keep_cell hb1 (C0.out 0 _ rfl); have c1 := keep_cell hb1 (C0.out 1 _ rfl); have c2 := keep_cell hb1 (C0.out 2 _ rfl); have c6 := keep_cell hb1 (C0.out 6 _ rfl); have d6 := keep_cell bb D6.out))
    go_ret2
    exact ⟨by rw [HR.out]; rfl, keep_below bb hb2⟩
  · have hz := locked_zero (m := m) (i := i) (by rw [hq]; exact z0)
    have HR : Hid (r = 0) := by show r = 0; rw [← hs]; exact hz.2
    have e1 : (e0 == 0) = false := by simpa using z0
    have e2 : (e0 != 0) = true := by simpa using z0
    clear hz hs hq h cr z0
    obtain ⟨sw, la, cm, inp, ⟨sa, sn, sc⟩, ⟨ba, bn, bc⟩, ⟨ta, tn, tc⟩⟩ := x
    simp only [ImV.v, Sl.v] at CT ⊢
    have C0 := Lib.hid (cells_new w #[.int .i64 sw, .int .i64 la, .int .i64 cm, .int .i64 inp, .slice sa sn sc, .slice ba bn bc, .slice ta tn tc] 31)
    go_enter Tryz.func9, Tryz.ntmps9
    go_wp2_with (refine (CT.out _ (below_alloc _ _)).mono ?_; rintro e w1 ⟨rfl, hb1⟩)
    go_ret2
    exact ⟨by rw [HR.out]; rfl, keep_below (below_alloc _ _) hb1⟩
theorem allG_to {m : ImP} : ∀ {l : List TkP} {k : Int}, (∀ t ∈ l, wrE m t = 0) → allG m k l = (-1, 0)
  | [], _, _ => rfl
  | t :: l, k, h => by rw [allG, if_pos (h t (List.mem_cons_self ..))]; exact allG_to fun u hu => h u (List.mem_cons_of_mem _ hu)
set_option maxHeartbeats 4000000 in
set_option maxRecDepth 100000 in
theorem all12_any (x : ImV) (m : ImP) (w : World) (h : x.Is w m) (cr : RightTold x m w) (r : Int × Int) (hq : allE m = r) :
    Calls Tryz.prog 13 #[x.v] w fun e w' => e = .returned (.tuple #[.int .i64 r.1, .int .i64 r.2]) ∧ Below w.heap.size w w' := by
  obtain ⟨z, hz⟩ : ∃ z, imE m = z := ⟨_, rfl⟩
  have cr2 := cr
  unfold RightTold at cr2
  rw [hz] at cr2
  have CR := Lib.hid cr2
  have CT := Lib.hid (fun W (hb : Below w.heap.size w W) i e0 hq => task12_any x m i W (h.below hb) (cr.below hb) e0 hq)
  have hlen : x.tasks.n = m.tasks.length := h.2.2.2.2.2.2.1.1
  have hmx : x.tasks.n ≤ 140737488355328 := h.2.2.2.2.2.2.2
  have HL := Lib.hid hlen
  have HZ := Lib.hid hz
  have HQ : Hid ((if z = true then allG m 0 m.tasks else (-1, 12)) = r) := by rw [← hz]; exact hq
  clear hq h hlen hz cr cr2
  obtain ⟨sw, la, cm, inp, ⟨sa, sn, sc⟩, ⟨ba, bn, bc⟩, ⟨ta, tn, tc⟩⟩ := x
  simp only [ImV.v, Sl.v] at CR CT HL hmx ⊢
  have C0 := Lib.hid (cells_new w #[.int .i64 sw, .int .i64 la, .int .i64 cm, .int .i64 inp, .slice sa sn sc, .slice ba bn bc, .slice ta tn tc] 31)
  have B0 := Lib.hid (below_alloc w (.cells #[.int .i64 sw, .int .i64 la, .int .i64 cm, .int .i64 inp, .slice sa sn sc, .slice ba bn bc, .slice ta tn tc] 31))
  cases z
  · have HR : Hid (((-1 : Int), (12 : Int)) = r) := HQ.out
    clear HQ
    go_enter Tryz.func13, Tryz.ntmps13
    go_wp2_with (go_at_call 31; refine (CR.out _ B0.out).mono ?_; rintro e w1 ⟨rfl, hb1⟩)
    go_ret2
    exact ⟨by rw [← HR.out]; rfl, keep_below B0.out hb1⟩
  · have HS : Hid (allG m 0 m.tasks = r) := HQ.out
    clear HQ
    go_enter Tryz.func13, Tryz.ntmps13
    go_wp2_with (go_at_call 31; refine (CR.out _ B0.out).mono ?_; rintro e w1 ⟨rfl, hb1⟩; have HY := Lib.hid (By.one (keep_below B0.out hb1) (fun j v e => keep_cell hb1 (C0.out j v e))))
    clear hb1
    go_loopw [4] (fun i wr => ∃ k : Nat, k ≤ tn ∧ i = .int .i64 k ∧ Hid (∀ t ∈ m.tasks.take k, wrE m t = 0) ∧ By w (#[.int .i64 sw, .int .i64 la, .int .i64 cm, .int .i64 inp, .slice sa sn sc, .slice ba bn bc, .slice ta tn tc] : Array Value).toList [] 0 wr) (fun i _ => tn - (intOf i).toNat)
    case atStart => exact ⟨0, by omega, rfl, fun t ht => by simp at ht, HY.out⟩
    case round =>
      obtain ⟨k, hk, rfl, HA, hB⟩ := hrel
      have HB := Lib.hid hB
      have c0 := hB.c 0 _ rfl
      have c1 := hB.c 1 _ rfl
      have c2 := hB.c 2 _ rfl
      have c3 := hB.c 3 _ rfl
      have c4 := hB.c 4 _ rfl
      have c5 := hB.c 5 _ rfl
      have c6 := hB.c 6 _ rfl
      clear hB
      by_cases hlt : k < tn
      · obtain ⟨T, hT⟩ : ∃ T, m.tasks[k]? = some T := ⟨m.tasks[k]'(by have := HL.out; omega), by simp⟩
        have eT : taskE m (k : Int) = wrE m T := by
          rw [taskE_in HZ.out (by omega) (by have := HL.out; omega)]
          unfold tkAt; rw [Int.toNat_natCast, List.getD_eq_getElem?_getD, hT]; rfl
        obtain ⟨y, hy⟩ : ∃ y, wrE m T = y := ⟨_, rfl⟩
        have CK := Lib.hid (CT.out wr HB.out.b (k : Int) y (eT.trans hy))
        by_cases z1 : y = 0
        · subst z1
          have HA2 : Hid (∀ t ∈ m.tasks.take (k + 1), wrE m t = 0) := by
            intro t h
            rw [take_cat hT] at h
            rcases List.mem_append.1 h with h | h
            · exact HA.out t h
            · rw [List.mem_singleton.1 h]; exact hy
          clear hy eT hT HA
          go_wp2_with (go_at_call 15; refine CK.out.mono ?_; rintro e w2 ⟨rfl, hb2⟩)
          go_roundw
          case rel => exact ⟨k + 1, by omega, by go_num, HA2, HB.out.below hb2⟩
          case measure => simp [intOf]; omega
        · have HG : Hid (((k : Int), y) = r) := by
            have hsplit : m.tasks = m.tasks.take k ++ T :: m.tasks.drop (k + 1) := by rw [← take_cons_drop hT, List.take_append_drop]
            have hl : (m.tasks.take k).length = k := by rw [List.length_take]; have := HL.out; omega
            have := HS.out
            rw [hsplit, allG_snoc HA.out, allG, if_neg (by rw [hy]; exact z1), hl, hy] at this
            show _ = _
            rw [← this]; simp
          have e2 : (y != 0) = true := by simpa using z1
          clear hy eT hT HA z1
          go_wp2_with (go_at_call 15; refine CK.out.mono ?_; rintro e w2 ⟨rfl, hb2⟩)
          go_ret2
          exact ⟨by rw [← HG.out]; rfl, (HB.out.below hb2).b⟩
      · obtain rfl : k = tn := by omega
        have HR : Hid (((-1 : Int), (0 : Int)) = r) := by
          show _ = _
          rw [← HS.out, allG_to (fun t ht => HA.out t (by rw [List.take_of_length_le (by rw [← HL.out]; exact Nat.le_refl _)]; exact ht))]
        clear HA
        go_wp2
        go_ret2
        exact ⟨by rw [← HR.out]; rfl, HB.out.b⟩
end Go.Proofs.YthncbnalnfbpnaaGreatDoor
