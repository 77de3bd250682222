/- What is proved here: the walk of the law CeilWaits. Conditions: the row is not too long; the use lies in memory. -/
import Derived.Test.YthicoekoeffpaaaKw
import Derived.Test.YthicoekoeffpaaaPl
import Derived.Test.YthicoekoeffpaaaRd
namespace Go.Proofs.Ythicoekoeffpaaa
open Go.ChangeShapes Go.WideShapes Go.RowKit

/-- Uses, but for their blocks. -/
def strip (u : UsP) : UsP := ⟨u.pr, [], []⟩
def stripV (u : UsP) : UsV := ⟨u.pr, ⟨none, 0, 0⟩, ⟨none, 0, 0⟩⟩
theorem stripV_is (w : World) (u : UsP) : (stripV u).Is w (strip u) := ⟨rfl, ⟨Row.nil _ _, Nat.zero_le _⟩, ⟨Row.nil _ _, Nat.zero_le _⟩⟩
theorem okL_strip {B : Int} {L : List UsP} (h : okL B L = true) : okL B (L.map strip) = true := by
  have O := okL_of h
  unfold okL
  rw [inB_iff.2 ⟨O.b0, O.b8⟩, List.length_map, decide_eq_true O.len]
  simp only [Bool.true_and, List.all_eq_true]
  intro v hv
  obtain ⟨u, hu, rfl⟩ := List.mem_map.1 hv
  have := O.all u hu
  unfold okU strip
  rw [inB_iff.2 ⟨this.pr1, this.pr2⟩]
  rfl
theorem strip_waits (L : List UsP) : ∀ x ∈ waitL (L.map strip), x = 0 := by
  intro x hx
  unfold waitL at hx
  obtain ⟨v, _, rfl⟩ := List.mem_map.1 hx
  exact waB_bare (fun u hu => by obtain ⟨v, _, rfl⟩ := List.mem_map.1 hu; rfl) _
theorem waits_pos (L : List UsP) : ∀ x ∈ waitL L, 0 ≤ x := by
  intro x hx
  unfold waitL at hx
  obtain ⟨v, _, rfl⟩ := List.mem_map.1 hx
  exact waB_pos _ _
theorem RowU.raw {w : World} {a : Option Addr} {n : Nat} {L : List UsP} (h : RowU w a n L) : ∃ V : List UsV, UssIs w V L ∧ (n = 0 ∨ ∃ b off, a = some ⟨b, off, none⟩ ∧ b < w.heap.size ∧ ∀ j v, (usC V)[j]? = some v → w.cell? ⟨b, off + j, none⟩ = some v) := by
  obtain ⟨hl, h2⟩ := h
  by_cases h0 : 0 < n
  · obtain ⟨b, off, e, hlt, hc⟩ := h2 h0
    have many : ∀ k, k ≤ n → ∃ V : List UsV, V.length = k ∧ ∀ (i : Nat) (t : UsV), V[i]? = some t → ∃ u, L[i]? = some u ∧ t.Is w u ∧ ∀ j v, t.cells[j]? = some v → w.cell? ⟨b, off + i * 3 + j, none⟩ = some v := by
      intro k
      induction k with
      | zero => exact fun _ => ⟨[], rfl, fun i t h => by simp at h⟩
      | succ k ih =>
        intro hk
        obtain ⟨V, hV, hV2⟩ := ih (by omega)
        obtain ⟨t, u, h1, h2, h3⟩ := hc k (by omega)
        refine ⟨V ++ [t], by simp [hV], fun i t' ht' => ?_⟩
        by_cases hi : i < V.length
        · rw [List.getElem?_append_left hi] at ht'
          exact hV2 i t' ht'
        · rw [List.getElem?_append_right (by omega)] at ht'
          have hi2 : i - V.length = 0 := by
            have := (List.getElem?_eq_some_iff.1 ht').1
            simp at this; omega
          rw [hi2] at ht'
          simp at ht'
          subst ht'
          obtain rfl : i = k := by omega
          exact ⟨u, h1, h2, h3⟩
    obtain ⟨V, hV, hV2⟩ := many n (Nat.le_refl _)
    refine ⟨V, ⟨by omega, fun i t ht => by obtain ⟨u, k1, k2, _⟩ := hV2 i t ht; exact ⟨u, k1, k2⟩⟩, Or.inr ⟨b, off, e, hlt, fun j v hj => ?_⟩⟩
    have hjl : j < V.length * 3 := by rw [← usC_len]; exact (List.getElem?_eq_some_iff.1 hj).1
    obtain ⟨i, r, hi, h3, rfl⟩ : ∃ i r, i < V.length ∧ r < 3 ∧ j = i * 3 + r := ⟨j / 3, j % 3, by omega, by omega, by omega⟩
    obtain ⟨u, _, _, k3⟩ := hV2 i V[i] (List.getElem?_eq_getElem hi)
    rw [usC_at V i r _ (List.getElem?_eq_getElem hi) h3] at hj
    rw [← Nat.add_assoc]
    exact k3 r v hj
  · obtain rfl : L = [] := List.eq_nil_of_length_eq_zero (by omega)
    exact ⟨[], UssIs.nil w, Or.inl (by omega)⟩
/-- Nothing is appended to an own row. -/
theorem run_append_none {P : Program} (w : World) (t ty e : TypeId) (i : TypeInfo) (ht : P.underlying t = some (.slice e)) (hi : P.info? e = some i) (g n cap c : Nat) (hnc : n ≤ cap) :
    (Builtin.append_ #[t, t] ty #[.slice (some ⟨g, 0, none⟩) n cap, .slice none 0 c]).run P w = .ok (.slice (some ⟨g, 0, none⟩) n cap) w := by
  simp [Builtin.append_, run_underlying ht, sizeOf, typeInfo, hi, Builtin.lenOf, hnc, run_firstCells_none, storeCells]
theorem more_waits {L : List UsP} {u : UsP} {i : Nat} {x y : Int} (hx : (waitL (L ++ [u]))[i]? = some x) (hy : (waitL L)[i]? = some y) : y ≤ x := by
  unfold waitL at hx hy
  rw [List.getElem?_map] at hx hy
  obtain ⟨v, hv, rfl⟩ := Option.map_eq_some_iff.1 hx
  obtain ⟨v', hv', rfl⟩ := Option.map_eq_some_iff.1 hy
  have hl := (List.getElem?_eq_some_iff.1 hv').1
  rw [List.getElem?_append_left hl, hv'] at hv
  obtain rfl := Option.some.inj hv
  exact waB_more (fun v hv => List.mem_append_left _ hv) _
theorem low_waits {L : List UsP} {i : Nat} {u : UsP} {x M : Int} (hu : L[i]? = some u) (hx : (waitL L)[i]? = some x) (hM : ∀ v ∈ L, M ≤ v.pr) (he : u.pr = M) : x = 0 := by
  rw [waitL_at hu] at hx
  obtain rfl := Option.some.inj hx
  exact waB_low (fun v hv => by rw [he]; exact hM v hv)
set_option maxHeartbeats 4000000 in
set_option maxRecDepth 100000 in
theorem waits_walk (B : Int) (a : Option Addr) (n c : Nat) (L : List UsP) (t2 : UsV) (u2 : UsP) (w : World) (hr : RowU w a n L) (hn : n ≤ 140737488355328) (hnc : n ≤ c) (h2 : t2.Is w u2) :
    Calls Try.prog 6 #[.int .i64 B, .slice a n c, .agg #[.int .i64 t2.pr, .slice t2.bl.a t2.bl.n t2.bl.c, .slice t2.le.a t2.le.n t2.le.c]] w fun e w' => e = .returned (.bool true) ∧ Below w.heap.size w w' := by
  obtain ⟨pr, ⟨xa, xn, xc⟩, ⟨la, ln, lc⟩⟩ := t2
  have HI2 := Lib.hid h2
  obtain ⟨hpr, -, -⟩ := h2
  simp only at hpr
  subst hpr
  have I1 := Lib.hid (One.new w #[.int .i64 u2.pr, .slice xa xn xc, .slice la ln lc] 37)
  obtain ⟨lt, hlt⟩ : ∃ r, litE L = r := ⟨_, rfl⟩
  have CL := Lib.hid (fun W (hb : Below w.heap.size w W) => light_any a n c L W (hr.below hb) hn lt hlt)
  have CK := Lib.hid (fun W => known_any W)
  cases lt
  · go_enter Try.func6, Try.ntmps6
    go_wp2_with (first
      | (go_at_call 10; refine (CL.out _ I1.out.1).mono ?_; rintro e w1 ⟨rfl, rfl⟩)
      | (go_at_call 11; refine (CK.out _).mono ?_; rintro e w2 ⟨rfl, hb2⟩))
    go_ret
    exact ⟨rfl, keep_below I1.out.1 hb2⟩
  obtain ⟨r, hq⟩ : ∃ r, okL B L = r := ⟨_, rfl⟩
  have CR := Lib.hid (fun W (hb : Below w.heap.size w W) => right_any B a n c L W (hr.below hb) hn r hq)
  cases r
  · go_enter Try.func6, Try.ntmps6
    go_wp2_with (first
      | (go_at_call 10; refine (CL.out _ I1.out.1).mono ?_; rintro e w1 ⟨rfl, rfl⟩)
      | (go_at_call 12; refine (CR.out _ I1.out.1).mono ?_; rintro e w2 ⟨rfl, hb2⟩)
      | (go_at_call 11; refine (CK.out _).mono ?_; rintro e w3 ⟨rfl, hb3⟩))
    go_ret
    exact ⟨rfl, keep_below (keep_below I1.out.1 hb2) hb3⟩
  by_cases h7 : n ≤ 7
  · have q7 : decide (7 < (n : Int)) = false := decide_eq_false (by omega)
    have h7i : ¬ (7 : Int) < (n : Int) := by omega
    have HL := Lib.hid hr.1
    have CW := Lib.hid (fun W (hb : Below w.heap.size w W) => waits_any B a n c L W (hr.below hb) hn _ (wL_yes hq))
    have CB := Lib.hid (fun W a' c' (h : RowU W a' n (L.map strip)) => waits_any B a' n c' (L.map strip) W h hn _ (wL_yes (okL_strip hq)))
    unfold GotN at CW CB
    obtain ⟨i0, hi0, hz0, hz1, hz2⟩ := info_parts us_info
    have O := Lib.hid (okL_of hq)
    clear hq hlt
    go_enter Try.func6, Try.ntmps6
    go_wp2_with (first
      | (go_at_call 10; refine (CL.out _ I1.out.1).mono ?_; rintro e w1 ⟨rfl, rfl⟩)
      | (go_at_call 12; refine (CR.out _ I1.out.1).mono ?_; rintro e w2 ⟨rfl, hb2⟩; have J2 := I1.out.keep hb2)
      | (go_at_call 18; refine (CW.out _ J2.1).mono ?_; rintro e w3 ⟨a3, n3, c3, rfl, hr3, -, hb3, -⟩))
    obtain rfl : n3 = n := by rw [hr3.1, waitL_len]; exact HL.out.symm
    have J3 := Lib.hid (J2.keep hb3)
    have R3 := Lib.hid hr3
    clear J2 hb2 hb3 hr3 CL CR I1
    go_loopw [8, 9, 10] (fun s m x wr => ∃ (k : Nat) (M : Int), k ≤ n3 ∧ x = .int .i64 k ∧ m = .int .i64 M ∧ Hid (∀ v ∈ L.take k, M ≤ v.pr) ∧ wr.ownsRow w3.heap.size 37 3 s k (usC ((L.take k).map stripV)) ∧ Below w3.heap.size w3 wr) (fun _ _ x _ => n3 - (intOf x).toNat)
    case atStart => exact ⟨0, 101, by omega, rfl, rfl, fun v hv => by simp at hv, World.ownsRow_nil _ _ _ _, Below.refl _ _⟩
    case round =>
      obtain ⟨k, M, hk, rfl, rfl, HM, hown, hbl⟩ := hrel
      have hbs := hbl.size
      by_cases hlt : k < n3
      · obtain ⟨b1, o1, u, ya, yn, yc, ma, mn, mc, rfl, hB1, hx, -, -, f0, -, -⟩ := hr.item (Below.refl _ _) hlt
        have f0 := Lib.hid f0
        have HTK : Hid (usC ((L.take (k + 1)).map stripV) = usC ((L.take k).map stripV) ++ (stripV u).cells) := by
          show _ = _
          rw [take_cat hx, List.map_append]; exact usC_snoc _ _
        have HM2 : Hid (∀ v ∈ L.take (k + 1), min M u.pr ≤ v.pr) := by
          intro v hv
          rw [take_cat hx] at hv
          rcases List.mem_append.1 hv with hv | hv
          · have := HM.out v hv; omega
          · simp at hv; subst hv; omega
        have h0 := keep_cell (keep_below J3.out.1 hbl) f0.out
        have i1 : (0 : Int) ≤ (k : Int) := by omega
        have i2 : (k : Int) < (n3 : Int) := by omega
        have HOW := Lib.hid hown
        clear hx HM hown
        obtain ⟨xs, hxs⟩ : ∃ xs, xs = usC ((L.take k).map stripV) := ⟨_, rfl⟩
        rw [← hxs] at HOW HTK
        have HXS := Lib.hid hxs
        clear hxs
        have cells_pr : (stripV u).cells = [.int .i64 u.pr, .slice none 0 0, .slice none 0 0] := rfl
        rw [cells_pr] at HTK
        clear cells_pr
        go_wp2_with (at_builtin; refine wpList_append_own _ rfl _ _ 22 rfl w3.heap.size 37 i0 (.agg #[.int .i64 0, .slice none 0 0, .slice none 0 0]) 3 56 Try.underlying22 hi0 hz0 hz1 hz2 rfl (by decide) _ _ _ rfl (HOW.out.alloc _) ⟨wr.heap.size, 0, none⟩ 1 1 [.int .i64 u.pr, .slice none 0 0, .slice none 0 0] rfl rfl ?c1 (usV_one (stripV u)) ?c3 ?c4 ?c5 ?_)
        case c1 =>
          intro j tt hj
          first
            | exact hj
            | (rw [add_plain', Nat.zero_add]; exact cells_new wr _ _ j tt hj)
        case c3 => unfold maxLen; omega
        case c4 => omega
        case c5 => first | omega | (simp; omega)
        · intro v' w5 hown' hgrow _
          have hb5 : Below w3.heap.size w3 w5 := (hbl.alloc hbl.size _).grown hgrow (by simp; omega) (fun g hg => (HOW.out.lt g hg).1)
          have hown3 : Hid (w5.ownsRow w3.heap.size 37 3 v' (k + 1) (usC ((L.take (k + 1)).map stripV))) := by
            show World.ownsRow _ _ _ _ _ _ _
            rw [HTK.out]; exact hown'
          have h5 := keep_cell (keep_below J3.out.1 hb5) f0.out
          clear hown' hgrow h0
          go_wp2
          go_roundw
          case rel => exact ⟨k + 1, min M u.pr, by omega, by go_num, rfl, HM2, hown3.out, hb5⟩
          case measure => simp [intOf]; omega
      · obtain rfl : n3 = k := by omega
        have hlow : Hid (∀ v ∈ L, M ≤ v.pr) := by
          have := HM.out
          rw [List.take_of_length_le (by rw [HL.out]; exact Nat.le_refl _)] at this
          exact this
        rw [List.take_of_length_le (by rw [HL.out]; exact Nat.le_refl _)] at hown
        have HU : UssIs w (L.map stripV) (L.map strip) := ⟨by rw [List.length_map, List.length_map], fun i t hi => by
          rw [List.getElem?_map] at hi
          obtain ⟨u, hu, rfl⟩ := Option.map_eq_some_iff.1 hi
          exact ⟨strip u, by rw [List.getElem?_map, hu]; rfl, stripV_is w u⟩⟩
        have BB := keep_below J3.out.1 hbl
        obtain ⟨a5, c5, rfl, hm5, hR⟩ := RowU.own hown (HU.below BB)
        have HR := Lib.hid hR
        have J4 := Lib.hid (J3.out.keep hbl)
        have R4 := Lib.hid (R3.out.below hbl)
        clear hown HU hm5 hR BB hbl HM J3 R3
        go_wp2_with (go_at_call 18; fail)
        refine (CB.out _ _ _ HR.out).mono ?_
        rintro e w6 ⟨a6, n6, c6, rfl, hr6, -, hb6, -⟩
        obtain rfl : n3 = n6 := by rw [hr6.1, waitL_len, List.length_map]; exact HL.out
        have J6 := Lib.hid (J4.out.keep hb6)
        have R6 := Lib.hid hr6
        have R5 := Lib.hid (R4.out.below hb6)
        clear J4 R4 hr6 hb6 HR CB CW
        obtain ⟨VL, hVL, hraw⟩ := (hr.below J6.out.1).raw
        have HVL := Lib.hid hVL
        have HVl := Lib.hid (hVL.1.trans HL.out.symm)
        have HRaw := Lib.hid hraw
        clear hVL hraw
        go_wp2_with fail
        refine region_chain2 140 6 4 (fun t => ([0, 2, 5, 6] : List Nat).getD t 0) (fun i => ([59, 60, 61, 62, 63, 64, 12] : List Nat).getD i 0) (fun i => ([[], [], [0, 1], [], [3], [2, 4], [5]] : List (List Nat)).getD i []) (fun i j => if i = 4 then decide (j ≤ 2) else true) (fun i v W => ([(fun _ _ => True), (fun v _ => v = .slice a n3 c), (fun _ _ => True), (fun v _ => v = .agg #[.int .i64 u2.pr, .slice xa xn xc, .slice la ln lc]), (fun v W => ∃ g, v = .slice (some ⟨g, 0, none⟩) 1 1 ∧ ∀ j x, ([.int .i64 u2.pr, .slice xa xn xc, .slice la ln lc] : List Value)[j]? = some x → W.cell? ⟨g, j, none⟩ = some x), (fun _ _ => True), (fun _ _ => True)] : List (Value → World → Prop)).getD i (fun _ _ => True) v W) (fun t v V => ([(fun _ V => Below w6.heap.size w6 V), (fun v V => Below w6.heap.size w6 V ∧ ∃ g0, v = .slice (some ⟨g0, 0, none⟩) 0 0 ∧ V.ownsRow w6.heap.size 37 3 v 0 [] ∧ ∀ j x, V.cell? ⟨g0, j, none⟩ ≠ some x), (fun v V => Below w6.heap.size w6 V ∧ V.ownsRow w6.heap.size 37 3 v n3 (usC VL)), (fun v V => Below w6.heap.size w6 V ∧ V.ownsRow w6.heap.size 37 3 v (n3 + 1) (usC (VL ++ [⟨u2.pr, ⟨xa, xn, xc⟩, ⟨la, ln, lc⟩⟩]))), (fun v V => Below w6.heap.size w6 V ∧ V.ownsRow w6.heap.size 37 3 v (n3 + 1) (usC (VL ++ [⟨u2.pr, ⟨xa, xn, xc⟩, ⟨la, ln, lc⟩⟩])))] : List (Value → World → Prop)).getD t (fun _ _ => False) v V) (by kernel_rfl) rfl (fun i j hi hj => (by decide : ∀ i, i ≤ 6 → ∀ j, j ≤ 6 → (fun i => ([59, 60, 61, 62, 63, 64, 12] : List Nat).getD i 0) i = (fun i => ([59, 60, 61, 62, 63, 64, 12] : List Nat).getD i 0) j → i = j) i hi j hj) rfl (by decide) rfl (fun s t hs ht => (by decide : ∀ s, s < 4 → ∀ t, t < 4 → (fun t => ([0, 2, 5, 6] : List Nat).getD t 0) s = (fun t => ([0, 2, 5, 6] : List Nat).getD t 0) t → s = t) s hs t ht) (by decide) (fun t ht => (by decide : ∀ t, t < 3 → (fun t => ([0, 2, 5, 6] : List Nat).getD t 0) t ∈ (fun i => ([[], [], [0, 1], [], [3], [2, 4], [5]] : List (List Nat)).getD i []) ((fun t => ([0, 2, 5, 6] : List Nat).getD t 0) (t + 1))) t (by omega)) ?_ ?_ ?_ ?_ ⟨rfl, rfl, rfl, Nat.le_refl _, fun _ _ => rfl⟩ ?_
        · intro i o ho
          match i, ho with
          | 0, ho => obtain rfl := Option.some.inj ho; exact ⟨Or.inl ⟨rfl, by decide⟩, rfl, by decide, by decide⟩
          | 1, ho => obtain rfl := Option.some.inj ho; exact ⟨Or.inl ⟨rfl, by decide⟩, rfl, by decide, by decide⟩
          | 2, ho => obtain rfl := Option.some.inj ho; exact ⟨Or.inl ⟨rfl, by decide⟩, rfl, by decide, by decide⟩
          | 3, ho => obtain rfl := Option.some.inj ho; exact ⟨Or.inl ⟨rfl, by decide⟩, rfl, by decide, by decide⟩
          | 4, ho => obtain rfl := Option.some.inj ho; exact ⟨Or.inl ⟨rfl, by decide⟩, rfl, by decide, by decide⟩
          | 5, ho => obtain rfl := Option.some.inj ho; exact ⟨Or.inl ⟨rfl, by decide⟩, rfl, by decide, by decide⟩
          | 6, ho => obtain rfl := Option.some.inj ho; exact ⟨Or.inl ⟨rfl, by decide⟩, rfl, by decide, by decide⟩
          | k + 7, ho => simp at ho
        · intro i hi
          match i, hi with
          | 0, _ => exact ⟨2, by decide, by decide, by decide⟩
          | 1, _ => exact ⟨2, by decide, by decide, by decide⟩
          | 2, _ => exact ⟨5, by decide, by decide, by decide⟩
          | 3, _ => exact ⟨4, by decide, by decide, by decide⟩
          | 4, _ => exact ⟨5, by decide, by decide, by decide⟩
          | 5, _ => exact ⟨6, by decide, by decide, by decide⟩
          | k + 6, hi => omega
        · intro i o hi hq ho a' V j v hj hSV hoth hd
          have hC : Below w6.heap.size w6 V := by
            match j, hj, hSV with
            | 0, _, h => exact h
            | 1, _, h => exact h.1
            | 2, _, h => exact h.1
            | 3, _, h => exact h.1
            | k + 4, hj, _ => omega
          have oS1 : a'.eval (.tmp 1) = .slice a n3 c := hoth 1 (by decide)
          have oS5 : a'.eval (.tmp 5) = .pointer (some ⟨w.heap.size, 0, none⟩) := hoth 5 (by decide)
          clear hoth
          match i, hi, hq, ho with
          | 0, _, hq, _ => exact absurd rfl (hq 0 (by decide))
          | 2, _, hq, _ => exact absurd rfl (hq 1 (by decide))
          | 5, _, hq, _ => exact absurd rfl (hq 2 (by decide))
          | 6, _, hq, _ => exact absurd rfl (hq 3 (by decide))
          | 1, _, _, ho =>
            obtain rfl := Option.some.inj ho
            obtain ⟨ρ, hρ⟩ : ∃ ρ, ρ = a'.eval := ⟨_, rfl⟩
            rw [← hρ] at oS1
            refine ⟨.slice a n3 c, V, ?_, fun _ => rfl, hSV, fun _ _ _ h => h⟩
            rw [← hρ]; clear hρ hd hSV hj oS5; simp only [execOp]; go_simp
          | 3, _, _, ho =>
            obtain rfl := Option.some.inj ho
            have c0 := keep_cell hC (J6.out.2 0 _ rfl)
            have c1 := keep_cell hC (J6.out.2 1 _ rfl)
            have c2 := keep_cell hC (J6.out.2 2 _ rfl)
            obtain ⟨ρ, hρ⟩ : ∃ ρ, ρ = a'.eval := ⟨_, rfl⟩
            rw [← hρ] at oS5
            refine ⟨.agg #[.int .i64 u2.pr, .slice xa xn xc, .slice la ln lc], V, ?_, fun _ => rfl, hSV, fun _ _ _ h => h⟩
            rw [← hρ]; clear hρ hd hSV hj oS1; simp only [execOp]; go_simp
          | 4, _, _, ho =>
            obtain rfl := Option.some.inj ho
            have e3 : a'.eval (.tmp 62) = .agg #[.int .i64 u2.pr, .slice xa xn xc, .slice la ln lc] := hd 3 (by decide) (by decide) rfl
            obtain ⟨ρ, hρ⟩ : ∃ ρ, ρ = a'.eval := ⟨_, rfl⟩
            rw [← hρ] at e3
            refine ⟨.slice (some ⟨V.heap.size, 0, none⟩) 1 1, V.alloc (.cells #[.int .i64 u2.pr, .slice xa xn xc, .slice la ln lc] 37), ?_, fun _ => ⟨V.heap.size, rfl, cells_new V _ _⟩, ?_, ?_⟩
            · rw [← hρ]; clear hρ hd hSV hj oS1 oS5; simp only [execOp]; go_simp
            · match j, hj, hSV with
              | 0, _, h => exact Below.alloc h h.size _
              | 1, _, h =>
                obtain ⟨h1, g0, h2, h3, h4⟩ := h
                refine ⟨h1.alloc h1.size _, g0, h2, h3.alloc _, fun j x hc => ?_⟩
                have hl := (h3.lt g0 (by rw [h2]; rfl)).2
                exact h4 j x (((below_alloc V (.cells #[.int .i64 u2.pr, .slice xa xn xc, .slice la ln lc] 37)).cell (p := ⟨g0, j, none⟩) hl).symm.trans hc)
              | 2, _, h => exact ⟨Below.alloc h.1 h.1.size _, h.2.alloc _⟩
              | 3, _, h => exact ⟨Below.alloc h.1 h.1.size _, h.2.alloc _⟩
              | k + 4, hj, _ => omega
            · intro d x _ h
              match d, h with
              | 0, h => exact h
              | 1, h => exact h
              | 2, h => exact h
              | 3, h => exact h
              | 4, h =>
                obtain ⟨g, h1, h2⟩ := h
                exact ⟨g, h1, fun j x hj => keep_cell (below_alloc _ _) (h2 j x hj)⟩
              | 5, h => exact h
              | 6, h => exact h
              | k + 7, h => exact h
          | k + 7, hi, _, _ => exact absurd hi (by omega)
        · intro t o ht ho a' V v hSV hv hoth hd K hK
          have oS12 : a'.eval (.tmp 1) = .slice a n3 c := hoth 1 (by decide)
          clear hoth
          match t, ht, ho, hSV, hv, hd, hK with
          | 0, _, ho, hSV, hv, hd, hK =>
            obtain rfl := Option.some.inj ho
            have hSV : Below w6.heap.size w6 V := hSV
            have O0 := World.ownsRow_lit (base := w6.heap.size) (e := 37) (size := 3) V #[] 0 hSV.size (by unfold maxLen; omega) rfl
            refine wp_value (v := .slice (some ⟨V.heap.size, 0, none⟩) 0 0) (w' := V.alloc (.cells #[] 37)) (by simp only [execOp]; go_simp) (hK _ _ ⟨hSV.alloc hSV.size _, V.heap.size, rfl, O0, fun j x hc => ?_⟩ fun d x _ => ⟨?_, ?_⟩)
            · rw [Lib.cell_of_heap (new_block V (.cells #[] 37)) j] at hc
              simp at hc
            · show (fun i j => if i = 4 then decide (j ≤ 2) else true) d 0 = true
              by_cases e : d = 4
              · rw [e]; rfl
              · show (if d = 4 then _ else true) = true; rw [if_neg e]
            · intro h
              match d, h with
              | 0, h => exact h
              | 1, h => exact h
              | 2, h => exact h
              | 3, h => exact h
              | 4, h =>
                obtain ⟨g, h1, h2⟩ := h
                exact ⟨g, h1, fun j x hj => keep_cell (below_alloc _ _) (h2 j x hj)⟩
              | 5, h => exact h
              | 6, h => exact h
              | k + 7, h => exact h
          | 1, _, ho, hSV, hv, hd, hK =>
            obtain rfl := Option.some.inj ho
            obtain ⟨hb, g0, hg, hown, hno⟩ := hSV
            subst hg
            have hv : Value.slice (some ⟨g0, 0, none⟩) 0 0 = a'.eval (.tmp 59) := hv (by decide)
            have e1 : a'.eval (.tmp 60) = .slice a n3 c := hd 1 (by decide) (by decide) rfl
            have keep : ∀ W', V.grownBy W' (some g0) → ∀ d x, (fun i j => if i = 4 then decide (j ≤ 2) else true) d (1 + 1) = true → (fun i j => if i = 4 then decide (j ≤ 2) else true) d 1 = true ∧ ((fun i v W => ([(fun _ _ => True), (fun v _ => v = .slice a n3 c), (fun _ _ => True), (fun v _ => v = .agg #[.int .i64 u2.pr, .slice xa xn xc, .slice la ln lc]), (fun v W => ∃ g, v = .slice (some ⟨g, 0, none⟩) 1 1 ∧ ∀ j x, ([.int .i64 u2.pr, .slice xa xn xc, .slice la ln lc] : List Value)[j]? = some x → W.cell? ⟨g, j, none⟩ = some x), (fun _ _ => True), (fun _ _ => True)] : List (Value → World → Prop)).getD i (fun _ _ => True) v W) d x V → (fun i v W => ([(fun _ _ => True), (fun v _ => v = .slice a n3 c), (fun _ _ => True), (fun v _ => v = .agg #[.int .i64 u2.pr, .slice xa xn xc, .slice la ln lc]), (fun v W => ∃ g, v = .slice (some ⟨g, 0, none⟩) 1 1 ∧ ∀ j x, ([.int .i64 u2.pr, .slice xa xn xc, .slice la ln lc] : List Value)[j]? = some x → W.cell? ⟨g, j, none⟩ = some x), (fun _ _ => True), (fun _ _ => True)] : List (Value → World → Prop)).getD i (fun _ _ => True) v W) d x W') := by
              intro W' hgr d x _
              refine ⟨?_, ?_⟩
              · by_cases e : d = 4
                · rw [e]; rfl
                · show (if d = 4 then _ else true) = true; rw [if_neg e]
              · intro h
                match d, h with
                | 0, h => exact h
                | 1, h => exact h
                | 2, h => exact h
                | 3, h => exact h
                | 4, h =>
                  obtain ⟨g, h1, h2⟩ := h
                  have hne : g ≠ g0 := fun e => hno 0 _ (by rw [← e]; exact h2 0 _ rfl)
                  exact ⟨g, h1, fun j x hj => (World.cell?_of_block (hgr.block g (cell_lt (h2 j x hj)) (fun e => hne (Option.some.inj e)))).trans (h2 j x hj)⟩
                | 5, h => exact h
                | 6, h => exact h
                | k + 7, h => exact h
            cases a with
            | none =>
              have hn0 : n3 = 0 := by
                rcases HRaw.out with h | ⟨b, off, h, _⟩
                · exact h
                · cases h
              have hVLn : VL = [] := List.eq_nil_of_length_eq_zero (by rw [HVl.out]; exact hn0)
              refine Lib.wp_append_run_sl (v' := .slice (some ⟨g0, 0, none⟩) 0 0) (w' := V) V (.tmp 59) (.tmp 60) 22 rfl _ _ hv.symm (show a'.eval (.tmp 60) = .slice none 0 c by rw [e1, hn0]) ?hh ?_
              case hh => exact run_append_none V _ _ _ i0 Try.underlying22 hi0 g0 0 0 c (Nat.le_refl _)
              exact hK _ _ ⟨hb, by rw [hn0, hVLn]; exact hown⟩ (keep V ⟨rfl, rfl, rfl, Nat.le_refl _, fun _ _ _ => rfl⟩)
            | some ad =>
              refine wp_append_own V (.tmp 59) (.tmp 60) 22 rfl w6.heap.size 37 i0 (.agg #[.int .i64 0, .slice none 0 0, .slice none 0 0]) 3 56 Try.underlying22 hi0 hz0 hz1 hz2 rfl (by decide) _ 0 [] hv.symm hown ad n3 c (usC VL) e1 (by rw [usC_len, HVl.out]) ?_ ?_ (by unfold maxLen; omega) (by omega) hb.size (fun v' W' h1 h2 _ => hK v' W' ⟨hb.grown h2 hb.size (fun g hg => (hown.lt g hg).1), by rw [Nat.zero_add, List.nil_append] at h1; exact h1⟩ (keep W' h2))
              · intro j x hj
                rcases HRaw.out with h | ⟨b, off, h, _, hcs⟩
                · exfalso
                  have := (List.getElem?_eq_some_iff.1 hj).1
                  rw [usC_len, HVl.out, h] at this
                  omega
                · cases h
                  rw [add_plain']
                  exact keep_cell hb (hcs j x hj)
              · intro x hx
                unfold usC at hx
                rw [List.mem_flatMap] at hx
                obtain ⟨t, _, ht⟩ := hx
                exact usV_one t x ht
          | 2, _, ho, hSV, hv, hd, hK =>
            obtain rfl := Option.some.inj ho
            obtain ⟨hb, hown⟩ := hSV
            have hv : v = a'.eval (.tmp 61) := hv (by decide)
            obtain ⟨g, e4, hcs⟩ := hd 4 (by decide) (by decide) rfl
            refine wp_append_own V (.tmp 61) (.tmp 63) 22 rfl w6.heap.size 37 i0 (.agg #[.int .i64 0, .slice none 0 0, .slice none 0 0]) 3 56 Try.underlying22 hi0 hz0 hz1 hz2 rfl (by decide) v n3 (usC VL) hv.symm hown ⟨g, 0, none⟩ 1 1 [.int .i64 u2.pr, .slice xa xn xc, .slice la ln lc] e4 rfl (fun j x hj => by rw [add_plain', Nat.zero_add]; exact hcs j x hj) (usV_one ⟨u2.pr, ⟨xa, xn, xc⟩, ⟨la, ln, lc⟩⟩) (by unfold maxLen; omega) (by omega) hb.size (fun v' W' h1 h2 _ => hK v' W' ⟨hb.grown h2 hb.size (fun g hg => (hown.lt g hg).1), by rw [usC_snoc]; exact h1⟩ fun d x hlv => ⟨?_, ?_⟩)
            · by_cases e : d = 4
              · rw [e] at hlv; cases hlv
              · show (if d = 4 then _ else true) = true; rw [if_neg e]
            · intro h
              match d, hlv, h with
              | 0, _, h => exact h
              | 1, _, h => exact h
              | 2, _, h => exact h
              | 3, _, h => exact h
              | 4, hlv, _ => cases hlv
              | 5, _, h => exact h
              | 6, _, h => exact h
              | k + 7, _, h => exact h
          | 3, _, ho, hSV, hv, hd, hK =>
            obtain rfl := Option.some.inj ho
            have hv : v = a'.eval (.tmp 64) := hv (by decide)
            refine wp_value (v := v) (w' := V) (by simp only [execOp]; rw [hv]; rfl) (hK _ _ hSV fun d x hlv => ⟨?_, fun h => h⟩)
            by_cases e : d = 4
            · rw [e] at hlv; cases hlv
            · show (if d = 4 then _ else true) = true; rw [if_neg e]
          | k + 4, ht, _, _, _, _, _ => exact absurd ht (by omega)
        · intro a' V hsz hdef hoth hS
          have hS : (fun v V => Below w6.heap.size w6 V ∧ V.ownsRow w6.heap.size 37 3 v (n3 + 1) (usC (VL ++ [⟨u2.pr, ⟨xa, xn, xc⟩, ⟨la, ln, lc⟩⟩])) : Value → World → Prop) (a'.eval (.tmp 12)) V := hS
          have hcov : ∀ i, i ≤ 6 → 59 ≤ (fun i => ([59, 60, 61, 62, 63, 64, 12] : List Nat).getD i 0) i ∧ (fun i => ([59, 60, 61, 62, 63, 64, 12] : List Nat).getD i 0) i < 65 ∨ (fun i => ([59, 60, 61, 62, 63, 64, 12] : List Nat).getD i 0) i = 12 := by decide
          obtain ⟨v9, hv9⟩ : ∃ v, a'.eval (.tmp 12) = v := ⟨_, rfl⟩
          rw [hv9] at hS
          obtain ⟨us, hu1, rfl⟩ := act_mix1 59 6 12 v9 rfl hsz hdef (by simp) (by simp) hv9 (by decide) (fun k hkd hk => hoth k (fun i hi => by have := hcov i hi; dsimp only at this ⊢; omega))
          match us, hu1 with
          | [u59, u60, u61, u62, u63, u64], _ =>
            have HUU : UssIs w6 (VL ++ [⟨u2.pr, ⟨xa, xn, xc⟩, ⟨la, ln, lc⟩⟩]) (L ++ [u2]) := HVL.out.snoc (HI2.out.below J6.out.1)
            obtain ⟨a7, c7, rfl, hm7, hR7⟩ := RowU.own hS.2 (HUU.below hS.1)
            have R7 := Lib.hid hR7
            have B7 := Lib.hid hS.1
            clear hS hv9 hR7 HUU hm7
            have HZ : Hid (∀ x ∈ waitL (L.map strip), x = 0) := strip_waits L
            have HPs : Hid (∀ x ∈ waitL L, 0 ≤ x) := waits_pos L
            have hlen7 : (L ++ [u2]).length = n3 + 1 := by rw [List.length_append, ← HL.out]; rfl
            have HL7 := Lib.hid hlen7
            obtain ⟨r7, hq7⟩ : ∃ r, okL B (L ++ [u2]) = r := ⟨_, rfl⟩
            have hn7 : n3 + 1 ≤ 140737488355328 := by omega
            have CR7 := Lib.hid (fun W (h : RowU W a7 (n3 + 1) (L ++ [u2])) => right_any B a7 (n3 + 1) c7 (L ++ [u2]) W h hn7 r7 hq7)
            have HQ7 := Lib.hid hq7
            clear hlen7 hq7 hn7
            go_wp2
            go_loopw [13] (fun x wr => ∃ k : Nat, k ≤ n3 ∧ x = .int .i64 k ∧ V = wr) (fun x _ => n3 - (intOf x).toNat)
            case atStart => exact ⟨0, by omega, rfl, rfl⟩
            case round =>
              obtain ⟨k, hk, rfl, rfl⟩ := hrel
              by_cases hlt8 : k < n3
              · obtain ⟨b8, o8, x8, e8, hB8, hx8, hc8⟩ := (R5.out.below B7.out).item hlt8
                obtain ⟨b9, o9, x9, e9, hB9, hx9, hc9⟩ := (R6.out.below B7.out).item hlt8
                obtain ⟨bq, oq, uq, yaq, ynq, ycq, maq, mnq, mcq, eq, hBq, hxq, -, -, fq, -, -⟩ := hr.item (keep_below J6.out.1 B7.out) hlt8
                subst e8 e9 eq
                obtain rfl : x9 = 0 := HZ.out x9 (List.mem_of_getElem? hx9)
                have hp8 := HPs.out x8 (List.mem_of_getElem? hx8)
                have d8 : decide (x8 < 0) = false := decide_eq_false (by omega)
                have i1 : (0 : Int) ≤ (k : Int) := by omega
                have i2 : (k : Int) < (n3 : Int) := by omega
                by_cases he : uq.pr = M
                · obtain rfl : x8 = 0 := low_waits hxq hx8 hlow.out he
                  have d9 : (uq.pr == M) = true := by simpa using he
                  clear hx8 hx9 hxq he hp8
                  go_wp2
                  go_roundw
                  case rel => exact ⟨k + 1, by omega, by go_num, by trivial⟩
                  case measure => simp [intOf]; omega
                · have d9 : (uq.pr == M) = false := by simpa using he
                  clear hx8 hx9 hxq hp8
                  go_wp2
                  go_roundw
                  case rel => exact ⟨k + 1, by omega, by go_num, by trivial⟩
                  case measure => simp [intOf]; omega
              · obtain rfl : n3 = k := by omega
                cases r7
                · go_wp2_with (go_at_call 12; fail)
                  refine (CR7.out _ R7.out).mono ?_
                  rintro e w8 ⟨rfl, hb8⟩
                  go_wp2_with (go_at_call 11; fail)
                  refine (CK.out _).mono ?_
                  rintro e w9 ⟨rfl, hb9⟩
                  go_wp2
                  go_ret
                  exact ⟨rfl, keep_below (keep_below (keep_below J6.out.1 B7.out) hb8) hb9⟩
                have CW7 := Lib.hid (fun W (h : RowU W a7 (n3 + 1) (L ++ [u2])) => waits_any B a7 (n3 + 1) c7 (L ++ [u2]) W h (by omega) _ (wL_yes HQ7.out))
                unfold GotN at CW7
                go_wp2_with (go_at_call 12; fail)
                refine (CR7.out _ R7.out).mono ?_
                rintro e w8 ⟨rfl, hb8⟩
                have R8 := Lib.hid (R7.out.below hb8)
                go_wp2_with (go_at_call 18; fail)
                refine (CW7.out _ R8.out).mono ?_
                rintro e w9 ⟨a9, n9, c9, rfl, hr9, -, hb9, -⟩
                obtain rfl : n9 = n3 + 1 := by rw [hr9.1, waitL_len]; exact HL7.out
                have B9 := Lib.hid (keep_below (keep_below B7.out hb8) hb9)
                have R9 := Lib.hid hr9
                clear hb8 hb9 hr9 R8 CW7 CR7
                go_wp2
                go_loopw [15] (fun x wr => ∃ k : Nat, k ≤ n3 ∧ x = .int .i64 k ∧ Below w9.heap.size w9 wr) (fun x _ => n3 - (intOf x).toNat)
                case atStart => exact ⟨0, by omega, rfl, Below.refl _ _⟩
                case round =>
                  obtain ⟨k, hk, rfl, hbl⟩ := hrel
                  by_cases hlt9 : k < n3
                  · obtain ⟨b8, o8, x8, e8, hB8, hx8, hc8⟩ := (R5.out.below (keep_below B9.out hbl)).item hlt9
                    obtain ⟨b9, o9, x9, e9, hB9, hx9, hc9⟩ := (R9.out.below hbl).item (k := k) (by omega)
                    subst e8 e9
                    have hle := more_waits hx9 hx8
                    have d8 : decide (x9 < x8) = false := decide_eq_false (by omega)
                    have i1 : (0 : Int) ≤ (k : Int) := by omega
                    have i2 : (k : Int) < (n3 : Int) := by omega
                    have i3 : (k : Int) < ((n3 + 1 : Nat) : Int) := by omega
                    have i4 : (k : Int) < (n3 : Int) + 1 := by omega
                    clear hx8 hx9 hle
                    go_wp2
                    go_quiet (fail)
                    go_wp2
                    go_roundw
                    case rel => exact ⟨k + 1, by omega, by go_num, hbl.trans ⟨rfl, rfl, rfl, Nat.le_refl _, fun _ _ => rfl⟩⟩
                    case measure => simp [intOf]; omega
                  · obtain rfl : n3 = k := by omega
                    go_wp2_with (go_at_call 11; fail)
                    refine (CK.out _).mono ?_
                    rintro e wa ⟨rfl, hba⟩
                    go_wp2
                    go_ret
                    exact ⟨rfl, keep_below (keep_below (keep_below J6.out.1 B9.out) hbl) hba⟩
  · have q7 : decide (7 < (n : Int)) = true := decide_eq_true (by omega)
    have h7i : (7 : Int) < (n : Int) := by omega
    go_enter Try.func6, Try.ntmps6
    go_wp2_with (first
      | (go_at_call 10; refine (CL.out _ I1.out.1).mono ?_; rintro e w1 ⟨rfl, rfl⟩)
      | (go_at_call 12; refine (CR.out _ I1.out.1).mono ?_; rintro e w2 ⟨rfl, hb2⟩)
      | (go_at_call 11; refine (CK.out _).mono ?_; rintro e w3 ⟨rfl, hb3⟩))
    go_ret
    exact ⟨rfl, keep_below (keep_below I1.out.1 hb2) hb3⟩
end Go.Proofs.Ythicoekoeffpaaa
