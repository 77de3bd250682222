/- What is proved here: the contract of the document's one (the instruction of a line's words). Conditions: there is a word; the words have at most a million bytes each. -/
import Derived.Test.YtofmlodfhdjjiaaDoorCutR
import Derived.Test.YtofmlodfhdjjiaaDoorNumR
import Derived.Test.YtofmlodfhdjjiaaDoorR6
import Derived.Deep.RegionHeld3
namespace Go.Proofs.YtofmlodfhdjjiaaDoor
open Go.ChangeShapes Go.WideShapes Go.RowKit

/-- What is left of a line's words. -/
def insV (o : Int) (ws : List (List UInt8)) : Nat → Nat → Int → Int → (Int × Int × Int) × Int
  | 0, _, x, y => fin (o, x, y) false
  | f + 1, k, x, y =>
    if (num (ws.getD k [])).2 ≠ 0 then ((0, 0, 0), 3)
    else if k = 1 then insV o ws f 2 (num (ws.getD k [])).1 y
    else insV o ws f 3 x (num (ws.getD k [])).1
theorem insW_V {ws : List (List UInt8)} (h0 : named (ws.getD 0 []) ≠ 0) (hl : ws.length = nargs (named (ws.getD 0 [])) + 1) : insW ws = insV (named (ws.getD 0 [])) ws (ws.length - 1) 1 0 0 := by
  unfold insW
  rw [if_neg (by rintro (h | h); exact h0 h; exact h hl)]
  rcases nargs_012 (named (ws.getD 0 [])) with hn | hn | hn
  · rw [hl, hn]; simp [insV]
  · rw [hl, hn]; simp [insV]
  · rw [hl, hn]; simp [insV]
theorem insW_no {ws : List (List UInt8)} (h : named (ws.getD 0 []) = 0 ∨ ws.length ≠ nargs (named (ws.getD 0 [])) + 1) : insW ws = ((0, 0, 0), 3) := by
  unfold insW; rw [if_pos h]
/-- The answer's cell, and the instruction's. -/
def Tb (B : Nat) (o x y : Int) (W : World) : Prop :=
  B + 1 < W.heap.size ∧ W.heap[B]? = some (.cells #[.int .i64 0, .int .i64 0, .int .i64 0] 24 (0, 0)) ∧ W.heap[B + 1]? = some (.cells #[.int .i64 o, .int .i64 x, .int .i64 y] 24 (0, 0))
theorem Tb.below {B : Nat} {o x y : Int} {W W' : World} (h : Tb B o x y W) (hb : Below W.heap.size W W') : Tb B o x y W' := by
  obtain ⟨h0, h1, h2⟩ := h
  exact ⟨Nat.lt_of_lt_of_le h0 hb.size, (hb.block B (by omega)).trans h1, (hb.block (B + 1) h0).trans h2⟩
theorem Tb.new (w : World) : Tb w.heap.size 0 0 0 ((w.alloc (.cells #[.int .i64 0, .int .i64 0, .int .i64 0] 24)).alloc (.cells #[.int .i64 0, .int .i64 0, .int .i64 0] 24)) := by
  refine ⟨by simp, ?_, ?_⟩
  · rw [(below_alloc (w.alloc (.cells #[.int .i64 0, .int .i64 0, .int .i64 0] 24)) _).block _ (by simp)]; exact new_block _ _
  · have := new_block (w.alloc (.cells #[.int .i64 0, .int .i64 0, .int .i64 0] 24)) (.cells #[.int .i64 0, .int .i64 0, .int .i64 0] 24)
    simpa using this
theorem Tb.set {B : Nat} {o x y : Int} {W : World} (h : Tb B o x y W) (v : Int) : Tb B v x y (W.setCell ⟨B + 1, 0, none⟩ (.int .i64 v)) ∧ Tb B o v y (W.setCell ⟨B + 1, 1, none⟩ (.int .i64 v)) ∧ Tb B o x v (W.setCell ⟨B + 1, 2, none⟩ (.int .i64 v)) := by
  obtain ⟨h0, h1, h2⟩ := h
  refine ⟨⟨by simpa [World.setCell] using h0, ?_, ?_⟩, ⟨by simpa [World.setCell] using h0, ?_, ?_⟩, ⟨by simpa [World.setCell] using h0, ?_, ?_⟩⟩
  all_goals simp [World.setCell, Array.getElem?_modify, h1, h2]
theorem Tb.cells {B : Nat} {o x y : Int} {W : World} (h : Tb B o x y W) :
    (W.cell? ⟨B + 1, 0, none⟩ = some (.int .i64 o) ∧ W.cell? ⟨B + 1, 1, none⟩ = some (.int .i64 x) ∧ W.cell? ⟨B + 1, 2, none⟩ = some (.int .i64 y)) ∧
    (W.frozen? ⟨B + 1, 0, none⟩ = false ∧ W.frozen? ⟨B + 1, 1, none⟩ = false ∧ W.frozen? ⟨B + 1, 2, none⟩ = false) ∧
    (W.cell? ⟨B, 0, none⟩ = some (.int .i64 0) ∧ W.cell? ⟨B, 1, none⟩ = some (.int .i64 0) ∧ W.cell? ⟨B, 2, none⟩ = some (.int .i64 0)) ∧
    (W.frozen? ⟨B, 0, none⟩ = false ∧ W.frozen? ⟨B, 1, none⟩ = false ∧ W.frozen? ⟨B, 2, none⟩ = false) := by
  obtain ⟨h0, h1, h2⟩ := h
  have a0 := Lib.cell_of_heap h2 0
  have a1 := Lib.cell_of_heap h2 1
  have a2 := Lib.cell_of_heap h2 2
  have b0 := Lib.cell_of_heap h1 0
  have b1 := Lib.cell_of_heap h1 1
  have b2 := Lib.cell_of_heap h1 2
  simp at a0 a1 a2 b0 b1 b2
  exact ⟨⟨a0, a1, a2⟩, ⟨Lib.frozen_of_heap h2 0, Lib.frozen_of_heap h2 1, Lib.frozen_of_heap h2 2⟩, ⟨b0, b1, b2⟩, ⟨Lib.frozen_of_heap h1 0, Lib.frozen_of_heap h1 1, Lib.frozen_of_heap h1 2⟩⟩
theorem keep_cellR {W w9 : World} {p : Addr} {v : Value} (hb : Below W.heap.size W w9) (h : W.cell? p = some v) : w9.cell? p = some v := (hb.cell (cell_lt h)).trans h
theorem keep_frozenR {W w9 : World} {p : Addr} {v : Value} (hb : Below W.heap.size W w9) (h : W.cell? p = some v) (hf : W.frozen? p = false) : w9.frozen? p = false := (hb.frozen (cell_lt h)).trans hf
theorem nameR_nat (k : Nat) (h1 : 1 ≤ k) (h2 : k < 26) (w : World) : Calls Tryd.prog 26 #[.int .i64 k] w fun e w' => e = .returned (.string (opNameOf k)) ∧ Below w.heap.size w w' := by
  have := nameR_any k w
  rw [onm_in (kn_iff.2 (by omega))] at this
  exact this
/-- What the first loop has found behind k. -/
def vf (o : Int) (k : Nat) : Int := if o < k then o else 0
set_option maxHeartbeats 2000000 in
set_option maxRecDepth 100000 in
theorem one_any (a : Option Addr) (n c : Nat) (ws : List (List UInt8)) (w : World) (hr : RowS w a n ws) (hn1 : 1 ≤ n) (hnl : n ≤ 1000001) (hlen : ∀ p ∈ ws, p.length ≤ 1000000) :
    Calls Tryd.prog 34 #[.slice a n c] w (GotI (insW ws) w) := by
  obtain ⟨R, hR⟩ : ∃ R, R = insW ws := ⟨_, rfl⟩
  rw [← hR]
  have HR := Lib.hid hR
  have HW := Lib.hid hr
  have HL := Lib.hid hlen
  obtain ⟨b, off, rfl, hbl0, hcw⟩ := hr.2 hn1
  have HC := Lib.hid hcw
  obtain ⟨p0, hp0⟩ : ∃ p0, p0 = ws.getD 0 [] := ⟨_, rfl⟩
  obtain ⟨P0, hP0⟩ : ∃ P0, P0 = bs p0 := ⟨_, rfl⟩
  have hc0 := hcw 0 (by omega)
  rw [← hp0, ← hP0, Nat.add_zero] at hc0
  have HP0 : Hid (P0.data.toList = p0) := by show _ = _; rw [hP0, bs_data]
  obtain ⟨o, ho⟩ : ∃ o, o = named p0 := ⟨_, rfl⟩
  have hor := named_range p0
  rw [← ho] at hor
  have HO := Lib.hid ho
  have Hp0 := Lib.hid hp0
  have HT := Lib.hid (Tb.new w)
  have G : Below w.heap.size w ((w.alloc (.cells #[.int .i64 0, .int .i64 0, .int .i64 0] 24)).alloc (.cells #[.int .i64 0, .int .i64 0, .int .i64 0] 24)) := ((Below.refl _ _).alloc (Nat.le_refl _) _).alloc (by simp) _
  have hb0 := build_none
  have hni : (0 : Int) < (n : Int) := by omega
  have hni3 : 0 < n := by omega
  have hni4 : ¬ n = 0 := by omega
  have hni5 : decide (0 < n) = true := by simp; omega
  have hni2 : decide ((0 : Int) < (n : Int)) = true := by simp; omega
  have CN := Lib.hid nameR_nat
  have CA := Lib.hid (fun W => argsR_any o W)
  clear hR hr hlen hcw hp0 hP0 ho
  go_enter Tryd.func34, Tryd.ntmps34
  go_wp2
  go_loopw [5] (fun i wr => ∃ k : Nat, 1 ≤ k ∧ k ≤ 26 ∧ i = .int .i64 k ∧ Hid (Tb w.heap.size (vf o k) 0 0 wr) ∧ Below w.heap.size w wr) (fun i _ => 26 - (intOf i).toNat)
  case atStart =>
    refine ⟨1, by omega, by omega, rfl, ?_, G⟩
    have : vf o 1 = 0 := by unfold vf; split <;> omega
    show Tb _ _ _ _ _
    rw [this]; exact HT.out
  case round =>
    obtain ⟨k, hk1, hk2, rfl, HT1, G1⟩ := hrel
    clear HT G
    have hcW := keep_cellR (p := ⟨b, off, none⟩) (G1.mono (Nat.le_refl _)) hc0
    obtain ⟨v, hv⟩ : ∃ v, v = vf o k := ⟨_, rfl⟩
    rw [← hv] at HT1
    obtain ⟨⟨a0, a1, a2⟩, ⟨f0, f1, f2⟩, ⟨z0, z1, z2⟩, ⟨y0, y1, y2⟩⟩ := HT1.out.cells
    by_cases hk : k < 26
    · obtain ⟨S, hS⟩ : ∃ S, S = opNameOf k := ⟨_, rfl⟩
      have cn := fun W => CN.out k hk1 hk W
      rw [← hS] at cn
      have C := Lib.hid cn
      by_cases he : o = k
      · have hSP : S = P0 := by
          rw [hS, ← bs_of P0, HP0.out]
          have h1 : named p0 ≠ 0 := by rw [← HO.out, he]; omega
          obtain ⟨h2, h3⟩ := named_ok h1
          rw [onm_in h2, ← HO.out, he] at h3
          simp only [Int.toNat_natCast] at h3
          rw [← h3, bs_of]
        rw [hSP] at C
        have hvf : vf o (k + 1) = k := by unfold vf; rw [if_pos (by omega), he]
        clear cn hS hSP hv
        go_wp2_with fail
        go_region_held3 (fun W => W.cell? ⟨b, off, none⟩ = some (.string P0) ∧ W.cell? ⟨w.heap.size + 1, 0, none⟩ = some (.int .i64 v) ∧ W.frozen? ⟨w.heap.size + 1, 0, none⟩ = false ∧ Below wr.heap.size wr W)
          (first
            | exact ⟨hcW, a0, f0, (Below.refl _ _).drew⟩
            | (go_split_ands; exact ⟨keep_cellR hb9 (by assumption), keep_cellR hb9 (by assumption), keep_frozenR (v := .int .i64 v) hb9 (by assumption) (by assumption), keep_below (by assumption) hb9⟩)
            | (go_split_ands; exact ⟨by assumption, by assumption, by assumption, by assumption⟩))
          (first | (go_split_ands; go_at_call 26; refine (C.out _).mono ?_; rintro e w9 ⟨rfl, hb9⟩))
        go_split_ands
        go_wp2
        go_roundw
        case rel => exact ⟨k + 1, by omega, by omega, by go_num, (by show Tb _ _ _ _ _; rw [hvf]; exact ((HT1.out.below (by assumption)).set _).1), (keep_below G1 (by assumption)).setCell (p := ⟨w.heap.size + 1, 0, none⟩) (Nat.le_succ _) _⟩
        case measure => simp [intOf]; omega
      · have hne : (S.toList == P0.toList) = false := by
          rw [beq_eq_false_iff_ne, Lib.toList_data, Lib.toList_data, HP0.out, hS]
          intro h
          have hkk : kn (k : Int) = true := kn_iff.2 (by omega)
          have h1 := named_onm hkk
          rw [onm_in hkk] at h1
          simp only [Int.toNat_natCast, h] at h1
          rw [← HO.out] at h1; exact he h1
        have hvf : vf o (k + 1) = v := by
          rw [hv]; unfold vf
          by_cases h : o < k
          · rw [if_pos h, if_pos (by omega)]
          · rw [if_neg h, if_neg (by omega)]
        clear cn hS hv
        go_wp2_with fail
        go_region_held3 (fun W => W.cell? ⟨b, off, none⟩ = some (.string P0) ∧ W.cell? ⟨w.heap.size + 1, 0, none⟩ = some (.int .i64 v) ∧ W.frozen? ⟨w.heap.size + 1, 0, none⟩ = false ∧ Below wr.heap.size wr W)
          (first
            | exact ⟨hcW, a0, f0, (Below.refl _ _).drew⟩
            | (go_split_ands; exact ⟨keep_cellR hb9 (by assumption), keep_cellR hb9 (by assumption), keep_frozenR (v := .int .i64 v) hb9 (by assumption) (by assumption), keep_below (by assumption) hb9⟩)
            | (go_split_ands; exact ⟨by assumption, by assumption, by assumption, by assumption⟩))
          (first | (go_split_ands; go_at_call 26; refine (C.out _).mono ?_; rintro e w9 ⟨rfl, hb9⟩))
        go_split_ands
        go_wp2
        go_roundw
        case rel => exact ⟨k + 1, by omega, by omega, by go_num, (by show Tb _ _ _ _ _; rw [hvf]; exact HT1.out.below (by assumption)), keep_below G1 (by assumption)⟩
        case measure => simp [intOf]; omega
    · have hvo : v = o := by rw [hv]; unfold vf; rw [if_pos (by omega)]
      subst hvo
      clear hv CN hk1 hk2
      by_cases ho0 : v = 0
      · have HQ : Hid (R = ((0, 0, 0), 3)) := by
          show _ = _
          rw [HR.out, insW_no (Or.inl (by rw [← Hp0.out, ← HO.out]; exact ho0))]
        subst ho0
        clear HR HO
        go_wp2
        exact bodyPost_ret (v := .tuple #[.agg #[.int .i64 0, .int .i64 0, .int .i64 0], .int .i64 3]) (by simp [results, Tryd.results34, go_sem, z0, z1, z2]) rfl (by
          rw [HQ.out]
          exact ⟨rfl, ((G1.setCell (Nat.le_refl _) _).setCell (Nat.le_refl _) _).setCell (Nat.le_refl _) _⟩)
      · have hz : (v == 0) = false := by rw [beq_eq_false_iff_ne]; exact ho0
        have hkv : kn v = true := kn_iff.2 (by omega)
        have hna : argsOf v = (nargs v : Int) := by unfold argsOf; rw [if_pos hkv]
        have hnl2 := nargs_le v
        obtain ⟨m, hm⟩ : ∃ m, m = nargs v := ⟨_, rfl⟩
        have ca := fun W => CA.out W
        rw [hna, ← hm] at ca
        have CA2 := Lib.hid ca
        rw [← hm] at hnl2
        have hwl : n = ws.length := HW.out.1
        by_cases hnm : n = m + 1
        · have HR1 : Hid (R = insV v ws (n - 1) 1 0 0) := by
            show _ = _
            rw [HR.out, insW_V (by rw [← Hp0.out, ← HO.out]; exact ho0) (by rw [← Hp0.out, ← HO.out, ← hm, ← hwl]; exact hnm), ← Hp0.out, ← HO.out, hwl]
          have e1 : ((n : Int) != (m : Int) + 1) = false := by simp; omega
          have hn3 : n ≤ 3 := by omega
          subst hnm
          clear ca hna hm hkv hwl CA HR HO ho0
          go_wp2_with fail
          refine (CA2.out _).mono ?_; rintro e w3 ⟨rfl, hb⟩
          replace HT1 := Lib.hid (HT1.out.below hb)
          replace G1 := keep_below G1 hb
          clear a0 a1 a2 f0 f1 f2 z0 z1 z2 y0 y1 y2 hb hcW CA2
          obtain ⟨⟨a0, a1, a2⟩, ⟨f0, f1, f2⟩, ⟨z0, z1, z2⟩, ⟨y0, y1, y2⟩⟩ := HT1.out.cells
          go_wp2
          clear a0 a1 a2 f0 f1 f2 z0 z1 z2 y0 y1 y2
          go_loopw [6] (fun i wr => ∃ (k : Nat) (x y : Int), 1 ≤ k ∧ k ≤ m + 1 ∧ i = .int .i64 k ∧ Hid (Tb w.heap.size v x y wr) ∧ Hid (R = insV v ws (m + 1 - k) k x y) ∧ Below w.heap.size w wr) (fun i _ => m + 1 - (intOf i).toNat)
          case atStart => exact ⟨1, 0, 0, by omega, by omega, rfl, HT1, HR1, G1⟩
          case round =>
            obtain ⟨k, x, y, hk1, hk2, rfl, HT2, HRk, G2⟩ := hrel
            clear HT1 HR1 G1
            obtain ⟨⟨a0, a1, a2⟩, ⟨f0, f1, f2⟩, ⟨z0, z1, z2⟩, ⟨y0, y1, y2⟩⟩ := HT2.out.cells
            by_cases hkm : k < m + 1
            · have hck := keep_cellR (p := ⟨b, off + k, none⟩) G2 (HC.out k hkm)
              obtain ⟨P, hP⟩ : ∃ P, P = bs (ws.getD k []) := ⟨_, rfl⟩
              rw [← hP] at hck
              have hPl : P.size ≤ 1000000 := by
                rw [hP, bs_size]
                have hkl : k < ws.length := by have := HW.out.1; omega
                refine HL.out _ ?_
                rw [List.getD_eq_getElem?_getD, List.getElem?_eq_getElem hkl]; exact List.getElem_mem hkl
              obtain ⟨⟨q, E⟩, hq⟩ : ∃ r, r = num P.data.toList := ⟨_, rfl⟩
              have cq := fun W => numberR_any P hPl W
              rw [← hq] at cq
              have CQ := Lib.hid cq
              have hst : m + 1 - k = (m - k) + 1 := by omega
              have HR1' := HRk.out
              rw [hst, insV] at HR1'
              have hPd : P.data.toList = ws.getD k [] := by rw [hP, bs_data]
              rw [← hPd, ← hq] at HR1'
              have hE3 : E = 0 ∨ (q = 0 ∧ E = 3) := by
                rcases num_cases P.data.toList with ⟨n', hn', _⟩ | hn'
                · left; rw [hn'] at hq; injection hq
                · right; rw [hn'] at hq; injection hq with h1 h2; exact ⟨h1, h2⟩
              clear cq hst hP hPd hq HRk
              rcases (show k = 1 ∨ k = 2 by omega) with rfl | rfl
              · rcases hE3 with rfl | ⟨rfl, rfl⟩
                · have HR2 : Hid (R = insV v ws (m + 1 - 2) 2 q y) := by
                    show _ = _
                    rw [HR1']; simp
                  clear HR1'
                  go_wp2_with fail
                  refine (CQ.out _).mono ?_; rintro e w5 ⟨rfl, hb⟩
                  replace HT2 := Lib.hid (HT2.out.below hb)
                  replace G2 := keep_below G2 hb
                  clear a0 a1 a2 f0 f1 f2 z0 z1 z2 y0 y1 y2 hb hck
                  obtain ⟨⟨a0, a1, a2⟩, ⟨f0, f1, f2⟩, ⟨z0, z1, z2⟩, ⟨y0, y1, y2⟩⟩ := HT2.out.cells
                  have HT3 := Lib.hid (HT2.out.set q).2.1
                  go_wp2
                  go_roundw
                  case rel => exact ⟨2, q, y, by omega, by omega, by go_num, HT3, HR2, G2.setCell (p := ⟨w.heap.size + 1, 1, none⟩) (Nat.le_succ _) _⟩
                  case measure => simp [intOf]; omega
                · have HQ : Hid (R = ((0, 0, 0), 3)) := by
                    show _ = _
                    rw [HR1']; simp
                  clear HR1'
                  go_wp2_with fail
                  refine (CQ.out _).mono ?_; rintro e w5 ⟨rfl, hb⟩
                  replace HT2 := Lib.hid (HT2.out.below hb)
                  replace G2 := keep_below G2 hb
                  clear a0 a1 a2 f0 f1 f2 z0 z1 z2 y0 y1 y2 hb hck
                  obtain ⟨⟨a0, a1, a2⟩, ⟨f0, f1, f2⟩, ⟨z0, z1, z2⟩, ⟨y0, y1, y2⟩⟩ := HT2.out.cells
                  go_wp2
                  exact bodyPost_ret (v := .tuple #[.agg #[.int .i64 0, .int .i64 0, .int .i64 0], .int .i64 3]) (by simp [results, Tryd.results34, go_sem, z0, z1, z2]) rfl (by
                    rw [HQ.out]
                    exact ⟨rfl, ((G2.setCell (Nat.le_refl _) _).setCell (Nat.le_refl _) _).setCell (Nat.le_refl _) _⟩)
              · rcases hE3 with rfl | ⟨rfl, rfl⟩
                · have HR2 : Hid (R = insV v ws (m + 1 - 3) 3 x q) := by
                    show _ = _
                    rw [HR1']; simp
                  clear HR1'
                  go_wp2_with fail
                  refine (CQ.out _).mono ?_; rintro e w5 ⟨rfl, hb⟩
                  replace HT2 := Lib.hid (HT2.out.below hb)
                  replace G2 := keep_below G2 hb
                  clear a0 a1 a2 f0 f1 f2 z0 z1 z2 y0 y1 y2 hb hck
                  obtain ⟨⟨a0, a1, a2⟩, ⟨f0, f1, f2⟩, ⟨z0, z1, z2⟩, ⟨y0, y1, y2⟩⟩ := HT2.out.cells
                  have HT3 := Lib.hid (HT2.out.set q).2.2
                  go_wp2
                  go_roundw
                  case rel => exact ⟨3, x, q, by omega, by omega, by go_num, HT3, HR2, G2.setCell (p := ⟨w.heap.size + 1, 2, none⟩) (Nat.le_succ _) _⟩
                  case measure => simp [intOf]; omega
                · have HQ : Hid (R = ((0, 0, 0), 3)) := by
                    show _ = _
                    rw [HR1']; simp
                  clear HR1'
                  go_wp2_with fail
                  refine (CQ.out _).mono ?_; rintro e w5 ⟨rfl, hb⟩
                  replace HT2 := Lib.hid (HT2.out.below hb)
                  replace G2 := keep_below G2 hb
                  clear a0 a1 a2 f0 f1 f2 z0 z1 z2 y0 y1 y2 hb hck
                  obtain ⟨⟨a0, a1, a2⟩, ⟨f0, f1, f2⟩, ⟨z0, z1, z2⟩, ⟨y0, y1, y2⟩⟩ := HT2.out.cells
                  go_wp2
                  exact bodyPost_ret (v := .tuple #[.agg #[.int .i64 0, .int .i64 0, .int .i64 0], .int .i64 3]) (by simp [results, Tryd.results34, go_sem, z0, z1, z2]) rfl (by
                    rw [HQ.out]
                    exact ⟨rfl, ((G2.setCell (Nat.le_refl _) _).setCell (Nat.le_refl _) _).setCell (Nat.le_refl _) _⟩)
            · have hst : m + 1 - k = 0 := by omega
              have HR1' := HRk.out
              rw [hst, insV] at HR1'
              have cr := fun W => rightR_any v x y W
              cases hri : right (v, x, y)
              · have HQ : Hid (R = ((0, 0, 0), 6)) := by show _ = _; rw [HR1']; simp [fin, hri]
                rw [hri] at cr
                have CR := Lib.hid cr
                clear cr hri HR1' hst HRk
                go_wp2_with fail
                refine (CR.out _).mono ?_; rintro e w5 ⟨rfl, hb⟩
                replace HT2 := Lib.hid (HT2.out.below hb)
                replace G2 := keep_below G2 hb
                clear a0 a1 a2 f0 f1 f2 z0 z1 z2 y0 y1 y2 hb
                obtain ⟨⟨a0, a1, a2⟩, ⟨f0, f1, f2⟩, ⟨z0, z1, z2⟩, ⟨y0, y1, y2⟩⟩ := HT2.out.cells
                go_wp2
                exact bodyPost_ret (v := .tuple #[.agg #[.int .i64 0, .int .i64 0, .int .i64 0], .int .i64 6]) (by simp [results, Tryd.results34, go_sem, z0, z1, z2]) rfl (by
                  rw [HQ.out]
                  exact ⟨rfl, ((G2.setCell (Nat.le_refl _) _).setCell (Nat.le_refl _) _).setCell (Nat.le_refl _) _⟩)
              · have HQ : Hid (R = ((v, x, y), 0)) := by show _ = _; rw [HR1']; simp [fin, hri]
                rw [hri] at cr
                have CR := Lib.hid cr
                clear cr hri HR1' hst HRk
                go_wp2_with fail
                refine (CR.out _).mono ?_; rintro e w5 ⟨rfl, hb⟩
                replace HT2 := Lib.hid (HT2.out.below hb)
                replace G2 := keep_below G2 hb
                clear a0 a1 a2 f0 f1 f2 z0 z1 z2 y0 y1 y2 hb
                obtain ⟨⟨a0, a1, a2⟩, ⟨f0, f1, f2⟩, ⟨z0, z1, z2⟩, ⟨y0, y1, y2⟩⟩ := HT2.out.cells
                go_wp2
                exact bodyPost_ret (v := .tuple #[.agg #[.int .i64 v, .int .i64 x, .int .i64 y], .int .i64 0]) (by simp [results, Tryd.results34, go_sem, z0, z1, z2]) rfl (by
                  rw [HQ.out]
                  exact ⟨rfl, ((G2.setCell (Nat.le_refl _) _).setCell (Nat.le_refl _) _).setCell (Nat.le_refl _) _⟩)
        · have HQ : Hid (R = ((0, 0, 0), 3)) := by
            show _ = _
            rw [HR.out, insW_no (Or.inr (by rw [← Hp0.out, ← HO.out, ← hm, ← hwl]; exact hnm))]
          have e1 : ((n : Int) != (m : Int) + 1) = true := by simp; omega
          clear ca hna hm hkv hwl CA HR HO
          go_wp2_with fail
          refine (CA2.out _).mono ?_; rintro e w3 ⟨rfl, hb⟩
          replace HT1 := Lib.hid (HT1.out.below hb)
          replace G1 := keep_below G1 hb
          clear a0 a1 a2 f0 f1 f2 z0 z1 z2 y0 y1 y2 hb
          obtain ⟨⟨a0, a1, a2⟩, ⟨f0, f1, f2⟩, ⟨z0, z1, z2⟩, ⟨y0, y1, y2⟩⟩ := HT1.out.cells
          go_wp2
          exact bodyPost_ret (v := .tuple #[.agg #[.int .i64 0, .int .i64 0, .int .i64 0], .int .i64 3]) (by simp [results, Tryd.results34, go_sem, z0, z1, z2]) rfl (by
            rw [HQ.out]
            exact ⟨rfl, ((G1.setCell (Nat.le_refl _) _).setCell (Nat.le_refl _) _).setCell (Nat.le_refl _) _⟩)
end Go.Proofs.YtofmlodfhdjjiaaDoor
