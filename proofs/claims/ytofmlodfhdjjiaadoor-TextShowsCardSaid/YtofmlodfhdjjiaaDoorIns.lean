/- What is proved here: the contract of text.instruction. Conditions: the listed variables hold what their initialisers lay ('Env'); the line has at most a million bytes. -/
import Derived.Test.YtofmlodfhdjjiaaDoorNamed
import Derived.Test.YtofmlodfhdjjiaaDoorCode
namespace Go.Proofs.YtofmlodfhdjjiaaDoor
open Go.ChangeShapes Go.WideShapes Go.RowKit

/-- What is left of a line's numbers. -/
def insF (o : Int) : Nat → Nat → List UInt8 → Bool → Int → Int → (Int × Int × Int) × Int
  | 0, _, _, m, a, b => fin (o, a, b) m
  | f + 1, k, r, _, a, b =>
    if (num (cutB 32 r).1).2 ≠ 0 then ((0, 0, 0), 3)
    else if k = 0 then insF o f 1 (cutB 32 r).2.1 (cutB 32 r).2.2 (num (cutB 32 r).1).1 b
    else insF o f 2 (cutB 32 r).2.1 (cutB 32 r).2.2 a (num (cutB 32 r).1).1
theorem ins_F {l : List UInt8} (h : named (cutB 32 l).1 ≠ 0) : ins l = insF (named (cutB 32 l).1) (nargs (named (cutB 32 l).1)) 0 (cutB 32 l).2.1 (cutB 32 l).2.2 0 0 := by
  unfold ins
  rw [if_neg h]
  rcases nargs_012 (named (cutB 32 l).1) with hn | hn | hn
  · simp [hn, insF]
  · simp [hn, insF]
  · simp [hn, insF]
theorem ins_no {l : List UInt8} (h : named (cutB 32 l).1 = 0) : ins l = ((0, 0, 0), 3) := by unfold ins; rw [if_pos h]
/-- What a call leaves that answers an instruction and an error. -/
def GotI (r : (Int × Int × Int) × Int) (w : World) (e : Ending) (w' : World) : Prop :=
  e = .returned (.tuple #[.agg #[.int .i64 r.1.1, .int .i64 r.1.2.1, .int .i64 r.1.2.2], .int .i64 r.2]) ∧ Below w.heap.size w w'
/-- The answer's cell, and the numbers'. -/
def Zn (B g : Nat) (x y : Int) (W : World) : Prop :=
  B < g ∧ g < W.heap.size ∧ W.heap[B]? = some (.cells #[.int .i64 0, .int .i64 0, .int .i64 0] 24 (0, 0)) ∧ W.heap[g]? = some (.cells #[.int .i64 x, .int .i64 y] 41 (0, 0))
theorem Zn.below {B g : Nat} {x y : Int} {W W' : World} (h : Zn B g x y W) (hb : Below W.heap.size W W') : Zn B g x y W' := by
  obtain ⟨h0, h1, h2, h3⟩ := h
  exact ⟨h0, Nat.lt_of_lt_of_le h1 hb.size, (hb.block B (by omega)).trans h2, (hb.block g h1).trans h3⟩
theorem Zn.set0 {B g : Nat} {x y v : Int} {W : World} (h : Zn B g x y W) : Zn B g v y (W.setCell ⟨g, 0, none⟩ (.int .i64 v)) := by
  obtain ⟨h0, h1, h2, h3⟩ := h
  refine ⟨h0, by simpa [World.setCell] using h1, ?_, ?_⟩
  · simp [World.setCell, Array.getElem?_modify, h2]; omega
  · simp [World.setCell, Array.getElem?_modify, h3]
theorem Zn.set1 {B g : Nat} {x y v : Int} {W : World} (h : Zn B g x y W) : Zn B g x v (W.setCell ⟨g, 1, none⟩ (.int .i64 v)) := by
  obtain ⟨h0, h1, h2, h3⟩ := h
  refine ⟨h0, by simpa [World.setCell] using h1, ?_, ?_⟩
  · simp [World.setCell, Array.getElem?_modify, h2]; omega
  · simp [World.setCell, Array.getElem?_modify, h3]
theorem keep_below {w W w9 : World} (h : Below w.heap.size w W) (hb : Below W.heap.size W w9) : Below w.heap.size w w9 := h.trans (hb.mono h.size)
theorem below_alloc (w : World) (o : Obj) : Below w.heap.size w (w.alloc o) := (Below.refl _ _).alloc (Nat.le_refl _) o
theorem blk_new {w W : World} (o o' : Obj) (hb : Below (w.alloc o).heap.size (w.alloc o) W) : (W.alloc o').heap[w.heap.size]? = some o ∧ (W.alloc o').heap[W.heap.size]? = some o' ∧ w.heap.size < W.heap.size := by
  have hz := hb.size
  simp at hz
  refine ⟨?_, new_block _ _, by omega⟩
  rw [(below_alloc W o').block _ (by omega), hb.block _ (by simp)]
  exact new_block _ _
theorem build_none (w : World) : (Instr.build 24 #[]).run Tryd.prog w = .ok (.agg #[.int .i64 0, .int .i64 0, .int .i64 0]) w := run_build w 24 _ _ (by kernel_rfl)
theorem build_ins (o a b : Int) (w : World) : (Instr.build 24 #[(0, .int .i64 o), (1, .int .i64 a), (2, .int .i64 b)]).run Tryd.prog w = .ok (.agg #[.int .i64 o, .int .i64 a, .int .i64 b]) w := run_build w 24 _ _ (by kernel_rfl)
theorem cutS {s : ByteArray} (hs : s.size ≤ 1000000) (c : UInt8) : ∃ (A B : ByteArray) (M : Bool), A.size ≤ 1000000 ∧ B.size ≤ 1000000 ∧ A.data.toList = (cutB c s.data.toList).1 ∧ B.data.toList = (cutB c s.data.toList).2.1 ∧ M = (cutB c s.data.toList).2.2 ∧
    ∀ W, Calls Tryd.prog 44 #[.string s, .string ⟨#[c]⟩] W fun e w' => e = .returned (.tuple #[.string A, .string B, .bool M]) ∧ Below W.heap.size W w' := by
  have hl := cutB_len c s.data.toList
  have e : s.data.toList.length = s.size := by simp
  rw [e] at hl
  refine ⟨_, _, _, ?_, ?_, bs_data _, bs_data _, rfl, fun W => cut_any s c (by unfold maxLen; omega) W⟩
  · rw [bs_size]; omega
  · rw [bs_size]; omega

set_option maxHeartbeats 2000000 in
set_option maxRecDepth 100000 in
theorem instr_no (s : ByteArray) (hs : s.size ≤ 1000000) (w : World) (hN : Nms w) (h : named (cutB 32 s.data.toList).1 = 0) :
    Calls Tryd.prog 32 #[.string s] w (GotI ((0, 0, 0), 3) w) := by
  obtain ⟨A, B, M, hA, hB, a1, a2, a3, c1⟩ := cutS hs 32
  have C1 := Lib.hid c1
  have cn := fun W h => named_any A W h
  have e0 : nmd A.data.toList = (0, 3) := by unfold nmd; rw [a1, if_pos h]
  rw [e0] at cn
  have CN := Lib.hid cn
  have HN := Lib.hid hN
  have hb0 := build_none
  clear a1 a2 a3 c1 cn e0 h hN
  go_enter Tryd.func32, Tryd.ntmps32
  go_wp2_with fail
  refine (C1.out _).mono ?_
  rintro e w1 ⟨rfl, hb⟩
  have G1 := (below_alloc w (.cells #[.int .i64 0, .int .i64 0, .int .i64 0] 24)).trans (hb.mono (by simp))
  have HN1 := Lib.hid (HN.out.below G1)
  have hbk := (hb.block w.heap.size (by simp)).trans (new_block _ _)
  clear hb HN
  have r0 := Lib.cell_of_heap hbk 0
  have r1 := Lib.cell_of_heap hbk 1
  have r2 := Lib.cell_of_heap hbk 2
  have z0 := Lib.frozen_of_heap hbk 0
  have z1 := Lib.frozen_of_heap hbk 1
  have z2 := Lib.frozen_of_heap hbk 2
  simp at r0 r1 r2
  clear hbk
  go_wp2_with (go_at_call 45; refine (CN.out _ HN1.out).mono ?_; rintro e w2 ⟨rfl, rfl⟩)
  exact bodyPost_ret (v := .tuple #[.agg #[.int .i64 0, .int .i64 0, .int .i64 0], .int .i64 3]) (by simp [results, Tryd.results32, go_sem, r0, r1, r2]) rfl ⟨rfl, ((G1.setCell (Nat.le_refl _) _).setCell (Nat.le_refl _) _).setCell (Nat.le_refl _) _⟩

set_option maxHeartbeats 4000000 in
set_option maxRecDepth 100000 in
theorem instr_yes (s : ByteArray) (hs : s.size ≤ 1000000) (w : World) (hE : Env w) (R : (Int × Int × Int) × Int) (hR : R = ins s.data.toList) (h : named (cutB 32 s.data.toList).1 ≠ 0) :
    Calls Tryd.prog 32 #[.string s] w (GotI R w) := by
  obtain ⟨A, B, M, hA, hB, a1, a2, a3, c1⟩ := cutS hs 32
  have C1 := Lib.hid c1
  rw [ins_F h, ← a1, ← a2, ← a3] at hR
  rw [← a1] at h
  obtain ⟨o, ho⟩ : ∃ o, o = named A.data.toList := ⟨_, rfl⟩
  have cn := fun W h => named_any A W h
  have e0 : nmd A.data.toList = (o, 0) := by unfold nmd; rw [if_neg h, ho]
  rw [e0] at cn
  rw [← ho] at hR h
  have hko : kn o = true := by rw [ho] at h ⊢; exact (named_ok h).1
  have CN := Lib.hid cn
  have ca := fun W => args_any o W
  have hna : argsOf o = (nargs o : Int) := by unfold argsOf; rw [if_pos hko]
  have hnl := nargs_le o
  obtain ⟨n, hnn⟩ : ∃ n, n = nargs o := ⟨_, rfl⟩
  rw [hna, ← hnn] at ca
  rw [← hnn] at hnl hR
  have CA := Lib.hid ca
  have HE := Lib.hid hE
  have HR : Hid (R = insF o (n - 0) 0 B.data.toList M 0 0) := hR
  have hb0 := build_none
  have hb1 := build_ins
  clear a1 a2 a3 c1 cn e0 h hE ca hna hnn ho hR hko
  go_enter Tryd.func32, Tryd.ntmps32
  go_wp2_with fail
  refine (C1.out _).mono ?_
  rintro e w1 ⟨rfl, hb⟩
  have G1 := (below_alloc w (.cells #[.int .i64 0, .int .i64 0, .int .i64 0] 24)).trans (hb.mono (by simp))
  have HE1 := Lib.hid (HE.out.below G1)
  obtain ⟨n1, n2, n3⟩ := blk_new _ (.cells #[.int .i64 0, .int .i64 0] 41) hb
  have HZ : Hid (Zn w.heap.size w1.heap.size 0 0 (w1.alloc (.cells #[.int .i64 0, .int .i64 0] 41))) := ⟨n3, by simp, n1, n2⟩
  have G2 : Hid (Below w.heap.size w (w1.alloc (.cells #[.int .i64 0, .int .i64 0] 41))) := G1.alloc (by omega) _
  clear hb n1 n2 C1
  go_wp2_with (first
    | (go_at_call 45; refine (CN.out _ HE1.out.nms).mono ?_; rintro e w2 ⟨rfl, rfl⟩)
    | (go_at_call 23; refine (CA.out _).mono ?_; rintro e w2 ⟨rfl, rfl⟩))
  clear HE1 CN CA G1
  go_loopw [5, 6, 30] (fun r m i wr => ∃ (k : Nat) (D : ByteArray) (m' : Bool) (x y : Int), k ≤ n ∧ i = .int .i64 k ∧ r = .string D ∧ m = .bool m' ∧ D.size ≤ 1000000 ∧ Hid (Zn w.heap.size w1.heap.size x y wr) ∧ Hid (R = insF o (n - k) k D.data.toList m' x y) ∧ Hid (Below w.heap.size w wr))
    (fun _ _ i _ => n - (intOf i).toNat)
  case atStart => exact ⟨0, B, M, 0, 0, by omega, rfl, rfl, rfl, hB, HZ, HR, G2⟩
  case round =>
    obtain ⟨k, D, m, x, y, hk, rfl, rfl, rfl, hD, HZ1, HR1, G⟩ := hrel
    clear HZ HR G2
    by_cases hkn : k < n
    · obtain ⟨P, Q, m', hP, hQ, p1, p2, p3, c2⟩ := cutS hD 32
      have C2 := Lib.hid c2
      have hst : n - k = (n - k - 1) + 1 := by omega
      have HR1' := HR1.out
      rw [hst, insF, ← p1, ← p2, ← p3] at HR1'
      obtain ⟨⟨v, E⟩, hv⟩ : ∃ q, q = num P.data.toList := ⟨_, rfl⟩
      have cN := fun W h => number_any P (by omega) W h
      rw [← hv] at cN HR1'
      have C3 := Lib.hid cN
      have hE3 : E = 0 ∨ (v = 0 ∧ E = 3) := by
        rcases num_cases P.data.toList with ⟨n', hn', _⟩ | hn'
        · left; rw [hn'] at hv; injection hv
        · right; rw [hn'] at hv; injection hv with h1 h2; exact ⟨h1, h2⟩
      clear c2 cN p1 p2 p3 hst hv HR1
      rcases (show k = 0 ∨ k = 1 by omega) with rfl | rfl
      · rcases hE3 with rfl | ⟨rfl, rfl⟩
        · have HR2 : Hid (R = insF o (n - 1) 1 Q.data.toList m' v y) := by
            show _ = _
            rw [HR1']; simp; try (congr 1)
          clear HR1'
          go_wp2_with fail
          refine (C2.out _).mono ?_
          rintro e w3 ⟨rfl, hb3⟩
          have G3 := keep_below G.out hb3
          have HZ3 := HZ1.out.below hb3
          have HE3 := Lib.hid (HE.out.below G3)
          clear hb3 G HZ1
          go_wp2_with fail
          refine (C3.out _ HE3.out).mono ?_
          rintro e w4 ⟨rfl, hb4⟩
          have G4 := keep_below G3 hb4
          have HZ4 := HZ3.below hb4
          clear hb4 G3 HZ3
          obtain ⟨j0, j1, j2, j3⟩ := HZ4
          have r0 := Lib.cell_of_heap j2 0
          have r1 := Lib.cell_of_heap j2 1
          have r2 := Lib.cell_of_heap j2 2
          have z0 := Lib.frozen_of_heap j2 0
          have z1 := Lib.frozen_of_heap j2 1
          have z2 := Lib.frozen_of_heap j2 2
          have s0 := Lib.cell_of_heap j3 0
          have s1 := Lib.cell_of_heap j3 1
          have y0 := Lib.frozen_of_heap j3 0
          have y1 := Lib.frozen_of_heap j3 1
          simp at r0 r1 r2 s0 s1
          have hne : ¬ w.heap.size = w1.heap.size := by omega
          have hne2 : ¬ w1.heap.size = w.heap.size := by omega
          have hZ : Zn w.heap.size w1.heap.size x y w4 := ⟨j0, j1, j2, j3⟩
          have HZ5 := Lib.hid (hZ.set0 (v := v))
          clear hZ j2 j3 C2 C3 HE3
          go_wp2
          go_roundw
          case rel => exact ⟨1, Q, m', v, y, by omega, by go_num, rfl, rfl, hQ, HZ5, HR2, G4.setCell (p := ⟨w1.heap.size, 0, none⟩) (by show w.heap.size ≤ w1.heap.size; omega) _⟩
          case measure => simp [intOf]; omega
        · have HQ : Hid (R = ((0, 0, 0), 3)) := by
            show _ = _
            rw [HR1']; simp
          clear HR1'
          go_wp2_with fail
          refine (C2.out _).mono ?_
          rintro e w3 ⟨rfl, hb3⟩
          have G3 := keep_below G.out hb3
          have HZ3 := HZ1.out.below hb3
          have HE3 := Lib.hid (HE.out.below G3)
          clear hb3 G HZ1
          go_wp2_with fail
          refine (C3.out _ HE3.out).mono ?_
          rintro e w4 ⟨rfl, hb4⟩
          have G4 := keep_below G3 hb4
          have HZ4 := HZ3.below hb4
          clear hb4 G3 HZ3
          obtain ⟨j0, j1, j2, j3⟩ := HZ4
          have r0 := Lib.cell_of_heap j2 0
          have r1 := Lib.cell_of_heap j2 1
          have r2 := Lib.cell_of_heap j2 2
          have z0 := Lib.frozen_of_heap j2 0
          have z1 := Lib.frozen_of_heap j2 1
          have z2 := Lib.frozen_of_heap j2 2
          have s0 := Lib.cell_of_heap j3 0
          have s1 := Lib.cell_of_heap j3 1
          have y0 := Lib.frozen_of_heap j3 0
          have y1 := Lib.frozen_of_heap j3 1
          simp at r0 r1 r2 s0 s1
          have hne : ¬ w.heap.size = w1.heap.size := by omega
          have hne2 : ¬ w1.heap.size = w.heap.size := by omega
          have hZ : Zn w.heap.size w1.heap.size x y w4 := ⟨j0, j1, j2, j3⟩
          have HZ5 := Lib.hid (hZ.set0 (v := 0))
          clear hZ j2 j3 C2 C3 HE3
          go_wp2
          exact bodyPost_ret (v := .tuple #[.agg #[.int .i64 0, .int .i64 0, .int .i64 0], .int .i64 3]) (by simp [results, Tryd.results32, go_sem, r0, r1, r2]) rfl (by
            rw [HQ.out]
            exact ⟨rfl, (((G4.setCell (p := ⟨w1.heap.size, 0, none⟩) (by show w.heap.size ≤ w1.heap.size; omega) _).setCell (Nat.le_refl _) _).setCell (Nat.le_refl _) _).setCell (Nat.le_refl _) _⟩)
      · rcases hE3 with rfl | ⟨rfl, rfl⟩
        · have HR2 : Hid (R = insF o (n - 2) 2 Q.data.toList m' x v) := by
            show _ = _
            rw [HR1']; simp; try (congr 1)
          clear HR1'
          go_wp2_with fail
          refine (C2.out _).mono ?_
          rintro e w3 ⟨rfl, hb3⟩
          have G3 := keep_below G.out hb3
          have HZ3 := HZ1.out.below hb3
          have HE3 := Lib.hid (HE.out.below G3)
          clear hb3 G HZ1
          go_wp2_with fail
          refine (C3.out _ HE3.out).mono ?_
          rintro e w4 ⟨rfl, hb4⟩
          have G4 := keep_below G3 hb4
          have HZ4 := HZ3.below hb4
          clear hb4 G3 HZ3
          obtain ⟨j0, j1, j2, j3⟩ := HZ4
          have r0 := Lib.cell_of_heap j2 0
          have r1 := Lib.cell_of_heap j2 1
          have r2 := Lib.cell_of_heap j2 2
          have z0 := Lib.frozen_of_heap j2 0
          have z1 := Lib.frozen_of_heap j2 1
          have z2 := Lib.frozen_of_heap j2 2
          have s0 := Lib.cell_of_heap j3 0
          have s1 := Lib.cell_of_heap j3 1
          have y0 := Lib.frozen_of_heap j3 0
          have y1 := Lib.frozen_of_heap j3 1
          simp at r0 r1 r2 s0 s1
          have hne : ¬ w.heap.size = w1.heap.size := by omega
          have hne2 : ¬ w1.heap.size = w.heap.size := by omega
          have hZ : Zn w.heap.size w1.heap.size x y w4 := ⟨j0, j1, j2, j3⟩
          have HZ5 := Lib.hid (hZ.set1 (v := v))
          clear hZ j2 j3 C2 C3 HE3
          go_wp2
          go_roundw
          case rel => exact ⟨2, Q, m', x, v, by omega, by go_num, rfl, rfl, hQ, HZ5, HR2, G4.setCell (p := ⟨w1.heap.size, 1, none⟩) (by show w.heap.size ≤ w1.heap.size; omega) _⟩
          case measure => simp [intOf]; omega
        · have HQ : Hid (R = ((0, 0, 0), 3)) := by
            show _ = _
            rw [HR1']; simp
          clear HR1'
          go_wp2_with fail
          refine (C2.out _).mono ?_
          rintro e w3 ⟨rfl, hb3⟩
          have G3 := keep_below G.out hb3
          have HZ3 := HZ1.out.below hb3
          have HE3 := Lib.hid (HE.out.below G3)
          clear hb3 G HZ1
          go_wp2_with fail
          refine (C3.out _ HE3.out).mono ?_
          rintro e w4 ⟨rfl, hb4⟩
          have G4 := keep_below G3 hb4
          have HZ4 := HZ3.below hb4
          clear hb4 G3 HZ3
          obtain ⟨j0, j1, j2, j3⟩ := HZ4
          have r0 := Lib.cell_of_heap j2 0
          have r1 := Lib.cell_of_heap j2 1
          have r2 := Lib.cell_of_heap j2 2
          have z0 := Lib.frozen_of_heap j2 0
          have z1 := Lib.frozen_of_heap j2 1
          have z2 := Lib.frozen_of_heap j2 2
          have s0 := Lib.cell_of_heap j3 0
          have s1 := Lib.cell_of_heap j3 1
          have y0 := Lib.frozen_of_heap j3 0
          have y1 := Lib.frozen_of_heap j3 1
          simp at r0 r1 r2 s0 s1
          have hne : ¬ w.heap.size = w1.heap.size := by omega
          have hne2 : ¬ w1.heap.size = w.heap.size := by omega
          have hZ : Zn w.heap.size w1.heap.size x y w4 := ⟨j0, j1, j2, j3⟩
          have HZ5 := Lib.hid (hZ.set1 (v := 0))
          clear hZ j2 j3 C2 C3 HE3
          go_wp2
          exact bodyPost_ret (v := .tuple #[.agg #[.int .i64 0, .int .i64 0, .int .i64 0], .int .i64 3]) (by simp [results, Tryd.results32, go_sem, r0, r1, r2]) rfl (by
            rw [HQ.out]
            exact ⟨rfl, (((G4.setCell (p := ⟨w1.heap.size, 1, none⟩) (by show w.heap.size ≤ w1.heap.size; omega) _).setCell (Nat.le_refl _) _).setCell (Nat.le_refl _) _).setCell (Nat.le_refl _) _⟩)
    · have hst : n - k = 0 := by omega
      have HR2 := HR1.out
      rw [hst, insF] at HR2
      cases m
      · have cr := fun W h => right_any o x y W h
        cases hr : right (o, x, y)
        · have HQ : Hid (R = ((0, 0, 0), 6)) := by
            show _ = _
            rw [HR2]; simp [fin, hr]
          rw [hr] at cr
          have CR := Lib.hid cr
          clear cr hr HR2 HR1 hst
          obtain ⟨j0, j1, j2, j3⟩ := HZ1.out
          have s0 := Lib.cell_of_heap j3 0
          have s1 := Lib.cell_of_heap j3 1
          simp at s0 s1
          have hne : ¬ w.heap.size = w1.heap.size := by omega
          have hne2 : ¬ w1.heap.size = w.heap.size := by omega
          have hlt : w.heap.size < wr.heap.size := by omega
          have bk := fun (W : World) (hb : Below wr.heap.size wr W) => (hb.block w.heap.size hlt).trans j2
          have HB := Lib.hid bk
          clear bk j2 j3
          go_wp2_with fail
          have G3 := (G.out.alloc (by omega) (.cells #[.int .i64 o, .int .i64 x, .int .i64 y] 24))
          refine (CR.out _ (HE.out.below G3).nms).mono ?_
          rintro e w4 ⟨rfl, hb4⟩
          have G4 := keep_below G3 hb4
          have j2 := HB.out w4 ((below_alloc wr _).trans (hb4.mono (by simp)))
          have r0 := Lib.cell_of_heap j2 0
          have r1 := Lib.cell_of_heap j2 1
          have r2 := Lib.cell_of_heap j2 2
          have z0 := Lib.frozen_of_heap j2 0
          have z1 := Lib.frozen_of_heap j2 1
          have z2 := Lib.frozen_of_heap j2 2
          simp at r0 r1 r2
          clear j2 hb4
          go_wp2
          exact bodyPost_ret (v := .tuple #[.agg #[.int .i64 0, .int .i64 0, .int .i64 0], .int .i64 6]) (by simp [results, Tryd.results32, go_sem, r0, r1, r2]) rfl (by
            rw [HQ.out]
            exact ⟨rfl, ((G4.setCell (Nat.le_refl _) _).setCell (Nat.le_refl _) _).setCell (Nat.le_refl _) _⟩)
        · have HQ : Hid (R = ((o, x, y), 0)) := by
            show _ = _
            rw [HR2]; simp [fin, hr]
          rw [hr] at cr
          have CR := Lib.hid cr
          clear cr hr HR2 HR1 hst
          obtain ⟨j0, j1, j2, j3⟩ := HZ1.out
          have s0 := Lib.cell_of_heap j3 0
          have s1 := Lib.cell_of_heap j3 1
          simp at s0 s1
          have hne : ¬ w.heap.size = w1.heap.size := by omega
          have hne2 : ¬ w1.heap.size = w.heap.size := by omega
          have hlt : w.heap.size < wr.heap.size := by omega
          have bk := fun (W : World) (hb : Below wr.heap.size wr W) => (hb.block w.heap.size hlt).trans j2
          have HB := Lib.hid bk
          clear bk j2 j3
          go_wp2_with fail
          have G3 := (G.out.alloc (by omega) (.cells #[.int .i64 o, .int .i64 x, .int .i64 y] 24))
          refine (CR.out _ (HE.out.below G3).nms).mono ?_
          rintro e w4 ⟨rfl, hb4⟩
          have G4 := keep_below G3 hb4
          have j2 := HB.out w4 ((below_alloc wr _).trans (hb4.mono (by simp)))
          have j4 := (hb4.block wr.heap.size (by simp)).trans (new_block _ _)
          have r0 := Lib.cell_of_heap j2 0
          have r1 := Lib.cell_of_heap j2 1
          have r2 := Lib.cell_of_heap j2 2
          have z0 := Lib.frozen_of_heap j2 0
          have z1 := Lib.frozen_of_heap j2 1
          have z2 := Lib.frozen_of_heap j2 2
          have q0 := Lib.cell_of_heap j4 0
          have q1 := Lib.cell_of_heap j4 1
          have q2 := Lib.cell_of_heap j4 2
          simp at r0 r1 r2 q0 q1 q2
          clear j2 hb4 j4
          go_wp2
          exact bodyPost_ret (v := .tuple #[.agg #[.int .i64 o, .int .i64 x, .int .i64 y], .int .i64 0]) (by simp [results, Tryd.results32, go_sem, r0, r1, r2]) rfl (by
            rw [HQ.out]
            exact ⟨rfl, ((G4.setCell (Nat.le_refl _) _).setCell (Nat.le_refl _) _).setCell (Nat.le_refl _) _⟩)
      · have HQ : Hid (R = ((0, 0, 0), 3)) := by
          show _ = _
          rw [HR2]; simp [fin]
        clear HR2 HR1 hst
        obtain ⟨j0, j1, j2, j3⟩ := HZ1.out
        have s0 := Lib.cell_of_heap j3 0
        have s1 := Lib.cell_of_heap j3 1
        simp at s0 s1
        have hne : ¬ w.heap.size = w1.heap.size := by omega
        have hne2 : ¬ w1.heap.size = w.heap.size := by omega
        have hlt : w.heap.size < wr.heap.size := by omega
        have bk := fun (W : World) (hb : Below wr.heap.size wr W) => (hb.block w.heap.size hlt).trans j2
        have HB := Lib.hid bk
        have r0 := Lib.cell_of_heap j2 0
        have r1 := Lib.cell_of_heap j2 1
        have r2 := Lib.cell_of_heap j2 2
        have z0 := Lib.frozen_of_heap j2 0
        have z1 := Lib.frozen_of_heap j2 1
        have z2 := Lib.frozen_of_heap j2 2
        simp at r0 r1 r2
        clear bk HB j2 j3
        go_wp2
        exact bodyPost_ret (v := .tuple #[.agg #[.int .i64 0, .int .i64 0, .int .i64 0], .int .i64 3]) (by simp [results, Tryd.results32, go_sem, r0, r1, r2, hlt]) rfl (by
          rw [HQ.out]
          exact ⟨rfl, (((G.out.setCell (Nat.le_refl _) _).setCell (Nat.le_refl _) _).setCell (Nat.le_refl _) _).alloc (by simp; omega) _⟩)
theorem instr_any (s : ByteArray) (hs : s.size ≤ 1000000) (w : World) (hE : Env w) : Calls Tryd.prog 32 #[.string s] w (GotI (ins s.data.toList) w) := by
  by_cases h : named (cutB 32 s.data.toList).1 = 0
  · rw [ins_no h]; exact instr_no s hs w hE.nms h
  · exact instr_yes s hs w hE _ rfl h
end Go.Proofs.YtofmlodfhdjjiaaDoor
