/- What is proved here: the contract of the document's Decode for layer 4. Conditions: the string has at most a million bytes. -/
import Derived.Test.YtmahpmoaicjcjaaDoorR6
import Derived.Test.YtmahpmoaicjcjaaDoorRefGet
namespace Go.Proofs.YtmahpmoaicjcjaaDoor
open Go.ChangeShapes Go.WideShapes Go.RowKit

theorem decodeR_out (s : ByteArray) (p : Int) (hs : s.size ≤ 1000000) (h : p < 0 ∨ (s.size : Int) < p) (w : World) :
    Calls Tryd.prog 20 #[.string s, .int .i64 p] w (Got (badR 1) w) := by
  have hb0 := build_none
  rcases h with h | h
  all_goals
    go_enter Tryd.func20, Tryd.ntmps20
    go_wp2
    exact bodyPost_ret (v := .tuple #[.agg #[.int .i64 0, .int .i64 0, .int .i64 0], .int .i64 0, .int .i64 1]) (by simp [results, Tryd.results20, go_sem]) rfl ⟨rfl, (Below.refl _ _).alloc (Nat.le_refl _) _⟩
theorem decodeR_end (s : ByteArray) (w : World) :
    Calls Tryd.prog 20 #[.string s, .int .i64 s.size] w (Got (badR 2) w) := by
  have hb0 := build_none
  go_enter Tryd.func20, Tryd.ntmps20
  go_wp2
  exact bodyPost_ret (v := .tuple #[.agg #[.int .i64 0, .int .i64 0, .int .i64 0], .int .i64 0, .int .i64 2]) (by simp [results, Tryd.results20, go_sem]) rfl ⟨rfl, (Below.refl _ _).alloc (Nat.le_refl _) _⟩
/-- The answer's cell, and the instruction's. -/
def Two2 (B : Nat) (o x y : Int) (W : World) : Prop :=
  W.heap[B]? = some (.cells #[.int .i64 0, .int .i64 0, .int .i64 0] 23 (0, 0)) ∧ W.heap[B + 1]? = some (.cells #[.int .i64 o, .int .i64 x, .int .i64 y] 23 (0, 0))
theorem Two2.lt {B : Nat} {o x y : Int} {W : World} (h : Two2 B o x y W) : B + 1 < W.heap.size := by
  rcases Nat.lt_or_ge (B + 1) W.heap.size with h1 | h1
  · exact h1
  · have := h.2; simp [Array.getElem?_eq_none h1] at this
theorem Two2.below {B : Nat} {o x y : Int} {W W' : World} (h : Two2 B o x y W) (hb : Below W.heap.size W W') : Two2 B o x y W' := by
  have hl := h.lt
  exact ⟨(hb.block B (by omega)).trans h.1, (hb.block (B + 1) hl).trans h.2⟩
theorem Two2.new (w : World) (o : Int) : Two2 w.heap.size o 0 0 ((w.alloc (.cells #[.int .i64 0, .int .i64 0, .int .i64 0] 23)).alloc (.cells #[.int .i64 o, .int .i64 0, .int .i64 0] 23)) := by
  refine ⟨?_, ?_⟩
  · rw [(below_alloc (w.alloc (.cells #[.int .i64 0, .int .i64 0, .int .i64 0] 23)) _).block _ (by simp)]; exact new_block _ _
  · have := new_block (w.alloc (.cells #[.int .i64 0, .int .i64 0, .int .i64 0] 23)) (.cells #[.int .i64 o, .int .i64 0, .int .i64 0] 23)
    simpa using this
theorem Two2.set1 {B : Nat} {o x y v : Int} {W : World} (h : Two2 B o x y W) : Two2 B o v y (W.setCell ⟨B + 1, 1, none⟩ (.int .i64 v)) := by
  refine ⟨?_, ?_⟩
  · have h1 := h.1; simp [World.setCell, Array.getElem?_modify, h1]
  · have h2 := h.2; simp [World.setCell, Array.getElem?_modify, h2]
theorem Two2.set2 {B : Nat} {o x y v : Int} {W : World} (h : Two2 B o x y W) : Two2 B o x v (W.setCell ⟨B + 1, 2, none⟩ (.int .i64 v)) := by
  refine ⟨?_, ?_⟩
  · have h1 := h.1; simp [World.setCell, Array.getElem?_modify, h1]
  · have h2 := h.2; simp [World.setCell, Array.getElem?_modify, h2]
theorem below_two (w : World) (o : Obj) (o' : Obj) : Below w.heap.size w ((w.alloc o).alloc o') := ((Below.refl _ _).alloc (Nat.le_refl _) _).alloc (by simp) _

theorem decodeR_op (s : ByteArray) (k : Nat) (hlt : k < s.size) (hk : Hid (kn (s[k].toNat : Int) = false)) (w : World) :
    Calls Tryd.prog 20 #[.string s, .int .i64 k] w (Got (badR 6) w) := by
  have hb0 := build_none
  have b0 := build_at0
  have ck := fun W => nameR_any (s[k].toNat : Int) W
  rw [onm_out hk.out] at ck
  have CK := Lib.hid ck
  have e1 : (k == s.size) = false := by rw [beq_eq_false_iff_ne]; omega
  have e2 : ((k : Int) == (s.size : Int)) = false := by rw [beq_eq_false_iff_ne]; omega
  have hw := wrap_byte s[k]
  have G := Lib.hid (below_two w (.cells #[.int .i64 0, .int .i64 0, .int .i64 0] 23) (.cells #[.int .i64 (s[k].toNat : Int), .int .i64 0, .int .i64 0] 23))
  have HT := Lib.hid (Two2.new w (s[k].toNat : Int))
  clear ck
  go_enter Tryd.func20, Tryd.ntmps20
  go_wp2_with fail
  refine (CK.out _).mono ?_; rintro e w1 ⟨rfl, hb⟩
  have G1 := G.out.trans (hb.mono G.out.size)
  replace HT := Lib.hid (HT.out.below hb)
  clear hb G
  obtain ⟨j0, j1⟩ := HT.out
  have r0 := Lib.cell_of_heap j0 0
  have r1 := Lib.cell_of_heap j0 1
  have r2 := Lib.cell_of_heap j0 2
  have i0 := Lib.cell_of_heap j1 0
  have i1 := Lib.cell_of_heap j1 1
  have i2 := Lib.cell_of_heap j1 2
  have z0 := Lib.frozen_of_heap j0 0
  have z1 := Lib.frozen_of_heap j0 1
  have z2 := Lib.frozen_of_heap j0 2
  have y0 := Lib.frozen_of_heap j1 0
  have y1 := Lib.frozen_of_heap j1 1
  have y2 := Lib.frozen_of_heap j1 2
  simp at r0 r1 r2 i0 i1 i2
  clear j0 j1
  go_wp2
  exact bodyPost_ret (v := .tuple #[.agg #[.int .i64 0, .int .i64 0, .int .i64 0], .int .i64 0, .int .i64 6]) (by simp [results, Tryd.results20, go_sem, r0, r1, r2]) rfl ⟨rfl, ((G1.setCell (Nat.le_refl _) _).setCell (Nat.le_refl _) _).setCell (Nat.le_refl _) _⟩

set_option maxHeartbeats 4000000 in
set_option maxRecDepth 100000 in
theorem decodeR_in (s : ByteArray) (k : Nat) (hs : s.size ≤ 1000000) (hlt : k < s.size) (hk : Hid (kn (s[k].toNat : Int) = true)) (D : (Int × Int × Int) × Int × Int) (HD : Hid (D = dec s.data.toList k)) (w : World) :
    Calls Tryd.prog 20 #[.string s, .int .i64 k] w (Got D w) := by
  have b0 := build_at0
  have hb0 := build_none
  have ck := fun W => nameR_any (s[k].toNat : Int) W
  have g1 := onm_some hk.out
  obtain ⟨S, hS⟩ : ∃ S, S = onm (s[k].toNat : Int) := ⟨_, rfl⟩
  rw [← hS] at ck g1
  have g2 : ¬ S.toList = [] := by intro h; rw [h] at g1; cases g1
  have g3 : (S.toList == []) = false := by simpa using g2
  have CK := Lib.hid ck
  have e1 : (k == s.size) = false := by rw [beq_eq_false_iff_ne]; omega
  have e2 : ((k : Int) == (s.size : Int)) = false := by rw [beq_eq_false_iff_ne]; omega
  have hw := wrap_byte s[k]
  have hlen : s.data.toList.length = s.size := by simp
  have hop := opAt_byte s k hlt
  have hnum := dec_num (l := s.data.toList) (p := k) (by omega) (by omega) (by rw [hop]; exact hk.out)
  have hbad := dec_bad (l := s.data.toList) (p := k) (by omega) (by omega) (by rw [hop]; exact hk.out)
  have hgood := dec_good (l := s.data.toList) (p := k) (by omega) (by omega) (by rw [hop]; exact hk.out)
  rw [hop, ← HD.out] at hnum hbad hgood
  have ca := fun W => argsR_any (s[k].toNat : Int) W
  have hna : argsOf (s[k].toNat : Int) = (nargs (s[k].toNat : Int) : Int) := by unfold argsOf; rw [if_pos hk.out]
  have hnl := nargs_le (s[k].toNat : Int)
  obtain ⟨n, hnn⟩ : ∃ n, n = nargs (s[k].toNat : Int) := ⟨_, rfl⟩
  rw [hna, ← hnn] at ca
  rw [← hnn] at hnl
  have HNn := Lib.hid hnn
  have CA := Lib.hid ca
  have HW := Lib.hid (And.intro hnum (And.intro hbad hgood))
  obtain ⟨o, ho⟩ : ∃ o, o = (s[k].toNat : Int) := ⟨_, rfl⟩
  have G := Lib.hid (below_two w (.cells #[.int .i64 0, .int .i64 0, .int .i64 0] 23) (.cells #[.int .i64 (s[k].toNat : Int), .int .i64 0, .int .i64 0] 23))
  have HT := Lib.hid (Two2.new w (s[k].toNat : Int))
  have kk : IntKind.i64.wrap ((k : Int) + 1) = (k : Int) + 1 := IntWalk.i64_in _ (by omega)
  clear ck ca hna hnn hnum hbad hgood hop hlen hS ho kk
  go_enter Tryd.func20, Tryd.ntmps20
  go_wp2_with fail
  refine (CK.out _).mono ?_; rintro e w1 ⟨rfl, hb⟩
  have G1 := Lib.hid (G.out.trans (hb.mono G.out.size))
  replace HT := Lib.hid (HT.out.below hb)
  clear hb G CK
  go_wp2
  go_loopw [8, 9] (fun t i wr => ∃ (j : Nat) (x y q : Int), j ≤ n ∧ i = .int .i64 j ∧ t = .int .i64 q ∧ Hid (Two2 w.heap.size (s[k].toNat : Int) x y wr) ∧ Hid (Stg s.data.toList ((k : Int) + 1) j x y q) ∧ Hid (Below w.heap.size w wr))
    (fun _ i _ => n - (intOf i).toNat)
  case atStart => exact ⟨0, 0, 0, (k : Int) + 1, by omega, rfl, rfl, HT, ⟨rfl, rfl, rfl⟩, G1⟩
  case round =>
    obtain ⟨j, x, y, q, hj, rfl, rfl, HT1, HS, G2⟩ := hrel
    clear HT G1
    obtain ⟨j0, j1⟩ := HT1.out
    have r0 := Lib.cell_of_heap j0 0
    have r1 := Lib.cell_of_heap j0 1
    have r2 := Lib.cell_of_heap j0 2
    have i0 := Lib.cell_of_heap j1 0
    have i1 := Lib.cell_of_heap j1 1
    have i2 := Lib.cell_of_heap j1 2
    have z0 := Lib.frozen_of_heap j0 0
    have z1 := Lib.frozen_of_heap j0 1
    have z2 := Lib.frozen_of_heap j0 2
    have y0 := Lib.frozen_of_heap j1 0
    have y1 := Lib.frozen_of_heap j1 1
    have y2 := Lib.frozen_of_heap j1 2
    simp at r0 r1 r2 i0 i1 i2
    clear j0 j1
    go_wp2_with fail
    refine (CA.out _).mono ?_; rintro e w2 ⟨rfl, hb⟩
    replace HT1 := Lib.hid (HT1.out.below hb)
    replace G2 := Lib.hid (G2.out.trans (hb.mono G2.out.size))
    clear r0 r1 r2 i0 i1 i2 z0 z1 z2 y0 y1 y2 hb
    obtain ⟨j0, j1⟩ := HT1.out
    have r0 := Lib.cell_of_heap j0 0
    have r1 := Lib.cell_of_heap j0 1
    have r2 := Lib.cell_of_heap j0 2
    have i0 := Lib.cell_of_heap j1 0
    have i1 := Lib.cell_of_heap j1 1
    have i2 := Lib.cell_of_heap j1 2
    have z0 := Lib.frozen_of_heap j0 0
    have z1 := Lib.frozen_of_heap j0 1
    have z2 := Lib.frozen_of_heap j0 2
    have y0 := Lib.frozen_of_heap j1 0
    have y1 := Lib.frozen_of_heap j1 1
    have y2 := Lib.frozen_of_heap j1 2
    simp at r0 r1 r2 i0 i1 i2
    clear j0 j1
    by_cases hlt2 : j < n
    · have cG := getR_any s q hs
      obtain ⟨V, hV⟩ : ∃ N, N = gN s.data.toList q := ⟨_, rfl⟩
      obtain ⟨T, hT⟩ : ∃ T, T = gT s.data.toList q := ⟨_, rfl⟩
      obtain ⟨E, hE⟩ : ∃ E, E = gE s.data.toList q := ⟨_, rfl⟩
      rw [← hV, ← hT, ← hE] at cG
      have CG := Lib.hid cG
      by_cases he : E = 0
      · subst he
        rcases (show j = 0 ∨ j = 1 by omega) with hj0 | hj1
        · have HS2 := Lib.hid (stg_next hj0 HS.out hE.symm)
          rw [← hV, ← hT] at HS2
          subst hj0
          clear cG hV hT hE HS
          go_wp2_with fail
          refine (CG.out _).mono ?_; rintro e w3 ⟨rfl, hb⟩
          replace HT1 := Lib.hid (HT1.out.below hb)
          replace G2 := Lib.hid (G2.out.trans (hb.mono G2.out.size))
          clear r0 r1 r2 i0 i1 i2 z0 z1 z2 y0 y1 y2 hb
          obtain ⟨j0, j1⟩ := HT1.out
          have r0 := Lib.cell_of_heap j0 0
          have r1 := Lib.cell_of_heap j0 1
          have r2 := Lib.cell_of_heap j0 2
          have i0 := Lib.cell_of_heap j1 0
          have i1 := Lib.cell_of_heap j1 1
          have i2 := Lib.cell_of_heap j1 2
          have z0 := Lib.frozen_of_heap j0 0
          have z1 := Lib.frozen_of_heap j0 1
          have z2 := Lib.frozen_of_heap j0 2
          have y0 := Lib.frozen_of_heap j1 0
          have y1 := Lib.frozen_of_heap j1 1
          have y2 := Lib.frozen_of_heap j1 2
          simp at r0 r1 r2 i0 i1 i2
          clear j0 j1
          go_wp2
          go_roundw
          case rel => exact ⟨1, V, y, T, by omega, by go_num, rfl, HT1.out.set1, HS2, G2.out.setCell (by simp) _⟩
          case measure => simp [intOf]; omega
        · have HS2 := Lib.hid (stg_next2 hj1 HS.out hE.symm)
          rw [← hV, ← hT] at HS2
          subst hj1
          clear cG hV hT hE HS
          go_wp2_with fail
          refine (CG.out _).mono ?_; rintro e w3 ⟨rfl, hb⟩
          replace HT1 := Lib.hid (HT1.out.below hb)
          replace G2 := Lib.hid (G2.out.trans (hb.mono G2.out.size))
          clear r0 r1 r2 i0 i1 i2 z0 z1 z2 y0 y1 y2 hb
          obtain ⟨j0, j1⟩ := HT1.out
          have r0 := Lib.cell_of_heap j0 0
          have r1 := Lib.cell_of_heap j0 1
          have r2 := Lib.cell_of_heap j0 2
          have i0 := Lib.cell_of_heap j1 0
          have i1 := Lib.cell_of_heap j1 1
          have i2 := Lib.cell_of_heap j1 2
          have z0 := Lib.frozen_of_heap j0 0
          have z1 := Lib.frozen_of_heap j0 1
          have z2 := Lib.frozen_of_heap j0 2
          have y0 := Lib.frozen_of_heap j1 0
          have y1 := Lib.frozen_of_heap j1 1
          have y2 := Lib.frozen_of_heap j1 2
          simp at r0 r1 r2 i0 i1 i2
          clear j0 j1
          go_wp2
          go_roundw
          case rel => exact ⟨2, x, V, T, by omega, by go_num, rfl, HT1.out.set2, HS2, G2.out.setCell (by simp) _⟩
          case measure => simp [intOf]; omega
      · have HR := stg_err (o := (s[k].toNat : Int)) (by rw [← HNn.out]; exact hlt2) HS.out (by rw [← hE]; exact he)
        have HDD : Hid (D = badR E) := by
          show _ = _
          have := HW.out.1 (by rw [HR, ← hE]; exact he)
          rw [this, HR, ← hE]; rfl
        have hE1 : (E != 0) = true := by simpa using he
        clear cG hV hT hE HS he HR HW
        go_wp2_with fail
        refine (CG.out _).mono ?_; rintro e w3 ⟨rfl, hb⟩
        replace HT1 := Lib.hid (HT1.out.below hb)
        replace G2 := Lib.hid (G2.out.trans (hb.mono G2.out.size))
        clear r0 r1 r2 i0 i1 i2 z0 z1 z2 y0 y1 y2 hb
        obtain ⟨j0, j1⟩ := HT1.out
        have r0 := Lib.cell_of_heap j0 0
        have r1 := Lib.cell_of_heap j0 1
        have r2 := Lib.cell_of_heap j0 2
        have i0 := Lib.cell_of_heap j1 0
        have i1 := Lib.cell_of_heap j1 1
        have i2 := Lib.cell_of_heap j1 2
        have z0 := Lib.frozen_of_heap j0 0
        have z1 := Lib.frozen_of_heap j0 1
        have z2 := Lib.frozen_of_heap j0 2
        have y0 := Lib.frozen_of_heap j1 0
        have y1 := Lib.frozen_of_heap j1 1
        have y2 := Lib.frozen_of_heap j1 2
        simp at r0 r1 r2 i0 i1 i2
        clear j0 j1
        go_wp2
        rw [HDD.out]
        exact bodyPost_ret (v := .tuple #[.agg #[.int .i64 0, .int .i64 0, .int .i64 0], .int .i64 0, .int .i64 E]) (by simp [results, Tryd.results20, go_sem, r0, r1, r2]) rfl ⟨rfl, ((G2.out.setCell (Nat.le_refl _) _).setCell (Nat.le_refl _) _).setCell (Nat.le_refl _) _⟩
    · have HR := stg_end (o := (s[k].toNat : Int)) (by rw [← HNn.out]; omega) HS.out
      have cr := fun W => rightR_any (s[k].toNat : Int) x y W
      cases hr : right ((s[k].toNat : Int), x, y)
      · have HDD : Hid (D = badR 6) := HW.out.2.1 (by rw [HR]) (by rw [HR]; exact hr)
        rw [hr] at cr
        have CR := Lib.hid cr
        clear cr hr HR HW HS
        go_wp2_with fail
        refine (CR.out _).mono ?_; rintro e w3 ⟨rfl, hb⟩
        replace HT1 := Lib.hid (HT1.out.below hb)
        replace G2 := Lib.hid (G2.out.trans (hb.mono G2.out.size))
        clear r0 r1 r2 i0 i1 i2 z0 z1 z2 y0 y1 y2 hb
        obtain ⟨j0, j1⟩ := HT1.out
        have r0 := Lib.cell_of_heap j0 0
        have r1 := Lib.cell_of_heap j0 1
        have r2 := Lib.cell_of_heap j0 2
        have i0 := Lib.cell_of_heap j1 0
        have i1 := Lib.cell_of_heap j1 1
        have i2 := Lib.cell_of_heap j1 2
        have z0 := Lib.frozen_of_heap j0 0
        have z1 := Lib.frozen_of_heap j0 1
        have z2 := Lib.frozen_of_heap j0 2
        have y0 := Lib.frozen_of_heap j1 0
        have y1 := Lib.frozen_of_heap j1 1
        have y2 := Lib.frozen_of_heap j1 2
        simp at r0 r1 r2 i0 i1 i2
        clear j0 j1
        go_wp2
        rw [HDD.out]
        exact bodyPost_ret (v := .tuple #[.agg #[.int .i64 0, .int .i64 0, .int .i64 0], .int .i64 0, .int .i64 6]) (by simp [results, Tryd.results20, go_sem, r0, r1, r2]) rfl ⟨rfl, ((G2.out.setCell (Nat.le_refl _) _).setCell (Nat.le_refl _) _).setCell (Nat.le_refl _) _⟩
      · have HDD : Hid (D = (((s[k].toNat : Int), x, y), q, 0)) := by
          show _ = _
          rw [HW.out.2.2 (by rw [HR]) (by rw [HR]; exact hr), HR]
        rw [hr] at cr
        have CR := Lib.hid cr
        clear cr hr HR HW HS
        go_wp2_with fail
        refine (CR.out _).mono ?_; rintro e w3 ⟨rfl, hb⟩
        replace HT1 := Lib.hid (HT1.out.below hb)
        replace G2 := Lib.hid (G2.out.trans (hb.mono G2.out.size))
        clear r0 r1 r2 i0 i1 i2 z0 z1 z2 y0 y1 y2 hb
        obtain ⟨j0, j1⟩ := HT1.out
        have r0 := Lib.cell_of_heap j0 0
        have r1 := Lib.cell_of_heap j0 1
        have r2 := Lib.cell_of_heap j0 2
        have i0 := Lib.cell_of_heap j1 0
        have i1 := Lib.cell_of_heap j1 1
        have i2 := Lib.cell_of_heap j1 2
        have z0 := Lib.frozen_of_heap j0 0
        have z1 := Lib.frozen_of_heap j0 1
        have z2 := Lib.frozen_of_heap j0 2
        have y0 := Lib.frozen_of_heap j1 0
        have y1 := Lib.frozen_of_heap j1 1
        have y2 := Lib.frozen_of_heap j1 2
        simp at r0 r1 r2 i0 i1 i2
        clear j0 j1
        go_wp2
        rw [HDD.out]
        exact bodyPost_ret (v := .tuple #[.agg #[.int .i64 (s[k].toNat : Int), .int .i64 x, .int .i64 y], .int .i64 q, .int .i64 0]) (by simp [results, Tryd.results20, go_sem, r0, r1, r2]) rfl ⟨rfl, ((G2.out.setCell (Nat.le_refl _) _).setCell (Nat.le_refl _) _).setCell (Nat.le_refl _) _⟩

theorem decodeR_any (s : ByteArray) (p : Int) (hs : s.size ≤ 1000000) (w : World) :
    Calls Tryd.prog 20 #[.string s, .int .i64 p] w (Got (dec s.data.toList p) w) := by
  have hsz : s.data.toList.length = s.size := by simp
  by_cases h0 : p < 0 ∨ (s.size : Int) < p
  · rw [dec_out (by omega)]; exact decodeR_out s p hs h0 w
  obtain ⟨k, rfl⟩ : ∃ k : Nat, p = k := ⟨p.toNat, by omega⟩
  by_cases h2 : k = s.size
  · subst h2; rw [dec_end (by omega)]; exact decodeR_end s w
  have hlt : k < s.size := by omega
  have hop := opAt_byte s k hlt
  cases hkn : kn (s[k].toNat : Int)
  · rw [dec_op (by omega) (by omega) (by rw [hop]; exact hkn)]; exact decodeR_op s k hlt hkn w
  · exact decodeR_in s k hs hlt hkn _ rfl w
end Go.Proofs.YtmahpmoaicjcjaaDoor
