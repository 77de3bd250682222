/- What is proved here: a contract of the program's sum of a row that is there (sumOf). Conditions: the rows and the number can be. -/
import Derived.Test.YtngehojibcmieaaGreatDoorQE5
set_option maxRecDepth 100000
set_option maxHeartbeats 8000000
section
namespace Go.Proofs.YtngehojibcmieaaGreatDoor.Kd
open Go.ChangeShapes Go.WideShapes Go.RowKit
theorem run_make9 (W : World) : (Instr.makeSlice 22 (.int .i64 0) (.int .i64 9)).run Tryz.prog W = .ok (.slice (some ⟨W.heap.size, 0, none⟩) 0 9) (W.alloc (.cells (madeCells #[.int .i64 0] 9) 3)) := by
 obtain ⟨i, h1, h2, h3, h4⟩ := info_parts int_info
 have := run_make (P := Tryz.prog) W 22 3 i (.int .i64 0) Tryz.underlying22 h1 h2 .i64 .i64 0 9 (by omega) (by omega) (by rw [h4]; omega) (by omega)
 rw [h3] at this
 exact this
theorem sumP_any (a : Option Addr) (n c : Nat) (L : List RtR) (i0 : Nat) (x : RtR) (wv : Int) (w : World) (hr : RowS w a n L) (hn : n ≤ 140737488355328) (hg : rgR L = true) (hx : L[i0]? = some x) (hw : rtI wv = true) (rv er : Int) (hq : smR L x i0 wv = (rv, er)) :
  Calls Tryz.prog 48 #[.slice a n c, .int .i64 i0, .int .i64 wv] w fun e w' => e = .returned (.tuple #[.int .i64 rv, .int .i64 er]) ∧ Below w.heap.size w w' := by
 have HL := Lib.hid hr.1
 have hi0 : i0 < n := by have := (List.getElem?_eq_some_iff.1 hx).1; have := hr.1; omega
 have hxo := rgR_mem hg (List.mem_of_getElem? hx)
 obtain ⟨b1, o1, x', rfl, hB1, hx', f0, f1, f2, f3, f4, f5⟩ := hr.item (Below.refl _ _) hi0
 obtain rfl : x' = x := by rw [hx] at hx'; exact (Option.some.inj hx').symm
 have hn8 : n ≤ 8 := by have h1 := hr.1; unfold rgR at hg; simp only [Bool.and_eq_true, decide_eq_true_eq] at hg; omega
 obtain ⟨tinf, hi0', hz0, hz1, hz2⟩ := info_parts int_info
 have HQ := Lib.hid hq
 have HX := Lib.hid hx
 have HG := Lib.hid hg
 have HW := Lib.hid hw
 have HXO := Lib.hid hxo
 have H0 := Lib.hid f0
 have H1 := Lib.hid f1
 have H5 := Lib.hid f5
 clear hq hx hx' hg hw hxo f0 f1 f2 f3 f4 f5
 have i1 : (0 : Int) ≤ (i0 : Int) := by omega
 have i2 : (i0 : Int) < (n : Int) := by omega
 have hmk := run_make9
 go_enter Tryz.func48, Tryz.ntmps48
 go_wp2_with fail
 have own0 := Lib.hid (World.ownsRow_made w (base := w.heap.size) (e := 3) (size := 1) (madeCells #[.int .i64 0] 9) 9 (Nat.le_refl _) (by unfold maxLen; omega) (size_madeCells _ _))
 have hb0 := Lib.hid (below_alloc w (.cells (madeCells #[.int .i64 0] 9) 3))
 generalize w.alloc (.cells (madeCells #[.int .i64 0] 9) 3) = W0 at own0 hb0 ⊢
 clear hmk
 refine region_chain 60 13 3 (fun t => ([11, 12, 13] : List Nat).getD t 0) (fun i => ([14, 15, 16, 17, 18, 19, 20, 21, 22, 23, 24, 25, 26, 8] : List Nat).getD i 0) (fun i => ([[], [], [], [1, 2], [3], [4], [], [], [6, 7], [8], [9], [5, 10], [0, 11], [12]] : List (List Nat)).getD i []) (fun i v => ([(fun v : Value => v = .slice (some ⟨w.heap.size, 0, none⟩) 0 9), (fun v : Value => v = .slice (some ⟨b1, o1, none⟩) n c), (fun v : Value => v = .int .i64 (i0 : Int)), (fun v : Value => v = .pointer (some ⟨b1, o1 + i0 * 6, none⟩)), (fun v : Value => v = .pointer (some ⟨b1, o1 + i0 * 6, none⟩)), (fun v : Value => v = .int .i64 x'.C), (fun v : Value => v = .slice (some ⟨b1, o1, none⟩) n c), (fun v : Value => v = .int .i64 (i0 : Int)), (fun v : Value => v = .pointer (some ⟨b1, o1 + i0 * 6, none⟩)), (fun v : Value => v = .pointer (some ⟨b1, o1 + i0 * 6 + 1, none⟩)), (fun v : Value => v = .int .i64 x'.B), (fun _ : Value => True), (fun _ : Value => True), (fun _ : Value => True)] : List (Value → Prop)).getD i (fun _ => True) v) (fun t v V => ([(fun _ V => Below w.heap.size w V ∧ V.ownsRow w.heap.size 3 1 (.slice (some ⟨w.heap.size, 0, none⟩) 0 9) 0 []), (fun v V => Below w.heap.size w V ∧ V.ownsRow w.heap.size 3 1 (.slice (some ⟨w.heap.size, 0, none⟩) 0 9) 0 [] ∧ ∃ g, v = .slice (some ⟨g, 0, none⟩) 2 2 ∧ ∀ j x, ([.int .i64 x'.C, .int .i64 x'.B] : List Value)[j]? = some x → V.cell? ⟨g, j, none⟩ = some x), (fun v V => Below w.heap.size w V ∧ V.ownsRow w.heap.size 3 1 v 2 [.int .i64 x'.C, .int .i64 x'.B]), (fun v V => Below w.heap.size w V ∧ V.ownsRow w.heap.size 3 1 v 2 [.int .i64 x'.C, .int .i64 x'.B])] : List (Value → World → Prop)).getD t (fun _ _ => False) v V) (by kernel_rfl) rfl (fun i j hi hj => (by decide : ∀ i, i ≤ 13 → ∀ j, j ≤ 13 → (fun i => ([14, 15, 16, 17, 18, 19, 20, 21, 22, 23, 24, 25, 26, 8] : List Nat).getD i 0) i = (fun i => ([14, 15, 16, 17, 18, 19, 20, 21, 22, 23, 24, 25, 26, 8] : List Nat).getD i 0) j → i = j) i hi j hj) rfl (by decide) rfl (fun s t hs ht => (by decide : ∀ s, s < 3 → ∀ t, t < 3 → (fun t => ([11, 12, 13] : List Nat).getD t 0) s = (fun t => ([11, 12, 13] : List Nat).getD t 0) t → s = t) s hs t ht) (by decide) (fun t ht => (by decide : ∀ t, t < 2 → (fun t => ([11, 12, 13] : List Nat).getD t 0) t ∈ (fun i => ([[], [], [], [1, 2], [3], [4], [], [], [6, 7], [8], [9], [5, 10], [0, 11], [12]] : List (List Nat)).getD i []) ((fun t => ([11, 12, 13] : List Nat).getD t 0) (t + 1))) t (by omega)) ?_ ?_ ?_ ?_ ⟨hb0.out.trans ⟨rfl, rfl, rfl, Nat.le_refl _, fun _ _ => rfl⟩, own_keep own0.out ⟨rfl, rfl, rfl, Nat.le_refl _, fun _ _ => rfl⟩⟩ ?_
 ·intro i o ho
  iterate 14 (rcases i with _ | i; (obtain rfl := Option.some.inj ho; exact ⟨Or.inl ⟨rfl, by decide⟩, rfl, by decide, by decide⟩))
  simp at ho
 ·intro i hi
  match i, hi with
  | 0, _ => exact ⟨12, by decide, by decide, by decide⟩
  | 1, _ => exact ⟨3, by decide, by decide, by decide⟩
  | 2, _ => exact ⟨3, by decide, by decide, by decide⟩
  | 3, _ => exact ⟨4, by decide, by decide, by decide⟩
  | 4, _ => exact ⟨5, by decide, by decide, by decide⟩
  | 5, _ => exact ⟨11, by decide, by decide, by decide⟩
  | 6, _ => exact ⟨8, by decide, by decide, by decide⟩
  | 7, _ => exact ⟨8, by decide, by decide, by decide⟩
  | 8, _ => exact ⟨9, by decide, by decide, by decide⟩
  | 9, _ => exact ⟨10, by decide, by decide, by decide⟩
  | 10, _ => exact ⟨11, by decide, by decide, by decide⟩
  | 11, _ => exact ⟨12, by decide, by decide, by decide⟩
  | 12, _ => exact ⟨13, by decide, by decide, by decide⟩
  | k + 13, hi => omega
 ·intro i o hi hq ho a' V j v hj hSV hoth hd
  have hC : (fun V : World => Below w.heap.size w V) V := by
   match j, hj, hSV with
   | 0, _, h => exact h.1
   | 1, _, h => exact h.1
   | 2, _, h => exact h.1
   | k + 3, hj, _ => omega
  clear hSV hj
  have oS0 : a'.eval (.tmp 0) = .slice (some ⟨b1, o1, none⟩) n c := hoth 0 (by decide)
  have oS1 : a'.eval (.tmp 1) = .int .i64 (i0 : Int) := hoth 1 (by decide)
  have oS8 : a'.eval (.tmp 8) = .slice (some ⟨w.heap.size, 0, none⟩) 0 9 := hoth 8 (by decide)
  clear hoth
  obtain ⟨ρ, hρ⟩ : ∃ ρ, ρ = a'.eval := ⟨_, rfl⟩
  have hc : ∀ v, ρ (.const v) = v := fun v => by rw [hρ]; rfl
  simp only [← hρ] at hd ⊢
  rw [← hρ] at oS0
  rw [← hρ] at oS1
  rw [← hρ] at oS8
  clear hρ
  match i, hi, hq, ho with
  | 0, _, _, ho =>
   obtain rfl := Option.some.inj ho
   clear hd hq
   exact ⟨.slice (some ⟨w.heap.size, 0, none⟩) 0 9, by simp only [execOp]; go_simp, rfl⟩
  | 1, _, _, ho =>
   obtain rfl := Option.some.inj ho
   clear hd hq
   exact ⟨.slice (some ⟨b1, o1, none⟩) n c, by simp only [execOp]; go_simp, rfl⟩
  | 2, _, _, ho =>
   obtain rfl := Option.some.inj ho
   clear hd hq
   exact ⟨.int .i64 (i0 : Int), by simp only [execOp]; go_simp, rfl⟩
  | 3, _, _, ho =>
   obtain rfl := Option.some.inj ho
   have e1 : ρ (.tmp 15) = .slice (some ⟨b1, o1, none⟩) n c := hd 1 (by decide) (by decide)
   have e2 : ρ (.tmp 16) = .int .i64 (i0 : Int) := hd 2 (by decide) (by decide)
   clear hd hq
   exact ⟨.pointer (some ⟨b1, o1 + i0 * 6, none⟩), by simp only [execOp]; go_simp, rfl⟩
  | 4, _, _, ho =>
   obtain rfl := Option.some.inj ho
   have e3 : ρ (.tmp 17) = .pointer (some ⟨b1, o1 + i0 * 6, none⟩) := hd 3 (by decide) (by decide)
   clear hd hq
   exact ⟨.pointer (some ⟨b1, o1 + i0 * 6, none⟩), by simp only [execOp]; go_simp, rfl⟩
  | 5, _, _, ho =>
   obtain rfl := Option.some.inj ho
   have e4 : ρ (.tmp 18) = .pointer (some ⟨b1, o1 + i0 * 6, none⟩) := hd 4 (by decide) (by decide)
   clear hd hq
   have c0 := keep_cell hC H0.out
   exact ⟨.int .i64 x'.C, by simp only [execOp]; go_simp, rfl⟩
  | 6, _, _, ho =>
   obtain rfl := Option.some.inj ho
   clear hd hq
   exact ⟨.slice (some ⟨b1, o1, none⟩) n c, by simp only [execOp]; go_simp, rfl⟩
  | 7, _, _, ho =>
   obtain rfl := Option.some.inj ho
   clear hd hq
   exact ⟨.int .i64 (i0 : Int), by simp only [execOp]; go_simp, rfl⟩
  | 8, _, _, ho =>
   obtain rfl := Option.some.inj ho
   have e6 : ρ (.tmp 20) = .slice (some ⟨b1, o1, none⟩) n c := hd 6 (by decide) (by decide)
   have e7 : ρ (.tmp 21) = .int .i64 (i0 : Int) := hd 7 (by decide) (by decide)
   clear hd hq
   exact ⟨.pointer (some ⟨b1, o1 + i0 * 6, none⟩), by simp only [execOp]; go_simp, rfl⟩
  | 9, _, _, ho =>
   obtain rfl := Option.some.inj ho
   have e8 : ρ (.tmp 22) = .pointer (some ⟨b1, o1 + i0 * 6, none⟩) := hd 8 (by decide) (by decide)
   clear hd hq
   exact ⟨.pointer (some ⟨b1, o1 + i0 * 6 + 1, none⟩), by simp only [execOp]; go_simp, rfl⟩
  | 10, _, _, ho =>
   obtain rfl := Option.some.inj ho
   have e9 : ρ (.tmp 23) = .pointer (some ⟨b1, o1 + i0 * 6 + 1, none⟩) := hd 9 (by decide) (by decide)
   clear hd hq
   have c1 := keep_cell hC H1.out
   exact ⟨.int .i64 x'.B, by simp only [execOp]; go_simp, rfl⟩
  | 11, _, hq, _ => exact absurd rfl (hq 0 (by decide))
  | 12, _, hq, _ => exact absurd rfl (hq 1 (by decide))
  | 13, _, hq, _ => exact absurd rfl (hq 2 (by decide))
  | k + 14, hi, _, _ => exact absurd hi (by omega)
 ·intro t o ht ho a' V v hSV hv hoth hd K hK
  have oS0 : a'.eval (.tmp 0) = .slice (some ⟨b1, o1, none⟩) n c := hoth 0 (by decide)
  have oS1 : a'.eval (.tmp 1) = .int .i64 (i0 : Int) := hoth 1 (by decide)
  have oS8 : a'.eval (.tmp 8) = .slice (some ⟨w.heap.size, 0, none⟩) 0 9 := hoth 8 (by decide)
  clear hoth
  match t, ht, ho, hSV, hv, hd, hK with
  | 0, _, ho, hSV, hv, hd, hK =>
   obtain rfl := Option.some.inj ho
   have hSV : (fun _ V => Below w.heap.size w V ∧ V.ownsRow w.heap.size 3 1 (.slice (some ⟨w.heap.size, 0, none⟩) 0 9) 0 [] : Value → World → Prop) v V := hSV
   have hK : ∀ v' W', (fun v V => Below w.heap.size w V ∧ V.ownsRow w.heap.size 3 1 (.slice (some ⟨w.heap.size, 0, none⟩) 0 9) 0 [] ∧ ∃ g, v = .slice (some ⟨g, 0, none⟩) 2 2 ∧ ∀ j x, ([.int .i64 x'.C, .int .i64 x'.B] : List Value)[j]? = some x → V.cell? ⟨g, j, none⟩ = some x : Value → World → Prop) v' W' → K (a'.put (some 25) v') W' := hK
   have e5 : a'.eval (.tmp 19) = .int .i64 x'.C := hd 5 (by decide) (by decide)
   have e10 : a'.eval (.tmp 24) = .int .i64 x'.B := hd 10 (by decide) (by decide)
   clear hd
   obtain ⟨ρ, hρ⟩ : ∃ ρ, ρ = a'.eval := ⟨_, rfl⟩
   have r5 : ρ (.tmp 19) = .int .i64 x'.C := by rw [hρ]; exact e5
   have r10 : ρ (.tmp 24) = .int .i64 x'.B := by rw [hρ]; exact e10
   have q0 : ρ (.tmp 0) = .slice (some ⟨b1, o1, none⟩) n c := by rw [hρ]; exact oS0
   have q1 : ρ (.tmp 1) = .int .i64 (i0 : Int) := by rw [hρ]; exact oS1
   have q8 : ρ (.tmp 8) = .slice (some ⟨w.heap.size, 0, none⟩) 0 9 := by rw [hρ]; exact oS8
   refine wp_value (v := .slice (some ⟨V.heap.size, 0, none⟩) 2 2) (w' := V.alloc (.cells #[.int .i64 x'.C, .int .i64 x'.B] 3)) (by rw [← hρ]; clear hρ; simp only [execOp]; go_simp) (hK _ _ ⟨hSV.1.alloc hSV.1.size _, hSV.2.alloc _, V.heap.size, rfl, cells_new V _ _⟩)
  | 1, _, ho, hSV, hv, hd, hK =>
   obtain rfl := Option.some.inj ho
   have hSV : (fun v V => Below w.heap.size w V ∧ V.ownsRow w.heap.size 3 1 (.slice (some ⟨w.heap.size, 0, none⟩) 0 9) 0 [] ∧ ∃ g, v = .slice (some ⟨g, 0, none⟩) 2 2 ∧ ∀ j x, ([.int .i64 x'.C, .int .i64 x'.B] : List Value)[j]? = some x → V.cell? ⟨g, j, none⟩ = some x : Value → World → Prop) v V := hSV
   have hK : ∀ v' W', (fun v V => Below w.heap.size w V ∧ V.ownsRow w.heap.size 3 1 v 2 [.int .i64 x'.C, .int .i64 x'.B] : Value → World → Prop) v' W' → K (a'.put (some 26) v') W' := hK
   have e0 : a'.eval (.tmp 14) = .slice (some ⟨w.heap.size, 0, none⟩) 0 9 := hd 0 (by decide) (by decide)
   have hv : v = a'.eval (.tmp 25) := hv (by decide)
   clear hd
   obtain ⟨ρ, hρ⟩ : ∃ ρ, ρ = a'.eval := ⟨_, rfl⟩
   have r0 : ρ (.tmp 14) = .slice (some ⟨w.heap.size, 0, none⟩) 0 9 := by rw [hρ]; exact e0
   have q0 : ρ (.tmp 0) = .slice (some ⟨b1, o1, none⟩) n c := by rw [hρ]; exact oS0
   have q1 : ρ (.tmp 1) = .int .i64 (i0 : Int) := by rw [hρ]; exact oS1
   have q8 : ρ (.tmp 8) = .slice (some ⟨w.heap.size, 0, none⟩) 0 9 := by rw [hρ]; exact oS8
   obtain ⟨hb, ho, g, hg, hcs⟩ := hSV
   rw [hg] at hv
   exact wp_append_own V (.tmp 14) (.tmp 25) 22 rfl w.heap.size 3 tinf (.int .i64 0) 1 8 Tryz.underlying22 hi0' hz0 hz1 hz2 rfl (by decide) (.slice (some ⟨w.heap.size, 0, none⟩) 0 9) 0 [] e0 ho ⟨g, 0, none⟩ 2 2 [.int .i64 x'.C, .int .i64 x'.B] hv.symm rfl (fun j x hj => by rw [add_plain', Nat.zero_add]; exact hcs j x hj) (fun u hu => by simp at hu; rcases hu with rfl | rfl <;> rfl) (by unfold maxLen; omega) (by omega) hb.size (fun v' W' h1 h2 _ => hK v' W' ⟨hb.grown h2 hb.size (fun g hg => (ho.lt g hg).1), h1⟩)
  | 2, _, ho, hSV, hv, hd, hK =>
   obtain rfl := Option.some.inj ho
   have hSV : (fun v V => Below w.heap.size w V ∧ V.ownsRow w.heap.size 3 1 v 2 [.int .i64 x'.C, .int .i64 x'.B] : Value → World → Prop) v V := hSV
   have hK : ∀ v' W', (fun v V => Below w.heap.size w V ∧ V.ownsRow w.heap.size 3 1 v 2 [.int .i64 x'.C, .int .i64 x'.B] : Value → World → Prop) v' W' → K (a'.put (some 8) v') W' := hK
   have hv : v = a'.eval (.tmp 26) := hv (by decide)
   clear hd
   obtain ⟨ρ, hρ⟩ : ∃ ρ, ρ = a'.eval := ⟨_, rfl⟩
   have q0 : ρ (.tmp 0) = .slice (some ⟨b1, o1, none⟩) n c := by rw [hρ]; exact oS0
   have q1 : ρ (.tmp 1) = .int .i64 (i0 : Int) := by rw [hρ]; exact oS1
   have q8 : ρ (.tmp 8) = .slice (some ⟨w.heap.size, 0, none⟩) 0 9 := by rw [hρ]; exact oS8
   exact wp_value (v := v) (w' := V) (by simp only [execOp]; rw [hv]; rfl) (hK _ _ hSV)
  | k + 3, ht, _, _, _, _, _ => exact absurd ht (by omega)
 ·intro a' V hsz hdef hoth hS
  have hS : (fun v V => Below w.heap.size w V ∧ V.ownsRow w.heap.size 3 1 v 2 [.int .i64 x'.C, .int .i64 x'.B] : Value → World → Prop) (a'.eval (.tmp 8)) V := hS
  have hcov : ∀ i, i ≤ 13 → 14 ≤ (fun i => ([14, 15, 16, 17, 18, 19, 20, 21, 22, 23, 24, 25, 26, 8] : List Nat).getD i 0) i ∧ (fun i => ([14, 15, 16, 17, 18, 19, 20, 21, 22, 23, 24, 25, 26, 8] : List Nat).getD i 0) i < 27 ∨ (fun i => ([14, 15, 16, 17, 18, 19, 20, 21, 22, 23, 24, 25, 26, 8] : List Nat).getD i 0) i = 8 := by decide
  obtain ⟨v9, hv9⟩ : ∃ v, a'.eval (.tmp 8) = v := ⟨_, rfl⟩
  rw [hv9] at hS
  obtain ⟨us, hu1, rfl⟩ := act_mix1 14 13 8 v9 rfl hsz hdef (by simp) (by simp) hv9 (by decide) (fun k hkd hk => by
   by_cases hkT : k = 60
   ·subst hkT; unfold Act.eval; simp [hsz]
   ·exact hoth k (fun i hi => by have := hcov i hi; dsimp only at this ⊢; omega))
  match us, hu1 with
  | u14 :: u15 :: u16 :: u17 :: u18 :: u19 :: u20 :: u21 :: u22 :: u23 :: u24 :: u25 :: u26 :: [], _ =>
   have HS := Lib.hid hS
   clear hS hv9
   go_wp2
   go_loopw [8, 29] (fun s j wr => ∃ kk q : Nat, kk ≤ n ∧ j = .int .i64 kk ∧ q ≤ kk + 2 ∧ Hid (wr.ownsRow w.heap.size 3 1 s q ((pts x' wv L i0 kk).map (Value.int .i64))) ∧ Hid (suB (othTo L x'.P i0 kk) x'.P wv = false) ∧ Hid (Below w.heap.size w wr)) (fun _ j _ => n - (intOf j).toNat)
   case atStart => exact ⟨0, 2, by omega, rfl, by omega, HS.out.2, rfl, HS.out.1⟩
   case round =>
    obtain ⟨kk, q, hk, rfl, hq2, HO, HB, HBL⟩ := hrel
    by_cases hlt : kk < n
    ·obtain ⟨b2, o2, y, e2, hB2, hy, y0, y1, y2, y3, y4, y5⟩ := hr.item HBL.out hlt
     cases e2
     have HY := Lib.hid hy
     have hyR := rgR_mem HG.out (List.mem_of_getElem? hy)
     have HTo := Lib.hid (othTo_succ hy x'.P i0)
     have j1 : (0 : Int) ≤ (kk : Int) := by omega
     have j2 : (kk : Int) < (n : Int) := by omega
     by_cases hki : kk = i0
     ·subst hki
      have HP2 : Hid (pts x' wv L kk (kk + 1) = pts x' wv L kk kk) := pts_self hy
      have HO2 : Hid (othTo L x'.P kk (kk + 1) = othTo L x'.P kk kk) := by show _ = _; rw [HTo.out, if_neg (by simp)]
      clear hy
      go_wp2
      go_roundw
      case rel => exact ⟨kk + 1, q, by omega, by go_num, by omega, by rw [HP2.out]; exact HO.out.alloc _, by rw [HO2.out]; exact HB, HBL.out.alloc HBL.out.size _⟩
      case measure => simp [intOf]; omega
     have d3 : ((kk : Int) == (i0 : Int)) = false := beq_eq_false_iff_ne.2 (by omega)
     obtain ⟨⟨pv, pe⟩, hp⟩ : ∃ p, shR y x'.P wv = p := ⟨_, rfl⟩
     have CP := Lib.hid (fun W => shareP_any y x'.P wv W hyR HW.out pv pe hp)
     have HP : Hid ((pe = 0 ∧ pts x' wv L i0 (kk + 1) = pts x' wv L i0 kk ++ [pv] ∧ suB (othTo L x'.P i0 (kk + 1)) x'.P wv = false) ∨ (pe ≠ 0 ∧ pe = er ∧ rv = 0)) := by
      have h1 := pts_more (x := x') (wv := wv) hy hki hyR
      unfold shR at hp
      by_cases c1 : y.P < x'.P
      ·rw [if_pos c1] at hp; cases hp
       refine Or.inl ⟨rfl, ?_, ?_⟩
       ·rw [h1]; unfold shV; rw [if_pos c1]
       ·rw [HTo.out, if_neg (by omega)]; exact HB.out
      ·rw [if_neg c1] at hp
       by_cases c2 : ptB y wv (sames x'.P y) = true
       ·rw [if_pos c2] at hp; cases hp
        have := HQ.out
        rw [smR_bad hy hki c1 c2] at this
        cases this
        exact Or.inr ⟨by decide, rfl, rfl⟩
       ·rw [if_neg c2] at hp; cases hp
        refine Or.inl ⟨rfl, ?_, ?_⟩
        ·rw [h1]; unfold shV; rw [if_neg c1]
        ·rw [HTo.out, if_pos ⟨hki, by omega⟩, suB_snoc, HB.out]; simpa using c2
     clear hy hp HTo
     go_wp2_with fail
     have HB0 := Lib.hid (HBL.out.alloc HBL.out.size (.cells #[.int .i64 y.C, .int .i64 y.B, .int .i64 y.T, .int .i64 y.D, .int .i64 y.J, .int .i64 y.P] 62))
     have HO0 := Lib.hid (HO.out.alloc (.cells #[.int .i64 y.C, .int .i64 y.B, .int .i64 y.T, .int .i64 y.D, .int .i64 y.J, .int .i64 y.P] 62))
     have z0 := Lib.hid (cells_new wr #[.int .i64 y.C, .int .i64 y.B, .int .i64 y.T, .int .i64 y.D, .int .i64 y.J, .int .i64 y.P] 62 0 _ rfl)
     have z1 := Lib.hid (cells_new wr #[.int .i64 y.C, .int .i64 y.B, .int .i64 y.T, .int .i64 y.D, .int .i64 y.J, .int .i64 y.P] 62 1 _ rfl)
     have z2 := Lib.hid (cells_new wr #[.int .i64 y.C, .int .i64 y.B, .int .i64 y.T, .int .i64 y.D, .int .i64 y.J, .int .i64 y.P] 62 2 _ rfl)
     have z3 := Lib.hid (cells_new wr #[.int .i64 y.C, .int .i64 y.B, .int .i64 y.T, .int .i64 y.D, .int .i64 y.J, .int .i64 y.P] 62 3 _ rfl)
     have z4 := Lib.hid (cells_new wr #[.int .i64 y.C, .int .i64 y.B, .int .i64 y.T, .int .i64 y.D, .int .i64 y.J, .int .i64 y.P] 62 4 _ rfl)
     have z5 := Lib.hid (cells_new wr #[.int .i64 y.C, .int .i64 y.B, .int .i64 y.T, .int .i64 y.D, .int .i64 y.J, .int .i64 y.P] 62 5 _ rfl)
     clear y0 y1 y2 y3 y4 y5
     generalize wr.alloc (.cells #[.int .i64 y.C, .int .i64 y.B, .int .i64 y.T, .int .i64 y.D, .int .i64 y.J, .int .i64 y.P] 62) = V1 at HB0 HO0 z0 z1 z2 z3 z4 z5 ⊢
     have x5 := Lib.hid (keep_cell HB0.out H5.out)
     generalize wr.heap.size = bx at z0 z1 z2 z3 z4 z5 ⊢
     refine region_ok 60 13 (fun i => ([38, 39, 40, 41, 42, 43, 44, 45, 37, 46, 47, 11, 12] : List Nat).getD i 0) (fun i => ([[], [], [], [1, 2], [3], [4], [], [0, 5, 6], [7], [8], [8], [9], [10]] : List (List Nat)).getD i []) (fun i v => ([(fun v : Value => v = .agg #[.int .i64 y.C, .int .i64 y.B, .int .i64 y.T, .int .i64 y.D, .int .i64 y.J, .int .i64 y.P]), (fun v : Value => v = .slice (some ⟨b1, o1, none⟩) n c), (fun v : Value => v = .int .i64 (i0 : Int)), (fun v : Value => v = .pointer (some ⟨b1, o1 + i0 * 6, none⟩)), (fun v : Value => v = .pointer (some ⟨b1, o1 + i0 * 6 + 5, none⟩)), (fun v : Value => v = .int .i64 x'.P), (fun v : Value => v = .int .i64 wv), (fun v : Value => v = .tuple #[.int .i64 pv, .int .i64 pe]), (fun v : Value => v = .tuple #[.int .i64 pv, .int .i64 pe]), (fun v : Value => v = .int .i64 pv), (fun v : Value => v = .int .i64 pe), (fun v : Value => v = .int .i64 pv), (fun v : Value => v = .int .i64 pe)] : List (Value → Prop)).getD i (fun _ => True) v) (fun V => Below V1.heap.size V1 V) (by kernel_rfl) rfl (fun i j hi hj => (by decide : ∀ i, i < 13 → ∀ j, j < 13 → (fun i => ([38, 39, 40, 41, 42, 43, 44, 45, 37, 46, 47, 11, 12] : List Nat).getD i 0) i = (fun i => ([38, 39, 40, 41, 42, 43, 44, 45, 37, 46, 47, 11, 12] : List Nat).getD i 0) j → i = j) i hi j hj) (by decide) rfl ?_ ?_ ⟨rfl, rfl, rfl, Nat.le_refl _, fun _ _ => rfl⟩ ?_
     ·intro i o ho
      iterate 13 (rcases i with _ | i; (obtain rfl := Option.some.inj ho; exact ⟨rfl, by decide, by decide⟩))
      simp at ho
     ·intro i o ho a' V hS hoth hd
      have oS0 : a'.eval (.tmp 0) = .slice (some ⟨b1, o1, none⟩) n c := hoth 0 (by decide)
      have oS1 : a'.eval (.tmp 1) = .int .i64 (i0 : Int) := hoth 1 (by decide)
      have oS2 : a'.eval (.tmp 2) = .int .i64 wv := hoth 2 (by decide)
      have oS10 : a'.eval (.tmp 10) = .pointer (some ⟨bx, 0, none⟩) := hoth 10 (by decide)
      obtain ⟨ρ, hρ⟩ : ∃ ρ, ρ = a'.eval := ⟨_, rfl⟩
      have hc : ∀ v, ρ (.const v) = v := fun v => by rw [hρ]; rfl
      have hfn : ∀ f, ρ (.func f) = .func (.func f) #[] #[] := fun f => by rw [hρ]; rfl
      simp only [← hρ] at hd ⊢
      rw [← hρ] at oS0
      rw [← hρ] at oS1
      rw [← hρ] at oS2
      rw [← hρ] at oS10
      clear hρ hoth
      match i, ho with
      | 0, ho =>
       obtain rfl := Option.some.inj ho
       clear hd
       have c0 := keep_cell hS z0.out
       have c1 := keep_cell hS z1.out
       have c2 := keep_cell hS z2.out
       have c3 := keep_cell hS z3.out
       have c4 := keep_cell hS z4.out
       have c5 := keep_cell hS z5.out
       exact Or.inl ⟨rfl, Gives.val (v := .agg #[.int .i64 y.C, .int .i64 y.B, .int .i64 y.T, .int .i64 y.D, .int .i64 y.J, .int .i64 y.P]) (w' := V) (by simp only [execOp]; go_simp) ⟨rfl, hS⟩⟩
      | 1, ho =>
       obtain rfl := Option.some.inj ho
       clear hd
       exact Or.inl ⟨rfl, Gives.val (v := .slice (some ⟨b1, o1, none⟩) n c) (w' := V) (by simp only [execOp]; go_simp) ⟨rfl, hS⟩⟩
      | 2, ho =>
       obtain rfl := Option.some.inj ho
       clear hd
       exact Or.inl ⟨rfl, Gives.val (v := .int .i64 (i0 : Int)) (w' := V) (by simp only [execOp]; go_simp) ⟨rfl, hS⟩⟩
      | 3, ho =>
       obtain rfl := Option.some.inj ho
       have e1 : ρ (.tmp 39) = .slice (some ⟨b1, o1, none⟩) n c := hd 1 (by decide)
       have e2 : ρ (.tmp 40) = .int .i64 (i0 : Int) := hd 2 (by decide)
       clear hd
       exact Or.inl ⟨rfl, Gives.val (v := .pointer (some ⟨b1, o1 + i0 * 6, none⟩)) (w' := V) (by simp only [execOp]; go_simp) ⟨rfl, hS⟩⟩
      | 4, ho =>
       obtain rfl := Option.some.inj ho
       have e3 : ρ (.tmp 41) = .pointer (some ⟨b1, o1 + i0 * 6, none⟩) := hd 3 (by decide)
       clear hd
       exact Or.inl ⟨rfl, Gives.val (v := .pointer (some ⟨b1, o1 + i0 * 6 + 5, none⟩)) (w' := V) (by simp only [execOp]; go_simp) ⟨rfl, hS⟩⟩
      | 5, ho =>
       obtain rfl := Option.some.inj ho
       have e4 : ρ (.tmp 42) = .pointer (some ⟨b1, o1 + i0 * 6 + 5, none⟩) := hd 4 (by decide)
       clear hd
       have c5 := keep_cell hS x5.out
       exact Or.inl ⟨rfl, Gives.val (v := .int .i64 x'.P) (w' := V) (by simp only [execOp]; go_simp) ⟨rfl, hS⟩⟩
      | 6, ho =>
       obtain rfl := Option.some.inj ho
       clear hd
       exact Or.inl ⟨rfl, Gives.val (v := .int .i64 wv) (w' := V) (by simp only [execOp]; go_simp) ⟨rfl, hS⟩⟩
      | 7, ho =>
       obtain rfl := Option.some.inj ho
       have e0 : ρ (.tmp 38) = .agg #[.int .i64 y.C, .int .i64 y.B, .int .i64 y.T, .int .i64 y.D, .int .i64 y.J, .int .i64 y.P] := hd 0 (by decide)
       have e5 : ρ (.tmp 43) = .int .i64 x'.P := hd 5 (by decide)
       have e6 : ρ (.tmp 44) = .int .i64 wv := hd 6 (by decide)
       clear hd
       refine Or.inl ⟨rfl, Gives.enter (f := 97) (args := #[.agg #[.int .i64 y.C, .int .i64 y.B, .int .i64 y.T, .int .i64 y.D, .int .i64 y.J, .int .i64 y.P], .int .i64 x'.P, .int .i64 wv]) (by simp only [execOp]; go_simp) ((CP.out _).mono ?_)⟩
       rintro e w8 ⟨rfl, b8⟩
       exact ⟨_, rfl, rfl, keep_below hS b8⟩
      | 8, ho =>
       obtain rfl := Option.some.inj ho
       have e7 : ρ (.tmp 45) = .tuple #[.int .i64 pv, .int .i64 pe] := hd 7 (by decide)
       clear hd
       exact Or.inl ⟨rfl, Gives.val (v := .tuple #[.int .i64 pv, .int .i64 pe]) (w' := V) (by simp only [execOp]; go_simp) ⟨rfl, hS⟩⟩
      | 9, ho =>
       obtain rfl := Option.some.inj ho
       have e8 : ρ (.tmp 37) = .tuple #[.int .i64 pv, .int .i64 pe] := hd 8 (by decide)
       clear hd
       exact Or.inl ⟨rfl, Gives.val (v := .int .i64 pv) (w' := V) (by simp only [execOp]; go_simp) ⟨rfl, hS⟩⟩
      | 10, ho =>
       obtain rfl := Option.some.inj ho
       have e8 : ρ (.tmp 37) = .tuple #[.int .i64 pv, .int .i64 pe] := hd 8 (by decide)
       clear hd
       exact Or.inl ⟨rfl, Gives.val (v := .int .i64 pe) (w' := V) (by simp only [execOp]; go_simp) ⟨rfl, hS⟩⟩
      | 11, ho =>
       obtain rfl := Option.some.inj ho
       have e9 : ρ (.tmp 46) = .int .i64 pv := hd 9 (by decide)
       clear hd
       exact Or.inl ⟨rfl, Gives.val (v := .int .i64 pv) (w' := V) (by simp only [execOp]; go_simp) ⟨rfl, hS⟩⟩
      | 12, ho =>
       obtain rfl := Option.some.inj ho
       have e10 : ρ (.tmp 47) = .int .i64 pe := hd 10 (by decide)
       clear hd
       exact Or.inl ⟨rfl, Gives.val (v := .int .i64 pe) (w' := V) (by simp only [execOp]; go_simp) ⟨rfl, hS⟩⟩
      | k + 13, ho => simp at ho
     ·intro a' V hsz hdef hoth hok hS
      have hcov : ∀ i, i < 13 → 37 ≤ (fun i => ([38, 39, 40, 41, 42, 43, 44, 45, 37, 46, 47, 11, 12] : List Nat).getD i 0) i ∧ (fun i => ([38, 39, 40, 41, 42, 43, 44, 45, 37, 46, 47, 11, 12] : List Nat).getD i 0) i < 48 ∨ (fun i => ([38, 39, 40, 41, 42, 43, 44, 45, 37, 46, 47, 11, 12] : List Nat).getD i 0) i = 11 ∨ (fun i => ([38, 39, 40, 41, 42, 43, 44, 45, 37, 46, 47, 11, 12] : List Nat).getD i 0) i = 12 := by decide
      have hv11 : a'.eval (.tmp 11) = .int .i64 pv := hok 11 (by decide)
      have hv12 : a'.eval (.tmp 12) = .int .i64 pe := hok 12 (by decide)
      clear hok
      obtain ⟨us, hu1, rfl⟩ := act_mix2 37 11 11 12 (.int .i64 pv) (.int .i64 pe) rfl hsz hdef (by simp) (by simp) (by simp) hv11 hv12 (by decide) (fun k hkd hkd2 hk => hoth k (fun i hi => by have := hcov i hi; dsimp only at this ⊢; omega))
      match us, hu1 with
      | u37 :: u38 :: u39 :: u40 :: u41 :: u42 :: u43 :: u44 :: u45 :: u46 :: u47 :: [], _ =>
       have hbV := keep_below HB0.out hS
       have HBV := Lib.hid hbV
       have hbs := hbV.size
       have HOV := Lib.hid (own_keep HO0.out hS)
       clear hS HO0 hbV
       by_cases hpe : pe = 0
       ·subst hpe
        have HP2 : Hid (pts x' wv L i0 (kk + 1) = pts x' wv L i0 kk ++ [pv] ∧ suB (othTo L x'.P i0 (kk + 1)) x'.P wv = false) := by
         rcases HP.out with ⟨-, h1, h2⟩ | ⟨h1, -⟩
         ·exact ⟨h1, h2⟩
         ·exact absurd rfl h1
        clear HP
        go_wp2_with (at_builtin; refine wpList_append_own _ rfl _ _ 22 rfl w.heap.size 3 tinf (.int .i64 0) 1 8 Tryz.underlying22 hi0' hz0 hz1 hz2 rfl (by decide) _ _ _ rfl (HOV.out.alloc _) ⟨V.heap.size, 0, none⟩ 1 1 [.int .i64 pv] rfl rfl ?c1 ?c2 ?c3 ?c4 ?c5 ?_)
        case c2 => rfl
        case c3 => unfold maxLen; omega
        case c4 => omega
        case c5 => omega
        ·intro v' w5 hown' hgrow _
         have hb5 : Below w.heap.size w w5 := (HBV.out.alloc HBV.out.size _).grown hgrow (by simp; omega) (fun g hg => (HOV.out.lt g hg).1)
         have HO5 : Hid (w5.ownsRow w.heap.size 3 1 v' (q + 1) ((pts x' wv L i0 (kk + 1)).map (Value.int .i64))) := by
          show World.ownsRow _ _ _ _ _ _ _
          rw [HP2.out.1, List.map_append]
          exact hown'
         clear hown' hgrow HOV
         go_wp2
         go_roundw
         case rel => exact ⟨kk + 1, q + 1, by omega, by go_num, by omega, HO5, HP2.out.2, hb5⟩
         case measure => simp [intOf]; omega
       ·have HR : Hid (pe = er ∧ rv = 0) := by
         rcases HP.out with ⟨h1, -⟩ | ⟨-, h1⟩
         ·exact absurd h1 hpe
         ·exact h1
        have d5 : (pe == 0) = false := beq_eq_false_iff_ne.2 hpe
        go_wp2
        go_ret2
        exact ⟨by rw [HR.out.1, HR.out.2]; rfl, HBV.out⟩
    ·obtain rfl : n = kk := by omega
     obtain ⟨a5, n5, c5, rfl, hR⟩ := Row.own HO.out
     have hn5 : n5 ≤ 1000000000000 := by have h1 := hR.1; have h2 := HO.out.1; rw [List.length_map] at h2; omega
     have e := smR_end (x := x') (i0 := i0) (wv := wv) HG.out HXO.out HW.out (by rw [← HL.out]; exact HB.out)
     rw [← HL.out, HQ.out] at e
     have CA := Lib.hid (fun W (h : Below wr.heap.size wr W) => addP_of (c := c5) (hR.below h) hn5 (v := rv) (e := er) (by cases e; rfl) (by cases e; rfl))
     clear hR e
     go_wp2_with (go_at_call 98; refine (CA.out _ (Below.refl _ _)).mono ?_; rintro e w6 ⟨rfl, hb6⟩)
     go_ret2
     exact ⟨rfl, keep_below HBL.out hb6⟩
end Go.Proofs.YtngehojibcmieaaGreatDoor.Kd
end
