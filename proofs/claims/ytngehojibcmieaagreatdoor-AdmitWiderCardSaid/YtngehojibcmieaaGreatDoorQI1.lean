/- What is proved here: contracts of image.Same and of what it calls, on images that are alike. Conditions: those each theorem states. -/
import Derived.Test.YtngehojibcmieaaGreatDoorQS1
set_option maxRecDepth 100000
set_option maxHeartbeats 8000000
section
namespace Go.Proofs.YtngehojibcmieaaGreatDoor
open Go.ChangeShapes Go.WideShapes Go.RowKit
theorem numsTask_any (t : TaV) (w : World) : Calls Tryz.prog 105 #[.agg #[.int .i64 t.pr, .int .i64 t.pe, .int .i64 t.de, .int .i64 t.ji, t.bl.v, t.ou.v, t.co.v]] w fun e w' => e = .returned (.agg #[.int .i64 t.pr, .int .i64 t.pe, .int .i64 t.de, .int .i64 t.ji]) ∧ Below w.heap.size w w' := by
 obtain ⟨pr, pe, de, ji, ⟨xa, xn, xc⟩, ⟨oa, on, oc⟩, ⟨ca, cn, cc⟩⟩ := t
 simp only [Sl.v]
 go_enter Tryz.func105, Tryz.ntmps105
 go_wp2
 refine bodyPost_ret (v := .agg #[.int .i64 pr, .int .i64 pe, .int .i64 de, .int .i64 ji]) (by simp [results, Tryz.results105, go_sem]) rfl ?_
 exact ⟨rfl, (below_alloc w _).trans ((below_alloc _ _).mono (by simp))⟩
theorem nums_any (x : ImV) (w : World) : Calls Tryz.prog 59 #[x.v] w fun e w' => e = .returned (.agg #[.int .i64 x.sw, .int .i64 x.la, .int .i64 x.cm, .int .i64 x.inp]) ∧ Below w.heap.size w w' := by
 obtain ⟨sw, la, cm, inp, ⟨sa, sn, sc⟩, ⟨ba, bn, bc⟩, ⟨ta, tn, tc⟩⟩ := x
 simp only [ImV.v, Sl.v]
 go_enter Tryz.func59, Tryz.ntmps59
 go_wp2
 refine bodyPost_ret (v := .agg #[.int .i64 sw, .int .i64 la, .int .i64 cm, .int .i64 inp]) (by simp [results, Tryz.results59, go_sem]) rfl ?_
 exact ⟨rfl, (below_alloc w _).trans ((below_alloc _ _).mono (by simp))⟩
theorem eqInts_any (s u : Sl) (l : List Int) (w : World) (hs : SlI w s l) (hu : SlI w u l) : Calls Tryz.prog 60 #[s.v, u.v] w fun e w' => e = .returned (.bool true) ∧ Below w.heap.size w w' := by
 have := equalI_any s.a u.a s.n u.n s.c u.c l l w hs.1 hu.1 hs.2 hu.2
 rw [decide_eq_true rfl] at this
 exact this
theorem sameTask_any (t u : TaV) (T : TkP) (w : World) (ht : t.Is w T) (hu : u.Is w T) (hL : T.co.length ≤ 1000000) :
  Calls Tryz.prog 63 #[.agg #[.int .i64 t.pr, .int .i64 t.pe, .int .i64 t.de, .int .i64 t.ji, t.bl.v, t.ou.v, t.co.v], .agg #[.int .i64 u.pr, .int .i64 u.pe, .int .i64 u.de, .int .i64 u.ji, u.bl.v, u.ou.v, u.co.v]] w fun e w' => e = .returned (.bool true) ∧ Below w.heap.size w w' := by
 obtain ⟨e1, e2, e3, e4, h5, h6, h7⟩ := ht
 obtain ⟨f1, f2, f3, f4, k5, k6, k7⟩ := hu
 have C5 := Lib.hid (fun W (hb : Below w.heap.size w W) => eqInts_any t.bl u.bl T.bl W (h5.below hb) (k5.below hb))
 have C6 := Lib.hid (fun W (hb : Below w.heap.size w W) => eqInts_any t.ou u.ou T.ou W (h6.below hb) (k6.below hb))
 have C7 : Hid (∀ W, Below w.heap.size w W → Calls Tryz.prog 106 #[t.co.v, u.co.v] W fun e w' => e = .returned (.bool true) ∧ Below W.heap.size W w') := fun W hb => by
  have := Kb.sameIns_any t.co.a u.co.a t.co.n u.co.n t.co.c u.co.c T.co T.co W (h7.1.below hb) (k7.1.below hb) (by rw [h7.1.1]; exact hL) (by rw [k7.1.1]; exact hL)
  rw [decide_eq_true rfl] at this
  exact this
 have CN1 := Lib.hid (fun W => numsTask_any t W)
 have CN2 := Lib.hid (fun W => numsTask_any u W)
 have g1 : t.pr = u.pr := e1.trans f1.symm
 have g2 : t.pe = u.pe := e2.trans f2.symm
 have g3 : t.de = u.de := e3.trans f3.symm
 have g4 : t.ji = u.ji := e4.trans f4.symm
 clear e1 e2 e3 e4 f1 f2 f3 f4 h5 h6 h7 k5 k6 k7 hL
 obtain ⟨pr, pe, de, ji, ⟨xa, xn, xc⟩, ⟨oa, on, oc⟩, ⟨ca, cn, cc⟩⟩ := t
 obtain ⟨pr', pe', de', ji', ⟨xa', xn', xc'⟩, ⟨oa', on', oc'⟩, ⟨ca', cn', cc'⟩⟩ := u
 simp only at g1 g2 g3 g4
 subst g1 g2 g3 g4
 simp only [Sl.v] at C5 C6 C7 CN1 CN2 ⊢
 have c0 := cells_new w #[.int .i64 pr, .int .i64 pe, .int .i64 de, .int .i64 ji, .slice xa xn xc, .slice oa on oc, .slice ca cn cc] 59
 have b1 := below_alloc w (.cells #[.int .i64 pr, .int .i64 pe, .int .i64 de, .int .i64 ji, .slice xa xn xc, .slice oa on oc, .slice ca cn cc] 59)
 have b2 := below_alloc (w.alloc (.cells #[.int .i64 pr, .int .i64 pe, .int .i64 de, .int .i64 ji, .slice xa xn xc, .slice oa on oc, .slice ca cn cc] 59)) (.cells #[.int .i64 pr, .int .i64 pe, .int .i64 de, .int .i64 ji, .slice xa' xn' xc', .slice oa' on' oc', .slice ca' cn' cc'] 59)
 have d0 := cells_new (w.alloc (.cells #[.int .i64 pr, .int .i64 pe, .int .i64 de, .int .i64 ji, .slice xa xn xc, .slice oa on oc, .slice ca cn cc] 59)) #[.int .i64 pr, .int .i64 pe, .int .i64 de, .int .i64 ji, .slice xa' xn' xc', .slice oa' on' oc', .slice ca' cn' cc'] 59
 rw [show (w.alloc (.cells #[.int .i64 pr, .int .i64 pe, .int .i64 de, .int .i64 ji, .slice xa xn xc, .slice oa on oc, .slice ca cn cc] 59)).heap.size = w.heap.size + 1 by simp] at d0
 obtain ⟨W2, hW2⟩ : ∃ W2, W2 = (w.alloc (.cells #[.int .i64 pr, .int .i64 pe, .int .i64 de, .int .i64 ji, .slice xa xn xc, .slice oa on oc, .slice ca cn cc] 59)).alloc (.cells #[.int .i64 pr, .int .i64 pe, .int .i64 de, .int .i64 ji, .slice xa' xn' xc', .slice oa' on' oc', .slice ca' cn' cc'] 59) := ⟨_, rfl⟩
 rw [← hW2] at b2 d0
 have HB2 := Lib.hid (keep_below b1 b2)
 have HC : Hid (∀ W, Below W2.heap.size W2 W → W.cell? ⟨w.heap.size, 0, none⟩ = some (.int .i64 pr) ∧ W.cell? ⟨w.heap.size, 1, none⟩ = some (.int .i64 pe) ∧ W.cell? ⟨w.heap.size, 2, none⟩ = some (.int .i64 de) ∧ W.cell? ⟨w.heap.size, 3, none⟩ = some (.int .i64 ji) ∧ W.cell? ⟨w.heap.size, 4, none⟩ = some (.slice xa xn xc) ∧ W.cell? ⟨w.heap.size, 5, none⟩ = some (.slice oa on oc) ∧ W.cell? ⟨w.heap.size, 6, none⟩ = some (.slice ca cn cc)) := fun W hW =>
  ⟨keep_cell hW (keep_cell b2 (c0 0 _ rfl)), keep_cell hW (keep_cell b2 (c0 1 _ rfl)), keep_cell hW (keep_cell b2 (c0 2 _ rfl)), keep_cell hW (keep_cell b2 (c0 3 _ rfl)), keep_cell hW (keep_cell b2 (c0 4 _ rfl)), keep_cell hW (keep_cell b2 (c0 5 _ rfl)), keep_cell hW (keep_cell b2 (c0 6 _ rfl))⟩
 have HD : Hid (∀ W, Below W2.heap.size W2 W → W.cell? ⟨w.heap.size + 1, 0, none⟩ = some (.int .i64 pr) ∧ W.cell? ⟨w.heap.size + 1, 1, none⟩ = some (.int .i64 pe) ∧ W.cell? ⟨w.heap.size + 1, 2, none⟩ = some (.int .i64 de) ∧ W.cell? ⟨w.heap.size + 1, 3, none⟩ = some (.int .i64 ji) ∧ W.cell? ⟨w.heap.size + 1, 4, none⟩ = some (.slice xa' xn' xc') ∧ W.cell? ⟨w.heap.size + 1, 5, none⟩ = some (.slice oa' on' oc') ∧ W.cell? ⟨w.heap.size + 1, 6, none⟩ = some (.slice ca' cn' cc')) := fun W hW =>
  ⟨keep_cell hW (d0 0 _ rfl), keep_cell hW (d0 1 _ rfl), keep_cell hW (d0 2 _ rfl), keep_cell hW (d0 3 _ rfl), keep_cell hW (d0 4 _ rfl), keep_cell hW (d0 5 _ rfl), keep_cell hW (d0 6 _ rfl)⟩
 have HW2 := Lib.hid hW2
 clear hW2 b1 b2 c0 d0
 go_enter Tryz.func63, Tryz.ntmps63
 go_wp2
 rw [← HW2.out]
 clear HW2
 refine region_w 31 27 (fun i => ([5, 6, 7, 8, 9, 10, 11, 12, 13, 14, 15, 16, 17, 18, 19, 20, 21, 22, 23, 24, 25, 26, 27, 28, 29, 30, 4] : List Nat).getD i 0) (fun i => ([[], [0], [], [2], [1, 3], [4], [5], [5, 6], [5], [5, 8], [5, 7, 9], [5, 10], [11], [12], [12, 13], [12], [12, 15], [12, 14, 16], [12, 17], [18], [19], [19, 20], [19], [19, 22], [19, 21, 23], [19, 24], [25]] : List (List Nat)).getD i []) (fun i v W => ([(fun v _ => v = .agg #[.int .i64 pr, .int .i64 pe, .int .i64 de, .int .i64 ji, .slice xa xn xc, .slice oa on oc, .slice ca cn cc]), (fun v _ => v = .agg #[.int .i64 pr, .int .i64 pe, .int .i64 de, .int .i64 ji]), (fun v _ => v = .agg #[.int .i64 pr, .int .i64 pe, .int .i64 de, .int .i64 ji, .slice xa' xn' xc', .slice oa' on' oc', .slice ca' cn' cc']), (fun v _ => v = .agg #[.int .i64 pr, .int .i64 pe, .int .i64 de, .int .i64 ji]), (fun v _ => v = .bool true), (fun v _ => v = .bool true), (fun v _ => v = .pointer (some ⟨w.heap.size, 4, none⟩)), (fun v _ => v = .slice xa xn xc), (fun v _ => v = .pointer (some ⟨w.heap.size + 1, 4, none⟩)), (fun v _ => v = .slice xa' xn' xc'), (fun v _ => v = .bool true), (fun v _ => v = .bool true), (fun v _ => v = .bool true), (fun v _ => v = .pointer (some ⟨w.heap.size, 5, none⟩)), (fun v _ => v = .slice oa on oc), (fun v _ => v = .pointer (some ⟨w.heap.size + 1, 5, none⟩)), (fun v _ => v = .slice oa' on' oc'), (fun v _ => v = .bool true), (fun v _ => v = .bool true), (fun v _ => v = .bool true), (fun v _ => v = .pointer (some ⟨w.heap.size, 6, none⟩)), (fun v _ => v = .slice ca cn cc), (fun v _ => v = .pointer (some ⟨w.heap.size + 1, 6, none⟩)), (fun v _ => v = .slice ca' cn' cc'), (fun v _ => v = .bool true), (fun v _ => v = .bool true), (fun v _ => v = .bool true)] : List (Value → World → Prop)).getD i (fun _ _ => False) v W) (fun W => Below W2.heap.size W2 W) (fun _ W W' => Below W.heap.size W W') (by kernel_rfl) rfl (fun i j hi hj => (by decide : ∀ i, i < 27 → ∀ j, j < 27 → (fun i => ([5, 6, 7, 8, 9, 10, 11, 12, 13, 14, 15, 16, 17, 18, 19, 20, 21, 22, 23, 24, 25, 26, 27, 28, 29, 30, 4] : List Nat).getD i 0) i = (fun i => ([5, 6, 7, 8, 9, 10, 11, 12, 13, 14, 15, 16, 17, 18, 19, 20, 21, 22, 23, 24, 25, 26, 27, 28, 29, 30, 4] : List Nat).getD i 0) j → i = j) i hi j hj) rfl ?_ ?_ ?_ ?_ ?_
 ·intro i o ho
  iterate 27 (rcases i with _ | i; (obtain rfl := Option.some.inj ho; exact ⟨Or.inl ⟨rfl, by decide⟩, by decide, by decide⟩))
  simp at ho
 ·intro i j v W W' hi hj hji hr hk
  have hb : Below W.heap.size W W' := hr
  match j, hj, hk with
  | 0, _, hk => exact hk
  | 1, _, hk => exact hk
  | 2, _, hk => exact hk
  | 3, _, hk => exact hk
  | 4, _, hk => exact hk
  | 5, _, hk => exact hk
  | 6, _, hk => exact hk
  | 7, _, hk => exact hk
  | 8, _, hk => exact hk
  | 9, _, hk => exact hk
  | 10, _, hk => exact hk
  | 11, _, hk => exact hk
  | 12, _, hk => exact hk
  | 13, _, hk => exact hk
  | 14, _, hk => exact hk
  | 15, _, hk => exact hk
  | 16, _, hk => exact hk
  | 17, _, hk => exact hk
  | 18, _, hk => exact hk
  | 19, _, hk => exact hk
  | 20, _, hk => exact hk
  | 21, _, hk => exact hk
  | 22, _, hk => exact hk
  | 23, _, hk => exact hk
  | 24, _, hk => exact hk
  | 25, _, hk => exact hk
  | 26, _, hk => exact hk
  | k + 27, hj, _ => omega
 ·intro i o ho a' W hS hoth hd
  have oS2 : a'.eval (.tmp 2) = .pointer (some ⟨w.heap.size, 0, none⟩) := hoth 2 (by decide)
  have oS3 : a'.eval (.tmp 3) = .pointer (some ⟨w.heap.size + 1, 0, none⟩) := hoth 3 (by decide)
  obtain ⟨ρ, hρ⟩ : ∃ ρ, ρ = a'.eval := ⟨_, rfl⟩
  have hc : ∀ v, ρ (.const v) = v := fun v => by rw [hρ]; rfl
  have hfn : ∀ f, ρ (.func f) = .func (.func f) #[] #[] := fun f => by rw [hρ]; rfl
  have qS2 : ρ (.tmp 2) = .pointer (some ⟨w.heap.size, 0, none⟩) := by rw [hρ]; exact oS2
  have qS3 : ρ (.tmp 3) = .pointer (some ⟨w.heap.size + 1, 0, none⟩) := by rw [hρ]; exact oS3
  clear hoth
  match i, ho with
  | 0, ho =>
   obtain rfl := Option.some.inj ho
   clear hd
   refine Or.inl ⟨rfl, fun KK hK => ?_⟩
   obtain ⟨c0, c1, c2, c3, c4, c5, c6⟩ := HC.out W hS
   exact wq (u := .agg #[.int .i64 pr, .int .i64 pe, .int .i64 de, .int .i64 ji, .slice xa xn xc, .slice oa on oc, .slice ca cn cc]) (by rw [← hρ]; clear hρ; simp only [execOp]; go_simp) (hK _ W (rfl) hS (Below.refl _ _))
  | 1, ho =>
   obtain rfl := Option.some.inj ho
   have e0 : (ρ (.tmp 5)) = .agg #[.int .i64 pr, .int .i64 pe, .int .i64 de, .int .i64 ji, .slice xa xn xc, .slice oa on oc, .slice ca cn cc] := by rw [hρ]; exact hd 0 (by decide)
   clear hd
   refine Or.inl ⟨rfl, fun KK hK => ?_⟩
   refine Gives.wp (R := fun v W' => v = .agg #[.int .i64 pr, .int .i64 pe, .int .i64 de, .int .i64 ji] ∧ Below W.heap.size W W') (Gives.enter (f := 105) (args := #[.agg #[.int .i64 pr, .int .i64 pe, .int .i64 de, .int .i64 ji, .slice xa xn xc, .slice oa on oc, .slice ca cn cc]]) (by rw [← hρ]; clear hρ; simp only [execOp]; go_simp) ((CN1.out W).mono ?_)) ?_
   ·rintro e w8 ⟨rfl, h2⟩; exact ⟨_, rfl, rfl, h2⟩
   ·rintro v' W' ⟨h1, h2⟩; exact hK v' W' h1 (keep_below hS h2) h2
  | 2, ho =>
   obtain rfl := Option.some.inj ho
   clear hd
   refine Or.inl ⟨rfl, fun KK hK => ?_⟩
   obtain ⟨c0, c1, c2, c3, c4, c5, c6⟩ := HD.out W hS
   exact wq (u := .agg #[.int .i64 pr, .int .i64 pe, .int .i64 de, .int .i64 ji, .slice xa' xn' xc', .slice oa' on' oc', .slice ca' cn' cc']) (by rw [← hρ]; clear hρ; simp only [execOp]; go_simp) (hK _ W (rfl) hS (Below.refl _ _))
  | 3, ho =>
   obtain rfl := Option.some.inj ho
   have e2 : (ρ (.tmp 7)) = .agg #[.int .i64 pr, .int .i64 pe, .int .i64 de, .int .i64 ji, .slice xa' xn' xc', .slice oa' on' oc', .slice ca' cn' cc'] := by rw [hρ]; exact hd 2 (by decide)
   clear hd
   refine Or.inl ⟨rfl, fun KK hK => ?_⟩
   refine Gives.wp (R := fun v W' => v = .agg #[.int .i64 pr, .int .i64 pe, .int .i64 de, .int .i64 ji] ∧ Below W.heap.size W W') (Gives.enter (f := 105) (args := #[.agg #[.int .i64 pr, .int .i64 pe, .int .i64 de, .int .i64 ji, .slice xa' xn' xc', .slice oa' on' oc', .slice ca' cn' cc']]) (by rw [← hρ]; clear hρ; simp only [execOp]; go_simp) ((CN2.out W).mono ?_)) ?_
   ·rintro e w8 ⟨rfl, h2⟩; exact ⟨_, rfl, rfl, h2⟩
   ·rintro v' W' ⟨h1, h2⟩; exact hK v' W' h1 (keep_below hS h2) h2
  | 4, ho =>
   obtain rfl := Option.some.inj ho
   have e1 : (ρ (.tmp 6)) = .agg #[.int .i64 pr, .int .i64 pe, .int .i64 de, .int .i64 ji] := by rw [hρ]; exact hd 1 (by decide)
   have e3 : (ρ (.tmp 8)) = .agg #[.int .i64 pr, .int .i64 pe, .int .i64 de, .int .i64 ji] := by rw [hρ]; exact hd 3 (by decide)
   clear hd
   refine Or.inl ⟨rfl, fun KK hK => ?_⟩
   exact wq (u := .bool true) (by rw [← hρ]; clear hρ; simp only [execOp]; go_simp) (hK _ W (rfl) hS (Below.refl _ _))
  | 5, ho =>
   obtain rfl := Option.some.inj ho
   have e4 : (ρ (.tmp 9)) = .bool true := by rw [hρ]; exact hd 4 (by decide)
   clear hd
   refine Or.inl ⟨rfl, fun KK hK => ?_⟩
   exact wq (u := .bool true) (by rw [← hρ]; clear hρ; simp only [execOp]; go_simp) (hK _ W (rfl) hS (Below.refl _ _))
  | 6, ho =>
   obtain rfl := Option.some.inj ho
   have e5 : (ρ (.tmp 10)) = .bool true := by rw [hρ]; exact hd 5 (by decide)
   clear hd
   have g5 : a'.eval (.tmp 10) = .bool true := by rw [← hρ]; exact e5
   refine Or.inr ⟨5, true, true, rfl, by decide, by decide, g5, fun _ KK hK => ?_, fun h => absurd rfl h⟩
   exact wq (u := .pointer (some ⟨w.heap.size, 4, none⟩)) (by rw [← hρ]; clear hρ; simp only [execOp]; go_simp) (hK _ W (rfl) hS (Below.refl _ _))
  | 7, ho =>
   obtain rfl := Option.some.inj ho
   have e5 : (ρ (.tmp 10)) = .bool true := by rw [hρ]; exact hd 5 (by decide)
   have e6 : (ρ (.tmp 11)) = .pointer (some ⟨w.heap.size, 4, none⟩) := by rw [hρ]; exact hd 6 (by decide)
   clear hd
   have g5 : a'.eval (.tmp 10) = .bool true := by rw [← hρ]; exact e5
   refine Or.inr ⟨5, true, true, rfl, by decide, by decide, g5, fun _ KK hK => ?_, fun h => absurd rfl h⟩
   obtain ⟨c0, c1, c2, c3, c4, c5, c6⟩ := HC.out W hS
   exact wq (u := .slice xa xn xc) (by rw [← hρ]; clear hρ; simp only [execOp]; go_simp) (hK _ W (rfl) hS (Below.refl _ _))
  | 8, ho =>
   obtain rfl := Option.some.inj ho
   have e5 : (ρ (.tmp 10)) = .bool true := by rw [hρ]; exact hd 5 (by decide)
   clear hd
   have g5 : a'.eval (.tmp 10) = .bool true := by rw [← hρ]; exact e5
   refine Or.inr ⟨5, true, true, rfl, by decide, by decide, g5, fun _ KK hK => ?_, fun h => absurd rfl h⟩
   exact wq (u := .pointer (some ⟨w.heap.size + 1, 4, none⟩)) (by rw [← hρ]; clear hρ; simp only [execOp]; go_simp) (hK _ W (rfl) hS (Below.refl _ _))
  | 9, ho =>
   obtain rfl := Option.some.inj ho
   have e5 : (ρ (.tmp 10)) = .bool true := by rw [hρ]; exact hd 5 (by decide)
   have e8 : (ρ (.tmp 13)) = .pointer (some ⟨w.heap.size + 1, 4, none⟩) := by rw [hρ]; exact hd 8 (by decide)
   clear hd
   have g5 : a'.eval (.tmp 10) = .bool true := by rw [← hρ]; exact e5
   refine Or.inr ⟨5, true, true, rfl, by decide, by decide, g5, fun _ KK hK => ?_, fun h => absurd rfl h⟩
   obtain ⟨c0, c1, c2, c3, c4, c5, c6⟩ := HD.out W hS
   exact wq (u := .slice xa' xn' xc') (by rw [← hρ]; clear hρ; simp only [execOp]; go_simp) (hK _ W (rfl) hS (Below.refl _ _))
  | 10, ho =>
   obtain rfl := Option.some.inj ho
   have e5 : (ρ (.tmp 10)) = .bool true := by rw [hρ]; exact hd 5 (by decide)
   have e7 : (ρ (.tmp 12)) = .slice xa xn xc := by rw [hρ]; exact hd 7 (by decide)
   have e9 : (ρ (.tmp 14)) = .slice xa' xn' xc' := by rw [hρ]; exact hd 9 (by decide)
   clear hd
   have g5 : a'.eval (.tmp 10) = .bool true := by rw [← hρ]; exact e5
   refine Or.inr ⟨5, true, true, rfl, by decide, by decide, g5, fun _ KK hK => ?_, fun h => absurd rfl h⟩
   refine Gives.wp (R := fun v W' => v = .bool true ∧ Below W.heap.size W W') (Gives.enter (f := 60) (args := #[.slice xa xn xc, .slice xa' xn' xc']) (by rw [← hρ]; clear hρ; simp only [execOp]; go_simp) ((C5.out W (keep_below HB2.out hS)).mono ?_)) ?_
   ·rintro e w8 ⟨rfl, h2⟩; exact ⟨_, rfl, rfl, h2⟩
   ·rintro v' W' ⟨h1, h2⟩; exact hK v' W' h1 (keep_below hS h2) h2
  | 11, ho =>
   obtain rfl := Option.some.inj ho
   have e5 : (ρ (.tmp 10)) = .bool true := by rw [hρ]; exact hd 5 (by decide)
   have e10 : (ρ (.tmp 15)) = .bool true := by rw [hρ]; exact hd 10 (by decide)
   clear hd
   refine Or.inl ⟨rfl, fun KK hK => ?_⟩
   exact wq (u := .bool true) (by rw [← hρ]; clear hρ; simp only [execOp]; go_simp) (hK _ W (rfl) hS (Below.refl _ _))
  | 12, ho =>
   obtain rfl := Option.some.inj ho
   have e11 : (ρ (.tmp 16)) = .bool true := by rw [hρ]; exact hd 11 (by decide)
   clear hd
   refine Or.inl ⟨rfl, fun KK hK => ?_⟩
   exact wq (u := .bool true) (by rw [← hρ]; clear hρ; simp only [execOp]; go_simp) (hK _ W (rfl) hS (Below.refl _ _))
  | 13, ho =>
   obtain rfl := Option.some.inj ho
   have e12 : (ρ (.tmp 17)) = .bool true := by rw [hρ]; exact hd 12 (by decide)
   clear hd
   have g12 : a'.eval (.tmp 17) = .bool true := by rw [← hρ]; exact e12
   refine Or.inr ⟨12, true, true, rfl, by decide, by decide, g12, fun _ KK hK => ?_, fun h => absurd rfl h⟩
   exact wq (u := .pointer (some ⟨w.heap.size, 5, none⟩)) (by rw [← hρ]; clear hρ; simp only [execOp]; go_simp) (hK _ W (rfl) hS (Below.refl _ _))
  | 14, ho =>
   obtain rfl := Option.some.inj ho
   have e12 : (ρ (.tmp 17)) = .bool true := by rw [hρ]; exact hd 12 (by decide)
   have e13 : (ρ (.tmp 18)) = .pointer (some ⟨w.heap.size, 5, none⟩) := by rw [hρ]; exact hd 13 (by decide)
   clear hd
   have g12 : a'.eval (.tmp 17) = .bool true := by rw [← hρ]; exact e12
   refine Or.inr ⟨12, true, true, rfl, by decide, by decide, g12, fun _ KK hK => ?_, fun h => absurd rfl h⟩
   obtain ⟨c0, c1, c2, c3, c4, c5, c6⟩ := HC.out W hS
   exact wq (u := .slice oa on oc) (by rw [← hρ]; clear hρ; simp only [execOp]; go_simp) (hK _ W (rfl) hS (Below.refl _ _))
  | 15, ho =>
   obtain rfl := Option.some.inj ho
   have e12 : (ρ (.tmp 17)) = .bool true := by rw [hρ]; exact hd 12 (by decide)
   clear hd
   have g12 : a'.eval (.tmp 17) = .bool true := by rw [← hρ]; exact e12
   refine Or.inr ⟨12, true, true, rfl, by decide, by decide, g12, fun _ KK hK => ?_, fun h => absurd rfl h⟩
   exact wq (u := .pointer (some ⟨w.heap.size + 1, 5, none⟩)) (by rw [← hρ]; clear hρ; simp only [execOp]; go_simp) (hK _ W (rfl) hS (Below.refl _ _))
  | 16, ho =>
   obtain rfl := Option.some.inj ho
   have e12 : (ρ (.tmp 17)) = .bool true := by rw [hρ]; exact hd 12 (by decide)
   have e15 : (ρ (.tmp 20)) = .pointer (some ⟨w.heap.size + 1, 5, none⟩) := by rw [hρ]; exact hd 15 (by decide)
   clear hd
   have g12 : a'.eval (.tmp 17) = .bool true := by rw [← hρ]; exact e12
   refine Or.inr ⟨12, true, true, rfl, by decide, by decide, g12, fun _ KK hK => ?_, fun h => absurd rfl h⟩
   obtain ⟨c0, c1, c2, c3, c4, c5, c6⟩ := HD.out W hS
   exact wq (u := .slice oa' on' oc') (by rw [← hρ]; clear hρ; simp only [execOp]; go_simp) (hK _ W (rfl) hS (Below.refl _ _))
  | 17, ho =>
   obtain rfl := Option.some.inj ho
   have e12 : (ρ (.tmp 17)) = .bool true := by rw [hρ]; exact hd 12 (by decide)
   have e14 : (ρ (.tmp 19)) = .slice oa on oc := by rw [hρ]; exact hd 14 (by decide)
   have e16 : (ρ (.tmp 21)) = .slice oa' on' oc' := by rw [hρ]; exact hd 16 (by decide)
   clear hd
   have g12 : a'.eval (.tmp 17) = .bool true := by rw [← hρ]; exact e12
   refine Or.inr ⟨12, true, true, rfl, by decide, by decide, g12, fun _ KK hK => ?_, fun h => absurd rfl h⟩
   refine Gives.wp (R := fun v W' => v = .bool true ∧ Below W.heap.size W W') (Gives.enter (f := 60) (args := #[.slice oa on oc, .slice oa' on' oc']) (by rw [← hρ]; clear hρ; simp only [execOp]; go_simp) ((C6.out W (keep_below HB2.out hS)).mono ?_)) ?_
   ·rintro e w8 ⟨rfl, h2⟩; exact ⟨_, rfl, rfl, h2⟩
   ·rintro v' W' ⟨h1, h2⟩; exact hK v' W' h1 (keep_below hS h2) h2
  | 18, ho =>
   obtain rfl := Option.some.inj ho
   have e12 : (ρ (.tmp 17)) = .bool true := by rw [hρ]; exact hd 12 (by decide)
   have e17 : (ρ (.tmp 22)) = .bool true := by rw [hρ]; exact hd 17 (by decide)
   clear hd
   refine Or.inl ⟨rfl, fun KK hK => ?_⟩
   exact wq (u := .bool true) (by rw [← hρ]; clear hρ; simp only [execOp]; go_simp) (hK _ W (rfl) hS (Below.refl _ _))
  | 19, ho =>
   obtain rfl := Option.some.inj ho
   have e18 : (ρ (.tmp 23)) = .bool true := by rw [hρ]; exact hd 18 (by decide)
   clear hd
   refine Or.inl ⟨rfl, fun KK hK => ?_⟩
   exact wq (u := .bool true) (by rw [← hρ]; clear hρ; simp only [execOp]; go_simp) (hK _ W (rfl) hS (Below.refl _ _))
  | 20, ho =>
   obtain rfl := Option.some.inj ho
   have e19 : (ρ (.tmp 24)) = .bool true := by rw [hρ]; exact hd 19 (by decide)
   clear hd
   have g19 : a'.eval (.tmp 24) = .bool true := by rw [← hρ]; exact e19
   refine Or.inr ⟨19, true, true, rfl, by decide, by decide, g19, fun _ KK hK => ?_, fun h => absurd rfl h⟩
   exact wq (u := .pointer (some ⟨w.heap.size, 6, none⟩)) (by rw [← hρ]; clear hρ; simp only [execOp]; go_simp) (hK _ W (rfl) hS (Below.refl _ _))
  | 21, ho =>
   obtain rfl := Option.some.inj ho
   have e19 : (ρ (.tmp 24)) = .bool true := by rw [hρ]; exact hd 19 (by decide)
   have e20 : (ρ (.tmp 25)) = .pointer (some ⟨w.heap.size, 6, none⟩) := by rw [hρ]; exact hd 20 (by decide)
   clear hd
   have g19 : a'.eval (.tmp 24) = .bool true := by rw [← hρ]; exact e19
   refine Or.inr ⟨19, true, true, rfl, by decide, by decide, g19, fun _ KK hK => ?_, fun h => absurd rfl h⟩
   obtain ⟨c0, c1, c2, c3, c4, c5, c6⟩ := HC.out W hS
   exact wq (u := .slice ca cn cc) (by rw [← hρ]; clear hρ; simp only [execOp]; go_simp) (hK _ W (rfl) hS (Below.refl _ _))
  | 22, ho =>
   obtain rfl := Option.some.inj ho
   have e19 : (ρ (.tmp 24)) = .bool true := by rw [hρ]; exact hd 19 (by decide)
   clear hd
   have g19 : a'.eval (.tmp 24) = .bool true := by rw [← hρ]; exact e19
   refine Or.inr ⟨19, true, true, rfl, by decide, by decide, g19, fun _ KK hK => ?_, fun h => absurd rfl h⟩
   exact wq (u := .pointer (some ⟨w.heap.size + 1, 6, none⟩)) (by rw [← hρ]; clear hρ; simp only [execOp]; go_simp) (hK _ W (rfl) hS (Below.refl _ _))
  | 23, ho =>
   obtain rfl := Option.some.inj ho
   have e19 : (ρ (.tmp 24)) = .bool true := by rw [hρ]; exact hd 19 (by decide)
   have e22 : (ρ (.tmp 27)) = .pointer (some ⟨w.heap.size + 1, 6, none⟩) := by rw [hρ]; exact hd 22 (by decide)
   clear hd
   have g19 : a'.eval (.tmp 24) = .bool true := by rw [← hρ]; exact e19
   refine Or.inr ⟨19, true, true, rfl, by decide, by decide, g19, fun _ KK hK => ?_, fun h => absurd rfl h⟩
   obtain ⟨c0, c1, c2, c3, c4, c5, c6⟩ := HD.out W hS
   exact wq (u := .slice ca' cn' cc') (by rw [← hρ]; clear hρ; simp only [execOp]; go_simp) (hK _ W (rfl) hS (Below.refl _ _))
  | 24, ho =>
   obtain rfl := Option.some.inj ho
   have e19 : (ρ (.tmp 24)) = .bool true := by rw [hρ]; exact hd 19 (by decide)
   have e21 : (ρ (.tmp 26)) = .slice ca cn cc := by rw [hρ]; exact hd 21 (by decide)
   have e23 : (ρ (.tmp 28)) = .slice ca' cn' cc' := by rw [hρ]; exact hd 23 (by decide)
   clear hd
   have g19 : a'.eval (.tmp 24) = .bool true := by rw [← hρ]; exact e19
   refine Or.inr ⟨19, true, true, rfl, by decide, by decide, g19, fun _ KK hK => ?_, fun h => absurd rfl h⟩
   refine Gives.wp (R := fun v W' => v = .bool true ∧ Below W.heap.size W W') (Gives.enter (f := 106) (args := #[.slice ca cn cc, .slice ca' cn' cc']) (by rw [← hρ]; clear hρ; simp only [execOp]; go_simp) ((C7.out W (keep_below HB2.out hS)).mono ?_)) ?_
   ·rintro e w8 ⟨rfl, h2⟩; exact ⟨_, rfl, rfl, h2⟩
   ·rintro v' W' ⟨h1, h2⟩; exact hK v' W' h1 (keep_below hS h2) h2
  | 25, ho =>
   obtain rfl := Option.some.inj ho
   have e19 : (ρ (.tmp 24)) = .bool true := by rw [hρ]; exact hd 19 (by decide)
   have e24 : (ρ (.tmp 29)) = .bool true := by rw [hρ]; exact hd 24 (by decide)
   clear hd
   refine Or.inl ⟨rfl, fun KK hK => ?_⟩
   exact wq (u := .bool true) (by rw [← hρ]; clear hρ; simp only [execOp]; go_simp) (hK _ W (rfl) hS (Below.refl _ _))
  | 26, ho =>
   obtain rfl := Option.some.inj ho
   have e25 : (ρ (.tmp 30)) = .bool true := by rw [hρ]; exact hd 25 (by decide)
   clear hd
   refine Or.inl ⟨rfl, fun KK hK => ?_⟩
   exact wq (u := .bool true) (by rw [← hρ]; clear hρ; simp only [execOp]; go_simp) (hK _ W (rfl) hS (Below.refl _ _))
  | k + 27, ho => simp at ho
 ·exact ⟨rfl, rfl, rfl, Nat.le_refl _, fun _ _ => rfl⟩
 ·intro a' W hsz hdef hoth hok hS
  have hcov : ∀ i, i < 27 → (fun i => ([5, 6, 7, 8, 9, 10, 11, 12, 13, 14, 15, 16, 17, 18, 19, 20, 21, 22, 23, 24, 25, 26, 27, 28, 29, 30, 4] : List Nat).getD i 0) i < 31 → 4 ≤ (fun i => ([5, 6, 7, 8, 9, 10, 11, 12, 13, 14, 15, 16, 17, 18, 19, 20, 21, 22, 23, 24, 25, 26, 27, 28, 29, 30, 4] : List Nat).getD i 0) i ∧ (fun i => ([5, 6, 7, 8, 9, 10, 11, 12, 13, 14, 15, 16, 17, 18, 19, 20, 21, 22, 23, 24, 25, 26, 27, 28, 29, 30, 4] : List Nat).getD i 0) i < 31 := by decide
  have v4 : a'.eval (.tmp 4) = .bool true := hok 26 (by decide)
  clear hok
  obtain ⟨us, hu1, hu2, rfl⟩ := act_mix 4 27 rfl hsz hdef (by simp) (fun k hk => by
   by_cases hkT : k < 31
   ·exact hoth k (fun i hi e => by have := hcov i hi (Nat.lt_of_le_of_lt (Nat.le_of_eq e) hkT); dsimp only at this e; omega)
   ·rw [eval_out (by rw [hsz]; omega), eval_out (by simp; omega)])
  clear hoth hcov
  match us, hu1, hu2 with
  | [u4, u5, u6, u7, u8, u9, u10, u11, u12, u13, u14, u15, u16, u17, u18, u19, u20, u21, u22, u23, u24, u25, u26, u27, u28, u29, u30], _, hu2 =>
   obtain rfl : u4 = .bool true := (hu2 0 (by decide)).trans v4
   clear hu2
   have hb9 := keep_below HB2.out hS
   clear hS hsz hdef hu1
   go_wp2
   go_ret
   exact ⟨rfl, hb9⟩
theorem eqBlocks_any (a b : Option Addr) (n m c d : Nat) (L : List (List Int)) (w : World) (ha : RowR w a n L) (hb : RowR w b m L) (hn : n ≤ 140737488355328) :
  Calls Tryz.prog 61 #[.slice a n c, .slice b m d, .func (.func 60) #[] #[]] w fun e w' => e = .returned (.bool true) ∧ Below w.heap.size w w' := by
 obtain rfl : m = n := hb.1.trans ha.1.symm
 have HA := Lib.hid ha
 have HB := Lib.hid hb
 clear ha hb
 go_enter Tryz.func61, Tryz.ntmps61
 go_wp2
 go_loopw [17] (fun i wr => ∃ k : Nat, k ≤ m ∧ i = .int .i64 k ∧ Below w.heap.size w wr) (fun i _ => m - (intOf i).toNat)
 case atStart => exact ⟨0, by omega, rfl, Below.refl _ _⟩
 case round =>
  obtain ⟨k, hk, rfl, hbl⟩ := hrel
  by_cases hlt : k < m
  ·obtain ⟨b1, o1, a1, n1, c1, l1, rfl, hB1, hl1, x0, r1, q1⟩ := HA.out.item hlt
   obtain ⟨b2, o2, a2, n2, c2, l2, rfl, hB2, hl2, y0, r2, q2⟩ := HB.out.item hlt
   rw [hl1] at hl2
   cases hl2
   have CE := Lib.hid (eqInts_any ⟨a1, n1, c1⟩ ⟨a2, n2, c2⟩ l1 wr ⟨r1.below hbl, q1⟩ ⟨r2.below hbl, q2⟩)
   simp only [Sl.v] at CE
   have x1 := keep_cell hbl x0
   have y1 := keep_cell hbl y0
   have i1 : (0 : Int) ≤ (k : Int) := by omega
   have i2 : (k : Int) < (m : Int) := by omega
   clear hl1 hB1 hB2 x0 y0 r1 r2
   go_wp2_with (go_at_call 60; refine CE.out.mono ?_; rintro e w1 ⟨rfl, hb1⟩)
   have hb2 := keep_below hbl hb1
   clear hb1 hbl x1 y1 CE
   go_wp2
   go_roundw
   case rel => exact ⟨k + 1, by omega, by go_num, hb2⟩
   case measure => simp [intOf]; omega
  ·go_wp2
   go_ret
   exact ⟨rfl, hbl⟩
theorem eqTasks_any (a b : Option Addr) (n m c d : Nat) (L : List TkP) (w : World) (hA : ∀ k, k < n → ∃ b off t T, a = some ⟨b, off, none⟩ ∧ L[k]? = some T ∧ TaV.Is w t T ∧ ∀ j v, t.cells[j]? = some v → w.cell? ⟨b, off + k * 7 + j, none⟩ = some v) (hB : ∀ k, k < n → ∃ b' off t T, b = some ⟨b', off, none⟩ ∧ L[k]? = some T ∧ TaV.Is w t T ∧ ∀ j v, t.cells[j]? = some v → w.cell? ⟨b', off + k * 7 + j, none⟩ = some v) (hnm : m = n) (hL : ∀ T ∈ L, T.co.length ≤ 1000000) (hn : n ≤ 140737488355328) :
  Calls Tryz.prog 62 #[.slice a n c, .slice b m d, .func (.func 63) #[] #[]] w fun e w' => e = .returned (.bool true) ∧ Below w.heap.size w w' := by
 subst hnm
 have HA := Lib.hid hA
 have HB := Lib.hid hB
 have HL := Lib.hid hL
 clear hA hB hL
 go_enter Tryz.func62, Tryz.ntmps62
 go_wp2
 go_loopw [17] (fun i wr => ∃ k : Nat, k ≤ m ∧ i = .int .i64 k ∧ Below w.heap.size w wr) (fun i _ => m - (intOf i).toNat)
 case atStart => exact ⟨0, by omega, rfl, Below.refl _ _⟩
 case round =>
  obtain ⟨k, hk, rfl, hbl⟩ := hrel
  by_cases hlt : k < m
  ·obtain ⟨b1, o1, ⟨pr, pe, de, ji, ⟨xa, xn, xc⟩, ⟨oa, on, oc⟩, ⟨ca, cn, cc⟩⟩, T, rfl, hT, ht, hcs⟩ := HA.out k hlt
   obtain ⟨b2, o2, ⟨pr', pe', de', ji', ⟨xa', xn', xc'⟩, ⟨oa', on', oc'⟩, ⟨ca', cn', cc'⟩⟩, T', rfl, hT', ht', hcs'⟩ := HB.out k hlt
   rw [hT] at hT'
   cases hT'
   have hLT := HL.out T (List.mem_of_getElem? hT)
   have x0 : wr.cell? ⟨b1, o1 + k * 7, none⟩ = some (.int .i64 pr) := keep_cell hbl (hcs 0 _ rfl)
   have x1 : wr.cell? ⟨b1, o1 + k * 7 + 1, none⟩ = some (.int .i64 pe) := keep_cell hbl (hcs 1 _ rfl)
   have x2 : wr.cell? ⟨b1, o1 + k * 7 + 2, none⟩ = some (.int .i64 de) := keep_cell hbl (hcs 2 _ rfl)
   have x3 : wr.cell? ⟨b1, o1 + k * 7 + 3, none⟩ = some (.int .i64 ji) := keep_cell hbl (hcs 3 _ rfl)
   have x4 : wr.cell? ⟨b1, o1 + k * 7 + 4, none⟩ = some (.slice xa xn xc) := keep_cell hbl (hcs 4 _ rfl)
   have x5 : wr.cell? ⟨b1, o1 + k * 7 + 5, none⟩ = some (.slice oa on oc) := keep_cell hbl (hcs 5 _ rfl)
   have x6 : wr.cell? ⟨b1, o1 + k * 7 + 6, none⟩ = some (.slice ca cn cc) := keep_cell hbl (hcs 6 _ rfl)
   have i1 : (0 : Int) ≤ (k : Int) := by omega
   have i2 : (k : Int) < (m : Int) := by omega
   have A1 := below_alloc wr (.cells #[.int .i64 pr, .int .i64 pe, .int .i64 de, .int .i64 ji, .slice xa xn xc, .slice oa on oc, .slice ca cn cc] 59)
   have A2 := below_alloc (wr.alloc (.cells #[.int .i64 pr, .int .i64 pe, .int .i64 de, .int .i64 ji, .slice xa xn xc, .slice oa on oc, .slice ca cn cc] 59)) (.cells #[.int .i64 pr', .int .i64 pe', .int .i64 de', .int .i64 ji', .slice xa' xn' xc', .slice oa' on' oc', .slice ca' cn' cc'] 59)
   have hb3 := keep_below (keep_below hbl A1) A2
   have CE := Lib.hid (sameTask_any ⟨pr, pe, de, ji, ⟨xa, xn, xc⟩, ⟨oa, on, oc⟩, ⟨ca, cn, cc⟩⟩ ⟨pr', pe', de', ji', ⟨xa', xn', xc'⟩, ⟨oa', on', oc'⟩, ⟨ca', cn', cc'⟩⟩ T _ (ht.below hb3) (ht'.below hb3) hLT)
   simp only [Sl.v] at CE
   have HB3 := Lib.hid hb3
   have y0 : (wr.alloc (.cells #[.int .i64 pr, .int .i64 pe, .int .i64 de, .int .i64 ji, .slice xa xn xc, .slice oa on oc, .slice ca cn cc] 59)).cell? ⟨b2, o2 + k * 7, none⟩ = some (.int .i64 pr') := keep_cell A1 (keep_cell hbl (hcs' 0 _ rfl))
   have y1 : (wr.alloc (.cells #[.int .i64 pr, .int .i64 pe, .int .i64 de, .int .i64 ji, .slice xa xn xc, .slice oa on oc, .slice ca cn cc] 59)).cell? ⟨b2, o2 + k * 7 + 1, none⟩ = some (.int .i64 pe') := keep_cell A1 (keep_cell hbl (hcs' 1 _ rfl))
   have y2 : (wr.alloc (.cells #[.int .i64 pr, .int .i64 pe, .int .i64 de, .int .i64 ji, .slice xa xn xc, .slice oa on oc, .slice ca cn cc] 59)).cell? ⟨b2, o2 + k * 7 + 2, none⟩ = some (.int .i64 de') := keep_cell A1 (keep_cell hbl (hcs' 2 _ rfl))
   have y3 : (wr.alloc (.cells #[.int .i64 pr, .int .i64 pe, .int .i64 de, .int .i64 ji, .slice xa xn xc, .slice oa on oc, .slice ca cn cc] 59)).cell? ⟨b2, o2 + k * 7 + 3, none⟩ = some (.int .i64 ji') := keep_cell A1 (keep_cell hbl (hcs' 3 _ rfl))
   have y4 : (wr.alloc (.cells #[.int .i64 pr, .int .i64 pe, .int .i64 de, .int .i64 ji, .slice xa xn xc, .slice oa on oc, .slice ca cn cc] 59)).cell? ⟨b2, o2 + k * 7 + 4, none⟩ = some (.slice xa' xn' xc') := keep_cell A1 (keep_cell hbl (hcs' 4 _ rfl))
   have y5 : (wr.alloc (.cells #[.int .i64 pr, .int .i64 pe, .int .i64 de, .int .i64 ji, .slice xa xn xc, .slice oa on oc, .slice ca cn cc] 59)).cell? ⟨b2, o2 + k * 7 + 5, none⟩ = some (.slice oa' on' oc') := keep_cell A1 (keep_cell hbl (hcs' 5 _ rfl))
   have y6 : (wr.alloc (.cells #[.int .i64 pr, .int .i64 pe, .int .i64 de, .int .i64 ji, .slice xa xn xc, .slice oa on oc, .slice ca cn cc] 59)).cell? ⟨b2, o2 + k * 7 + 6, none⟩ = some (.slice ca' cn' cc') := keep_cell A1 (keep_cell hbl (hcs' 6 _ rfl))
   clear hT ht ht' hcs hcs' hLT hb3
   go_wp2_with (go_at_call 63; refine CE.out.mono ?_; rintro e w1 ⟨rfl, hb1⟩)
   have hb2 := keep_below HB3.out hb1
   clear hb1 hbl CE HB3 A1 A2
   go_wp2
   go_roundw
   case rel => exact ⟨k + 1, by omega, by go_num, hb2⟩
   case measure => simp [intOf]; omega
  ·go_wp2
   go_ret
   exact ⟨rfl, hbl⟩
theorem sameIm_any (x y : ImV) (m : ImP) (w : World) (hx : x.Is w m) (hy : y.Is w m) (hL : ∀ T ∈ m.tasks, T.co.length ≤ 1000000) :
  Calls Tryz.prog 28 #[x.v, y.v] w fun e w' => e = .returned (.bool true) ∧ Below w.heap.size w w' := by
 have CN1 := Lib.hid (fun W => nums_any x W)
 have CN2 := Lib.hid (fun W => nums_any y W)
 have C5 := Lib.hid (fun W (hb : Below w.heap.size w W) => eqInts_any x.safe y.safe m.safe W (hx.2.2.2.2.1.below hb) (hy.2.2.2.2.1.below hb))
 have C6 := Lib.hid (fun W (hb : Below w.heap.size w W) => eqBlocks_any x.blocks.a y.blocks.a x.blocks.n y.blocks.n x.blocks.c y.blocks.c m.blocks W (hx.2.2.2.2.2.1.1.below hb) (hy.2.2.2.2.2.1.1.below hb) hx.2.2.2.2.2.1.2)
 have C7 := Lib.hid (fun W (hb : Below w.heap.size w W) => eqTasks_any x.tasks.a y.tasks.a x.tasks.n y.tasks.n x.tasks.c y.tasks.c m.tasks W (fun k hk => by obtain ⟨b, off, t, T, h1, _, h3, h4, h5⟩ := (hx.below hb).task (k := k) hk; exact ⟨b, off, t, T, h1, h3, h4, h5⟩) (fun k hk => by obtain ⟨b, off, t, T, h1, _, h3, h4, h5⟩ := (hy.below hb).task (k := k) (by have := hx.2.2.2.2.2.2.1.1; have := hy.2.2.2.2.2.2.1.1; omega); exact ⟨b, off, t, T, h1, h3, h4, h5⟩) (hy.2.2.2.2.2.2.1.1.trans hx.2.2.2.2.2.2.1.1.symm) hL hx.2.2.2.2.2.2.2)
 obtain ⟨e1, e2, e3, e4, -⟩ := hx
 obtain ⟨f1, f2, f3, f4, -⟩ := hy
 have g1 : x.sw = y.sw := e1.trans f1.symm
 have g2 : x.la = y.la := e2.trans f2.symm
 have g3 : x.cm = y.cm := e3.trans f3.symm
 have g4 : x.inp = y.inp := e4.trans f4.symm
 clear e1 e2 e3 e4 f1 f2 f3 f4 hL
 obtain ⟨sw, la, cm, inp, ⟨sa, sn, sc⟩, ⟨ba, bn, bc⟩, ⟨ta, tn, tc⟩⟩ := x
 obtain ⟨sw', la', cm', inp', ⟨sa', sn', sc'⟩, ⟨ba', bn', bc'⟩, ⟨ta', tn', tc'⟩⟩ := y
 simp only at g1 g2 g3 g4
 subst g1 g2 g3 g4
 simp only [ImV.v, Sl.v] at C5 C6 C7 CN1 CN2 ⊢
 have c0 := cells_new w #[.int .i64 sw, .int .i64 la, .int .i64 cm, .int .i64 inp, .slice sa sn sc, .slice ba bn bc, .slice ta tn tc] 26
 have b1 := below_alloc w (.cells #[.int .i64 sw, .int .i64 la, .int .i64 cm, .int .i64 inp, .slice sa sn sc, .slice ba bn bc, .slice ta tn tc] 26)
 have b2 := below_alloc (w.alloc (.cells #[.int .i64 sw, .int .i64 la, .int .i64 cm, .int .i64 inp, .slice sa sn sc, .slice ba bn bc, .slice ta tn tc] 26)) (.cells #[.int .i64 sw, .int .i64 la, .int .i64 cm, .int .i64 inp, .slice sa' sn' sc', .slice ba' bn' bc', .slice ta' tn' tc'] 26)
 have d0 := cells_new (w.alloc (.cells #[.int .i64 sw, .int .i64 la, .int .i64 cm, .int .i64 inp, .slice sa sn sc, .slice ba bn bc, .slice ta tn tc] 26)) #[.int .i64 sw, .int .i64 la, .int .i64 cm, .int .i64 inp, .slice sa' sn' sc', .slice ba' bn' bc', .slice ta' tn' tc'] 26
 rw [show (w.alloc (.cells #[.int .i64 sw, .int .i64 la, .int .i64 cm, .int .i64 inp, .slice sa sn sc, .slice ba bn bc, .slice ta tn tc] 26)).heap.size = w.heap.size + 1 by simp] at d0
 obtain ⟨W2, hW2⟩ : ∃ W2, W2 = (w.alloc (.cells #[.int .i64 sw, .int .i64 la, .int .i64 cm, .int .i64 inp, .slice sa sn sc, .slice ba bn bc, .slice ta tn tc] 26)).alloc (.cells #[.int .i64 sw, .int .i64 la, .int .i64 cm, .int .i64 inp, .slice sa' sn' sc', .slice ba' bn' bc', .slice ta' tn' tc'] 26) := ⟨_, rfl⟩
 rw [← hW2] at b2 d0
 have HB2 := Lib.hid (keep_below b1 b2)
 have HC : Hid (∀ W, Below W2.heap.size W2 W → W.cell? ⟨w.heap.size, 0, none⟩ = some (.int .i64 sw) ∧ W.cell? ⟨w.heap.size, 1, none⟩ = some (.int .i64 la) ∧ W.cell? ⟨w.heap.size, 2, none⟩ = some (.int .i64 cm) ∧ W.cell? ⟨w.heap.size, 3, none⟩ = some (.int .i64 inp) ∧ W.cell? ⟨w.heap.size, 4, none⟩ = some (.slice sa sn sc) ∧ W.cell? ⟨w.heap.size, 5, none⟩ = some (.slice ba bn bc) ∧ W.cell? ⟨w.heap.size, 6, none⟩ = some (.slice ta tn tc)) := fun W hW =>
  ⟨keep_cell hW (keep_cell b2 (c0 0 _ rfl)), keep_cell hW (keep_cell b2 (c0 1 _ rfl)), keep_cell hW (keep_cell b2 (c0 2 _ rfl)), keep_cell hW (keep_cell b2 (c0 3 _ rfl)), keep_cell hW (keep_cell b2 (c0 4 _ rfl)), keep_cell hW (keep_cell b2 (c0 5 _ rfl)), keep_cell hW (keep_cell b2 (c0 6 _ rfl))⟩
 have HD : Hid (∀ W, Below W2.heap.size W2 W → W.cell? ⟨w.heap.size + 1, 0, none⟩ = some (.int .i64 sw) ∧ W.cell? ⟨w.heap.size + 1, 1, none⟩ = some (.int .i64 la) ∧ W.cell? ⟨w.heap.size + 1, 2, none⟩ = some (.int .i64 cm) ∧ W.cell? ⟨w.heap.size + 1, 3, none⟩ = some (.int .i64 inp) ∧ W.cell? ⟨w.heap.size + 1, 4, none⟩ = some (.slice sa' sn' sc') ∧ W.cell? ⟨w.heap.size + 1, 5, none⟩ = some (.slice ba' bn' bc') ∧ W.cell? ⟨w.heap.size + 1, 6, none⟩ = some (.slice ta' tn' tc')) := fun W hW =>
  ⟨keep_cell hW (d0 0 _ rfl), keep_cell hW (d0 1 _ rfl), keep_cell hW (d0 2 _ rfl), keep_cell hW (d0 3 _ rfl), keep_cell hW (d0 4 _ rfl), keep_cell hW (d0 5 _ rfl), keep_cell hW (d0 6 _ rfl)⟩
 have HW2 := Lib.hid hW2
 clear hW2 b1 b2 c0 d0
 go_enter Tryz.func28, Tryz.ntmps28
 go_wp2
 rw [← HW2.out]
 clear HW2
 refine region_w 31 27 (fun i => ([5, 6, 7, 8, 9, 10, 11, 12, 13, 14, 15, 16, 17, 18, 19, 20, 21, 22, 23, 24, 25, 26, 27, 28, 29, 30, 4] : List Nat).getD i 0) (fun i => ([[], [0], [], [2], [1, 3], [4], [5], [5, 6], [5], [5, 8], [5, 7, 9], [5, 10], [11], [12], [12, 13], [12], [12, 15], [12, 14, 16], [12, 17], [18], [19], [19, 20], [19], [19, 22], [19, 21, 23], [19, 24], [25]] : List (List Nat)).getD i []) (fun i v W => ([(fun v _ => v = .agg #[.int .i64 sw, .int .i64 la, .int .i64 cm, .int .i64 inp, .slice sa sn sc, .slice ba bn bc, .slice ta tn tc]), (fun v _ => v = .agg #[.int .i64 sw, .int .i64 la, .int .i64 cm, .int .i64 inp]), (fun v _ => v = .agg #[.int .i64 sw, .int .i64 la, .int .i64 cm, .int .i64 inp, .slice sa' sn' sc', .slice ba' bn' bc', .slice ta' tn' tc']), (fun v _ => v = .agg #[.int .i64 sw, .int .i64 la, .int .i64 cm, .int .i64 inp]), (fun v _ => v = .bool true), (fun v _ => v = .bool true), (fun v _ => v = .pointer (some ⟨w.heap.size, 4, none⟩)), (fun v _ => v = .slice sa sn sc), (fun v _ => v = .pointer (some ⟨w.heap.size + 1, 4, none⟩)), (fun v _ => v = .slice sa' sn' sc'), (fun v _ => v = .bool true), (fun v _ => v = .bool true), (fun v _ => v = .bool true), (fun v _ => v = .pointer (some ⟨w.heap.size, 5, none⟩)), (fun v _ => v = .slice ba bn bc), (fun v _ => v = .pointer (some ⟨w.heap.size + 1, 5, none⟩)), (fun v _ => v = .slice ba' bn' bc'), (fun v _ => v = .bool true), (fun v _ => v = .bool true), (fun v _ => v = .bool true), (fun v _ => v = .pointer (some ⟨w.heap.size, 6, none⟩)), (fun v _ => v = .slice ta tn tc), (fun v _ => v = .pointer (some ⟨w.heap.size + 1, 6, none⟩)), (fun v _ => v = .slice ta' tn' tc'), (fun v _ => v = .bool true), (fun v _ => v = .bool true), (fun v _ => v = .bool true)] : List (Value → World → Prop)).getD i (fun _ _ => False) v W) (fun W => Below W2.heap.size W2 W) (fun _ W W' => Below W.heap.size W W') (by kernel_rfl) rfl (fun i j hi hj => (by decide : ∀ i, i < 27 → ∀ j, j < 27 → (fun i => ([5, 6, 7, 8, 9, 10, 11, 12, 13, 14, 15, 16, 17, 18, 19, 20, 21, 22, 23, 24, 25, 26, 27, 28, 29, 30, 4] : List Nat).getD i 0) i = (fun i => ([5, 6, 7, 8, 9, 10, 11, 12, 13, 14, 15, 16, 17, 18, 19, 20, 21, 22, 23, 24, 25, 26, 27, 28, 29, 30, 4] : List Nat).getD i 0) j → i = j) i hi j hj) rfl ?_ ?_ ?_ ?_ ?_
 ·intro i o ho
  iterate 27 (rcases i with _ | i; (obtain rfl := Option.some.inj ho; exact ⟨Or.inl ⟨rfl, by decide⟩, by decide, by decide⟩))
  simp at ho
 ·intro i j v W W' hi hj hji hr hk
  have hb : Below W.heap.size W W' := hr
  match j, hj, hk with
  | 0, _, hk => exact hk
  | 1, _, hk => exact hk
  | 2, _, hk => exact hk
  | 3, _, hk => exact hk
  | 4, _, hk => exact hk
  | 5, _, hk => exact hk
  | 6, _, hk => exact hk
  | 7, _, hk => exact hk
  | 8, _, hk => exact hk
  | 9, _, hk => exact hk
  | 10, _, hk => exact hk
  | 11, _, hk => exact hk
  | 12, _, hk => exact hk
  | 13, _, hk => exact hk
  | 14, _, hk => exact hk
  | 15, _, hk => exact hk
  | 16, _, hk => exact hk
  | 17, _, hk => exact hk
  | 18, _, hk => exact hk
  | 19, _, hk => exact hk
  | 20, _, hk => exact hk
  | 21, _, hk => exact hk
  | 22, _, hk => exact hk
  | 23, _, hk => exact hk
  | 24, _, hk => exact hk
  | 25, _, hk => exact hk
  | 26, _, hk => exact hk
  | k + 27, hj, _ => omega
 ·intro i o ho a' W hS hoth hd
  have oS2 : a'.eval (.tmp 2) = .pointer (some ⟨w.heap.size, 0, none⟩) := hoth 2 (by decide)
  have oS3 : a'.eval (.tmp 3) = .pointer (some ⟨w.heap.size + 1, 0, none⟩) := hoth 3 (by decide)
  obtain ⟨ρ, hρ⟩ : ∃ ρ, ρ = a'.eval := ⟨_, rfl⟩
  have hc : ∀ v, ρ (.const v) = v := fun v => by rw [hρ]; rfl
  have hfn : ∀ f, ρ (.func f) = .func (.func f) #[] #[] := fun f => by rw [hρ]; rfl
  have qS2 : ρ (.tmp 2) = .pointer (some ⟨w.heap.size, 0, none⟩) := by rw [hρ]; exact oS2
  have qS3 : ρ (.tmp 3) = .pointer (some ⟨w.heap.size + 1, 0, none⟩) := by rw [hρ]; exact oS3
  clear hoth
  match i, ho with
  | 0, ho =>
   obtain rfl := Option.some.inj ho
   clear hd
   refine Or.inl ⟨rfl, fun KK hK => ?_⟩
   obtain ⟨c0, c1, c2, c3, c4, c5, c6⟩ := HC.out W hS
   exact wq (u := .agg #[.int .i64 sw, .int .i64 la, .int .i64 cm, .int .i64 inp, .slice sa sn sc, .slice ba bn bc, .slice ta tn tc]) (by rw [← hρ]; clear hρ; simp only [execOp]; go_simp) (hK _ W (rfl) hS (Below.refl _ _))
  | 1, ho =>
   obtain rfl := Option.some.inj ho
   have e0 : (ρ (.tmp 5)) = .agg #[.int .i64 sw, .int .i64 la, .int .i64 cm, .int .i64 inp, .slice sa sn sc, .slice ba bn bc, .slice ta tn tc] := by rw [hρ]; exact hd 0 (by decide)
   clear hd
   refine Or.inl ⟨rfl, fun KK hK => ?_⟩
   refine Gives.wp (R := fun v W' => v = .agg #[.int .i64 sw, .int .i64 la, .int .i64 cm, .int .i64 inp] ∧ Below W.heap.size W W') (Gives.enter (f := 59) (args := #[.agg #[.int .i64 sw, .int .i64 la, .int .i64 cm, .int .i64 inp, .slice sa sn sc, .slice ba bn bc, .slice ta tn tc]]) (by rw [← hρ]; clear hρ; simp only [execOp]; go_simp) ((CN1.out W).mono ?_)) ?_
   ·rintro e w8 ⟨rfl, h2⟩; exact ⟨_, rfl, rfl, h2⟩
   ·rintro v' W' ⟨h1, h2⟩; exact hK v' W' h1 (keep_below hS h2) h2
  | 2, ho =>
   obtain rfl := Option.some.inj ho
   clear hd
   refine Or.inl ⟨rfl, fun KK hK => ?_⟩
   obtain ⟨c0, c1, c2, c3, c4, c5, c6⟩ := HD.out W hS
   exact wq (u := .agg #[.int .i64 sw, .int .i64 la, .int .i64 cm, .int .i64 inp, .slice sa' sn' sc', .slice ba' bn' bc', .slice ta' tn' tc']) (by rw [← hρ]; clear hρ; simp only [execOp]; go_simp) (hK _ W (rfl) hS (Below.refl _ _))
  | 3, ho =>
   obtain rfl := Option.some.inj ho
   have e2 : (ρ (.tmp 7)) = .agg #[.int .i64 sw, .int .i64 la, .int .i64 cm, .int .i64 inp, .slice sa' sn' sc', .slice ba' bn' bc', .slice ta' tn' tc'] := by rw [hρ]; exact hd 2 (by decide)
   clear hd
   refine Or.inl ⟨rfl, fun KK hK => ?_⟩
   refine Gives.wp (R := fun v W' => v = .agg #[.int .i64 sw, .int .i64 la, .int .i64 cm, .int .i64 inp] ∧ Below W.heap.size W W') (Gives.enter (f := 59) (args := #[.agg #[.int .i64 sw, .int .i64 la, .int .i64 cm, .int .i64 inp, .slice sa' sn' sc', .slice ba' bn' bc', .slice ta' tn' tc']]) (by rw [← hρ]; clear hρ; simp only [execOp]; go_simp) ((CN2.out W).mono ?_)) ?_
   ·rintro e w8 ⟨rfl, h2⟩; exact ⟨_, rfl, rfl, h2⟩
   ·rintro v' W' ⟨h1, h2⟩; exact hK v' W' h1 (keep_below hS h2) h2
  | 4, ho =>
   obtain rfl := Option.some.inj ho
   have e1 : (ρ (.tmp 6)) = .agg #[.int .i64 sw, .int .i64 la, .int .i64 cm, .int .i64 inp] := by rw [hρ]; exact hd 1 (by decide)
   have e3 : (ρ (.tmp 8)) = .agg #[.int .i64 sw, .int .i64 la, .int .i64 cm, .int .i64 inp] := by rw [hρ]; exact hd 3 (by decide)
   clear hd
   refine Or.inl ⟨rfl, fun KK hK => ?_⟩
   exact wq (u := .bool true) (by rw [← hρ]; clear hρ; simp only [execOp]; go_simp) (hK _ W (rfl) hS (Below.refl _ _))
  | 5, ho =>
   obtain rfl := Option.some.inj ho
   have e4 : (ρ (.tmp 9)) = .bool true := by rw [hρ]; exact hd 4 (by decide)
   clear hd
   refine Or.inl ⟨rfl, fun KK hK => ?_⟩
   exact wq (u := .bool true) (by rw [← hρ]; clear hρ; simp only [execOp]; go_simp) (hK _ W (rfl) hS (Below.refl _ _))
  | 6, ho =>
   obtain rfl := Option.some.inj ho
   have e5 : (ρ (.tmp 10)) = .bool true := by rw [hρ]; exact hd 5 (by decide)
   clear hd
   have g5 : a'.eval (.tmp 10) = .bool true := by rw [← hρ]; exact e5
   refine Or.inr ⟨5, true, true, rfl, by decide, by decide, g5, fun _ KK hK => ?_, fun h => absurd rfl h⟩
   exact wq (u := .pointer (some ⟨w.heap.size, 4, none⟩)) (by rw [← hρ]; clear hρ; simp only [execOp]; go_simp) (hK _ W (rfl) hS (Below.refl _ _))
  | 7, ho =>
   obtain rfl := Option.some.inj ho
   have e5 : (ρ (.tmp 10)) = .bool true := by rw [hρ]; exact hd 5 (by decide)
   have e6 : (ρ (.tmp 11)) = .pointer (some ⟨w.heap.size, 4, none⟩) := by rw [hρ]; exact hd 6 (by decide)
   clear hd
   have g5 : a'.eval (.tmp 10) = .bool true := by rw [← hρ]; exact e5
   refine Or.inr ⟨5, true, true, rfl, by decide, by decide, g5, fun _ KK hK => ?_, fun h => absurd rfl h⟩
   obtain ⟨c0, c1, c2, c3, c4, c5, c6⟩ := HC.out W hS
   exact wq (u := .slice sa sn sc) (by rw [← hρ]; clear hρ; simp only [execOp]; go_simp) (hK _ W (rfl) hS (Below.refl _ _))
  | 8, ho =>
   obtain rfl := Option.some.inj ho
   have e5 : (ρ (.tmp 10)) = .bool true := by rw [hρ]; exact hd 5 (by decide)
   clear hd
   have g5 : a'.eval (.tmp 10) = .bool true := by rw [← hρ]; exact e5
   refine Or.inr ⟨5, true, true, rfl, by decide, by decide, g5, fun _ KK hK => ?_, fun h => absurd rfl h⟩
   exact wq (u := .pointer (some ⟨w.heap.size + 1, 4, none⟩)) (by rw [← hρ]; clear hρ; simp only [execOp]; go_simp) (hK _ W (rfl) hS (Below.refl _ _))
  | 9, ho =>
   obtain rfl := Option.some.inj ho
   have e5 : (ρ (.tmp 10)) = .bool true := by rw [hρ]; exact hd 5 (by decide)
   have e8 : (ρ (.tmp 13)) = .pointer (some ⟨w.heap.size + 1, 4, none⟩) := by rw [hρ]; exact hd 8 (by decide)
   clear hd
   have g5 : a'.eval (.tmp 10) = .bool true := by rw [← hρ]; exact e5
   refine Or.inr ⟨5, true, true, rfl, by decide, by decide, g5, fun _ KK hK => ?_, fun h => absurd rfl h⟩
   obtain ⟨c0, c1, c2, c3, c4, c5, c6⟩ := HD.out W hS
   exact wq (u := .slice sa' sn' sc') (by rw [← hρ]; clear hρ; simp only [execOp]; go_simp) (hK _ W (rfl) hS (Below.refl _ _))
  | 10, ho =>
   obtain rfl := Option.some.inj ho
   have e5 : (ρ (.tmp 10)) = .bool true := by rw [hρ]; exact hd 5 (by decide)
   have e7 : (ρ (.tmp 12)) = .slice sa sn sc := by rw [hρ]; exact hd 7 (by decide)
   have e9 : (ρ (.tmp 14)) = .slice sa' sn' sc' := by rw [hρ]; exact hd 9 (by decide)
   clear hd
   have g5 : a'.eval (.tmp 10) = .bool true := by rw [← hρ]; exact e5
   refine Or.inr ⟨5, true, true, rfl, by decide, by decide, g5, fun _ KK hK => ?_, fun h => absurd rfl h⟩
   refine Gives.wp (R := fun v W' => v = .bool true ∧ Below W.heap.size W W') (Gives.enter (f := 60) (args := #[.slice sa sn sc, .slice sa' sn' sc']) (by rw [← hρ]; clear hρ; simp only [execOp]; go_simp) ((C5.out W (keep_below HB2.out hS)).mono ?_)) ?_
   ·rintro e w8 ⟨rfl, h2⟩; exact ⟨_, rfl, rfl, h2⟩
   ·rintro v' W' ⟨h1, h2⟩; exact hK v' W' h1 (keep_below hS h2) h2
  | 11, ho =>
   obtain rfl := Option.some.inj ho
   have e5 : (ρ (.tmp 10)) = .bool true := by rw [hρ]; exact hd 5 (by decide)
   have e10 : (ρ (.tmp 15)) = .bool true := by rw [hρ]; exact hd 10 (by decide)
   clear hd
   refine Or.inl ⟨rfl, fun KK hK => ?_⟩
   exact wq (u := .bool true) (by rw [← hρ]; clear hρ; simp only [execOp]; go_simp) (hK _ W (rfl) hS (Below.refl _ _))
  | 12, ho =>
   obtain rfl := Option.some.inj ho
   have e11 : (ρ (.tmp 16)) = .bool true := by rw [hρ]; exact hd 11 (by decide)
   clear hd
   refine Or.inl ⟨rfl, fun KK hK => ?_⟩
   exact wq (u := .bool true) (by rw [← hρ]; clear hρ; simp only [execOp]; go_simp) (hK _ W (rfl) hS (Below.refl _ _))
  | 13, ho =>
   obtain rfl := Option.some.inj ho
   have e12 : (ρ (.tmp 17)) = .bool true := by rw [hρ]; exact hd 12 (by decide)
   clear hd
   have g12 : a'.eval (.tmp 17) = .bool true := by rw [← hρ]; exact e12
   refine Or.inr ⟨12, true, true, rfl, by decide, by decide, g12, fun _ KK hK => ?_, fun h => absurd rfl h⟩
   exact wq (u := .pointer (some ⟨w.heap.size, 5, none⟩)) (by rw [← hρ]; clear hρ; simp only [execOp]; go_simp) (hK _ W (rfl) hS (Below.refl _ _))
  | 14, ho =>
   obtain rfl := Option.some.inj ho
   have e12 : (ρ (.tmp 17)) = .bool true := by rw [hρ]; exact hd 12 (by decide)
   have e13 : (ρ (.tmp 18)) = .pointer (some ⟨w.heap.size, 5, none⟩) := by rw [hρ]; exact hd 13 (by decide)
   clear hd
   have g12 : a'.eval (.tmp 17) = .bool true := by rw [← hρ]; exact e12
   refine Or.inr ⟨12, true, true, rfl, by decide, by decide, g12, fun _ KK hK => ?_, fun h => absurd rfl h⟩
   obtain ⟨c0, c1, c2, c3, c4, c5, c6⟩ := HC.out W hS
   exact wq (u := .slice ba bn bc) (by rw [← hρ]; clear hρ; simp only [execOp]; go_simp) (hK _ W (rfl) hS (Below.refl _ _))
  | 15, ho =>
   obtain rfl := Option.some.inj ho
   have e12 : (ρ (.tmp 17)) = .bool true := by rw [hρ]; exact hd 12 (by decide)
   clear hd
   have g12 : a'.eval (.tmp 17) = .bool true := by rw [← hρ]; exact e12
   refine Or.inr ⟨12, true, true, rfl, by decide, by decide, g12, fun _ KK hK => ?_, fun h => absurd rfl h⟩
   exact wq (u := .pointer (some ⟨w.heap.size + 1, 5, none⟩)) (by rw [← hρ]; clear hρ; simp only [execOp]; go_simp) (hK _ W (rfl) hS (Below.refl _ _))
  | 16, ho =>
   obtain rfl := Option.some.inj ho
   have e12 : (ρ (.tmp 17)) = .bool true := by rw [hρ]; exact hd 12 (by decide)
   have e15 : (ρ (.tmp 20)) = .pointer (some ⟨w.heap.size + 1, 5, none⟩) := by rw [hρ]; exact hd 15 (by decide)
   clear hd
   have g12 : a'.eval (.tmp 17) = .bool true := by rw [← hρ]; exact e12
   refine Or.inr ⟨12, true, true, rfl, by decide, by decide, g12, fun _ KK hK => ?_, fun h => absurd rfl h⟩
   obtain ⟨c0, c1, c2, c3, c4, c5, c6⟩ := HD.out W hS
   exact wq (u := .slice ba' bn' bc') (by rw [← hρ]; clear hρ; simp only [execOp]; go_simp) (hK _ W (rfl) hS (Below.refl _ _))
  | 17, ho =>
   obtain rfl := Option.some.inj ho
   have e12 : (ρ (.tmp 17)) = .bool true := by rw [hρ]; exact hd 12 (by decide)
   have e14 : (ρ (.tmp 19)) = .slice ba bn bc := by rw [hρ]; exact hd 14 (by decide)
   have e16 : (ρ (.tmp 21)) = .slice ba' bn' bc' := by rw [hρ]; exact hd 16 (by decide)
   clear hd
   have g12 : a'.eval (.tmp 17) = .bool true := by rw [← hρ]; exact e12
   refine Or.inr ⟨12, true, true, rfl, by decide, by decide, g12, fun _ KK hK => ?_, fun h => absurd rfl h⟩
   refine Gives.wp (R := fun v W' => v = .bool true ∧ Below W.heap.size W W') (Gives.enter (f := 61) (args := #[.slice ba bn bc, .slice ba' bn' bc', .func (.func 60) #[] #[]]) (by rw [← hρ]; clear hρ; simp only [execOp]; go_simp) ((C6.out W (keep_below HB2.out hS)).mono ?_)) ?_
   ·rintro e w8 ⟨rfl, h2⟩; exact ⟨_, rfl, rfl, h2⟩
   ·rintro v' W' ⟨h1, h2⟩; exact hK v' W' h1 (keep_below hS h2) h2
  | 18, ho =>
   obtain rfl := Option.some.inj ho
   have e12 : (ρ (.tmp 17)) = .bool true := by rw [hρ]; exact hd 12 (by decide)
   have e17 : (ρ (.tmp 22)) = .bool true := by rw [hρ]; exact hd 17 (by decide)
   clear hd
   refine Or.inl ⟨rfl, fun KK hK => ?_⟩
   exact wq (u := .bool true) (by rw [← hρ]; clear hρ; simp only [execOp]; go_simp) (hK _ W (rfl) hS (Below.refl _ _))
  | 19, ho =>
   obtain rfl := Option.some.inj ho
   have e18 : (ρ (.tmp 23)) = .bool true := by rw [hρ]; exact hd 18 (by decide)
   clear hd
   refine Or.inl ⟨rfl, fun KK hK => ?_⟩
   exact wq (u := .bool true) (by rw [← hρ]; clear hρ; simp only [execOp]; go_simp) (hK _ W (rfl) hS (Below.refl _ _))
  | 20, ho =>
   obtain rfl := Option.some.inj ho
   have e19 : (ρ (.tmp 24)) = .bool true := by rw [hρ]; exact hd 19 (by decide)
   clear hd
   have g19 : a'.eval (.tmp 24) = .bool true := by rw [← hρ]; exact e19
   refine Or.inr ⟨19, true, true, rfl, by decide, by decide, g19, fun _ KK hK => ?_, fun h => absurd rfl h⟩
   exact wq (u := .pointer (some ⟨w.heap.size, 6, none⟩)) (by rw [← hρ]; clear hρ; simp only [execOp]; go_simp) (hK _ W (rfl) hS (Below.refl _ _))
  | 21, ho =>
   obtain rfl := Option.some.inj ho
   have e19 : (ρ (.tmp 24)) = .bool true := by rw [hρ]; exact hd 19 (by decide)
   have e20 : (ρ (.tmp 25)) = .pointer (some ⟨w.heap.size, 6, none⟩) := by rw [hρ]; exact hd 20 (by decide)
   clear hd
   have g19 : a'.eval (.tmp 24) = .bool true := by rw [← hρ]; exact e19
   refine Or.inr ⟨19, true, true, rfl, by decide, by decide, g19, fun _ KK hK => ?_, fun h => absurd rfl h⟩
   obtain ⟨c0, c1, c2, c3, c4, c5, c6⟩ := HC.out W hS
   exact wq (u := .slice ta tn tc) (by rw [← hρ]; clear hρ; simp only [execOp]; go_simp) (hK _ W (rfl) hS (Below.refl _ _))
  | 22, ho =>
   obtain rfl := Option.some.inj ho
   have e19 : (ρ (.tmp 24)) = .bool true := by rw [hρ]; exact hd 19 (by decide)
   clear hd
   have g19 : a'.eval (.tmp 24) = .bool true := by rw [← hρ]; exact e19
   refine Or.inr ⟨19, true, true, rfl, by decide, by decide, g19, fun _ KK hK => ?_, fun h => absurd rfl h⟩
   exact wq (u := .pointer (some ⟨w.heap.size + 1, 6, none⟩)) (by rw [← hρ]; clear hρ; simp only [execOp]; go_simp) (hK _ W (rfl) hS (Below.refl _ _))
  | 23, ho =>
   obtain rfl := Option.some.inj ho
   have e19 : (ρ (.tmp 24)) = .bool true := by rw [hρ]; exact hd 19 (by decide)
   have e22 : (ρ (.tmp 27)) = .pointer (some ⟨w.heap.size + 1, 6, none⟩) := by rw [hρ]; exact hd 22 (by decide)
   clear hd
   have g19 : a'.eval (.tmp 24) = .bool true := by rw [← hρ]; exact e19
   refine Or.inr ⟨19, true, true, rfl, by decide, by decide, g19, fun _ KK hK => ?_, fun h => absurd rfl h⟩
   obtain ⟨c0, c1, c2, c3, c4, c5, c6⟩ := HD.out W hS
   exact wq (u := .slice ta' tn' tc') (by rw [← hρ]; clear hρ; simp only [execOp]; go_simp) (hK _ W (rfl) hS (Below.refl _ _))
  | 24, ho =>
   obtain rfl := Option.some.inj ho
   have e19 : (ρ (.tmp 24)) = .bool true := by rw [hρ]; exact hd 19 (by decide)
   have e21 : (ρ (.tmp 26)) = .slice ta tn tc := by rw [hρ]; exact hd 21 (by decide)
   have e23 : (ρ (.tmp 28)) = .slice ta' tn' tc' := by rw [hρ]; exact hd 23 (by decide)
   clear hd
   have g19 : a'.eval (.tmp 24) = .bool true := by rw [← hρ]; exact e19
   refine Or.inr ⟨19, true, true, rfl, by decide, by decide, g19, fun _ KK hK => ?_, fun h => absurd rfl h⟩
   refine Gives.wp (R := fun v W' => v = .bool true ∧ Below W.heap.size W W') (Gives.enter (f := 62) (args := #[.slice ta tn tc, .slice ta' tn' tc', .func (.func 63) #[] #[]]) (by rw [← hρ]; clear hρ; simp only [execOp]; go_simp) ((C7.out W (keep_below HB2.out hS)).mono ?_)) ?_
   ·rintro e w8 ⟨rfl, h2⟩; exact ⟨_, rfl, rfl, h2⟩
   ·rintro v' W' ⟨h1, h2⟩; exact hK v' W' h1 (keep_below hS h2) h2
  | 25, ho =>
   obtain rfl := Option.some.inj ho
   have e19 : (ρ (.tmp 24)) = .bool true := by rw [hρ]; exact hd 19 (by decide)
   have e24 : (ρ (.tmp 29)) = .bool true := by rw [hρ]; exact hd 24 (by decide)
   clear hd
   refine Or.inl ⟨rfl, fun KK hK => ?_⟩
   exact wq (u := .bool true) (by rw [← hρ]; clear hρ; simp only [execOp]; go_simp) (hK _ W (rfl) hS (Below.refl _ _))
  | 26, ho =>
   obtain rfl := Option.some.inj ho
   have e25 : (ρ (.tmp 30)) = .bool true := by rw [hρ]; exact hd 25 (by decide)
   clear hd
   refine Or.inl ⟨rfl, fun KK hK => ?_⟩
   exact wq (u := .bool true) (by rw [← hρ]; clear hρ; simp only [execOp]; go_simp) (hK _ W (rfl) hS (Below.refl _ _))
  | k + 27, ho => simp at ho
 ·exact ⟨rfl, rfl, rfl, Nat.le_refl _, fun _ _ => rfl⟩
 ·intro a' W hsz hdef hoth hok hS
  have hcov : ∀ i, i < 27 → (fun i => ([5, 6, 7, 8, 9, 10, 11, 12, 13, 14, 15, 16, 17, 18, 19, 20, 21, 22, 23, 24, 25, 26, 27, 28, 29, 30, 4] : List Nat).getD i 0) i < 31 → 4 ≤ (fun i => ([5, 6, 7, 8, 9, 10, 11, 12, 13, 14, 15, 16, 17, 18, 19, 20, 21, 22, 23, 24, 25, 26, 27, 28, 29, 30, 4] : List Nat).getD i 0) i ∧ (fun i => ([5, 6, 7, 8, 9, 10, 11, 12, 13, 14, 15, 16, 17, 18, 19, 20, 21, 22, 23, 24, 25, 26, 27, 28, 29, 30, 4] : List Nat).getD i 0) i < 31 := by decide
  have v4 : a'.eval (.tmp 4) = .bool true := hok 26 (by decide)
  clear hok
  obtain ⟨us, hu1, hu2, rfl⟩ := act_mix 4 27 rfl hsz hdef (by simp) (fun k hk => by
   by_cases hkT : k < 31
   ·exact hoth k (fun i hi e => by have := hcov i hi (Nat.lt_of_le_of_lt (Nat.le_of_eq e) hkT); dsimp only at this e; omega)
   ·rw [eval_out (by rw [hsz]; omega), eval_out (by simp; omega)])
  clear hoth hcov
  match us, hu1, hu2 with
  | [u4, u5, u6, u7, u8, u9, u10, u11, u12, u13, u14, u15, u16, u17, u18, u19, u20, u21, u22, u23, u24, u25, u26, u27, u28, u29, u30], _, hu2 =>
   obtain rfl : u4 = .bool true := (hu2 0 (by decide)).trans v4
   clear hu2
   have hb9 := keep_below HB2.out hS
   clear hS hsz hdef hu1
   go_wp2
   go_ret
   exact ⟨rfl, hb9⟩
end Go.Proofs.YtngehojibcmieaaGreatDoor
end
