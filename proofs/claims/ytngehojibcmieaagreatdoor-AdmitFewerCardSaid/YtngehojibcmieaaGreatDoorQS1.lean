/- What is proved here: contracts of the document's Same of verdicts and of the fixed image. Conditions: none beyond those each theorem states. the contract of what makes a verdict plain. Conditions: the verdict has at most eight rows. the contract of the fixed image. Conditions: none. -/
import Derived.Test.YtngehojibcmieaaGreatDoorQJ5
import Derived.Test.YtngehojibcmieaaGreatDoorQEPn
import Derived.Test.YtngehojibcmieaaGreatDoorQN1
set_option maxRecDepth 100000
set_option maxHeartbeats 8000000
section
namespace Go.Proofs.YtngehojibcmieaaGreatDoor
open Go.ChangeShapes Go.WideShapes Go.RowKit
theorem sameRows_any (a b : Option Addr) (n m c d : Nat) (L : List Kd.RtR) (w : World) (ha : Kd.RowS w a n L) (hb : Kd.RowS w b m L) (hn : n ≤ 1000000) :
  Calls Tryz.prog 29 #[.slice a n c, .slice b m d] w fun e w' => e = .returned (.bool true) ∧ Below w.heap.size w w' := by
 obtain rfl : m = n := hb.1.trans ha.1.symm
 have HA := Lib.hid ha
 have HB := Lib.hid hb
 clear ha hb
 go_enter Tryz.func29, Tryz.ntmps29
 go_wp2
 go_loopw [5] (fun i wr => ∃ k : Nat, k ≤ m ∧ i = .int .i64 k ∧ Below w.heap.size w wr) (fun i _ => m - (intOf i).toNat)
 case atStart => exact ⟨0, by omega, rfl, Below.refl _ _⟩
 case round =>
  obtain ⟨k, hk, rfl, hbl⟩ := hrel
  by_cases hlt : k < m
  ·obtain ⟨b1, o1, r, rfl, hB1, hr1, x0, x1, x2, x3, x4, x5⟩ := HA.out.item hbl hlt
   obtain ⟨b2, o2, r', rfl, hB2, hr2, y0, y1, y2, y3, y4, y5⟩ := HB.out.item hbl hlt
   rw [hr1] at hr2
   cases hr2
   have i1 : (0 : Int) ≤ (k : Int) := by omega
   have i2 : (k : Int) < (m : Int) := by omega
   obtain ⟨C, B, T, D, J, P⟩ := r
   simp only at x0 x1 x2 x3 x4 x5 y0 y1 y2 y3 y4 y5
   clear hr1 hB1 hB2
   go_wp2
   go_quiet (fail)
   go_wp2
   go_roundw
   case rel => exact ⟨k + 1, by omega, by go_num, hbl.trans ⟨rfl, rfl, rfl, Nat.le_refl _, fun _ _ => rfl⟩⟩
   case measure => simp [intOf]; omega
  ·go_wp2
   go_ret
   exact ⟨rfl, hbl⟩
theorem sameVd_any (s t : VdV) (K : VdP) (w : World) (hs : s.Is w K) (ht : t.Is w K) (h8 : K.ro.length ≤ 8 ∧ K.re.length ≤ 8 ∧ K.ce.length ≤ 8) :
  Calls Tryz.prog 11 #[s.v, t.v] w fun e w' => e = .returned (.bool true) ∧ Below w.heap.size w w' := by
 obtain ⟨e1, p1, r1, a1, c1⟩ := hs
 obtain ⟨e2, p2, r2, a2, c2⟩ := ht
 have l1 := r1.1
 have l2 := a1.1
 have l3 := c1.1
 have CR := Lib.hid (fun W (hb : Below w.heap.size w W) => sameRows_any s.ro.a t.ro.a s.ro.n t.ro.n s.ro.c t.ro.c K.ro W (r1.below hb) (r2.below hb) (by omega))
 have CA := Lib.hid (fun W (hb : Below w.heap.size w W) => Kd.same_any s.re.a t.re.a s.re.n t.re.n s.re.c t.re.c K.re W (rowD (a1.below hb)) (rowD (a2.below hb)) (by omega))
 have CC := Lib.hid (fun W (hb : Below w.heap.size w W) => Kd.same_any s.ce.a t.ce.a s.ce.n t.ce.n s.ce.c t.ce.c K.ce W (rowD (c1.below hb)) (rowD (c2.below hb)) (by omega))
 have ee : s.er = t.er := e1.trans e2.symm
 have pp : s.pl = t.pl := p1.trans p2.symm
 clear r1 r2 a1 a2 c1 c2 e1 e2 p1 p2 l1 l2 l3
 obtain ⟨er, pl, ⟨ra, rn, rc⟩, ⟨aa, an, ac⟩, ⟨ca, cn, cc⟩⟩ := s
 obtain ⟨er2, pl2, ⟨ra2, rn2, rc2⟩, ⟨aa2, an2, ac2⟩, ⟨ca2, cn2, cc2⟩⟩ := t
 simp only at ee pp
 subst ee pp
 simp only [VdV.v, Sl.v] at CR CA CC ⊢
 have c0 := cells_new w #[.int .i64 er, .int .i64 pl, .slice ra rn rc, .slice aa an ac, .slice ca cn cc] 33
 have b1 := below_alloc w (.cells #[.int .i64 er, .int .i64 pl, .slice ra rn rc, .slice aa an ac, .slice ca cn cc] 33)
 have b2 := below_alloc (w.alloc (.cells #[.int .i64 er, .int .i64 pl, .slice ra rn rc, .slice aa an ac, .slice ca cn cc] 33)) (.cells #[.int .i64 er, .int .i64 pl, .slice ra2 rn2 rc2, .slice aa2 an2 ac2, .slice ca2 cn2 cc2] 33)
 have d0 := cells_new (w.alloc (.cells #[.int .i64 er, .int .i64 pl, .slice ra rn rc, .slice aa an ac, .slice ca cn cc] 33)) #[.int .i64 er, .int .i64 pl, .slice ra2 rn2 rc2, .slice aa2 an2 ac2, .slice ca2 cn2 cc2] 33
 rw [show (w.alloc (.cells #[.int .i64 er, .int .i64 pl, .slice ra rn rc, .slice aa an ac, .slice ca cn cc] 33)).heap.size = w.heap.size + 1 by simp] at d0
 have x2 := keep_cell b2 (c0 2 _ rfl)
 have x3 := keep_cell b2 (c0 3 _ rfl)
 have x4 := keep_cell b2 (c0 4 _ rfl)
 have y2 := d0 2 _ rfl
 have y3 := d0 3 _ rfl
 have y4 := d0 4 _ rfl
 have HB2 := Lib.hid (keep_below b1 b2)
 clear b1 b2 c0 d0
 go_enter Tryz.func11, Tryz.ntmps11
 go_wp2_with (first
  | (go_at_call 30; refine (CC.out w4 hb4).mono ?_; rintro e w5 ⟨rfl, hb5'⟩; have hb5 := keep_below hb4 hb5')
  | (go_at_call 30; refine (CA.out w3 hb3).mono ?_; rintro e w4 ⟨rfl, hb4'⟩; have hb4 := keep_below hb3 hb4'; have x4 := keep_cell hb4' x4; have y4 := keep_cell hb4' y4)
  | (go_at_call 29; refine (CR.out _ HB2.out).mono ?_; rintro e w3 ⟨rfl, hb3'⟩; have hb3 := keep_below HB2.out hb3'; have x3 := keep_cell hb3' x3; have y3 := keep_cell hb3' y3; have x4 := keep_cell hb3' x4; have y4 := keep_cell hb3' y4))
 go_ret
 exact ⟨rfl, hb5⟩
theorem ws {P : Program} {o : Oper} {a : Act} {W W' : World} {K : Act → World → Prop} {Q : Exit → Act → World → Prop} (h : (execOp a.eval o).run P W = .ok .skip W') (hK : K (a.put o.dst undef) W') : o.wp P a W K Q := by
 unfold Oper.wp
 rw [h, Oper.upon_skip]
 exact hK
theorem rowS_kep {g : Nat} {w w' : World} {a : Option Addr} {n : Nat} {L : List Kd.RtR} (h : Kd.RowS w a n L) (hk : Kep g w w') (h1 : 0 < n → ∀ p, a = some p → p.block ≠ g) : Kd.RowS w' a n L := by
 refine ⟨h.1, fun hn => ?_⟩
 obtain ⟨b, off, e, hlt, hc⟩ := h.2 hn
 have hb : b ≠ g := h1 hn _ e
 refine ⟨b, off, e, Nat.lt_of_lt_of_le hlt hk.size, fun i hi => ?_⟩
 obtain ⟨r, hr, hcs⟩ := hc i hi
 exact ⟨r, hr, fun j v hj => hk.cell hb (hcs j v hj)⟩
theorem rowS_apart5 {W : World} {g n : Nat} {t : TypeId} {f : Nat → Value} {a : Option Addr} {L : List Kd.RtR} (hz : W.rowIs g t 5 f) (h : Kd.RowS W a n L) : 0 < n → ∀ p, a = some p → p.block ≠ g := fun h0 p hp hg => by
 obtain ⟨b, off, e, hlt, hc⟩ := h.2 h0
 rw [hp] at e
 cases e
 have hg' : b = g := hg
 subst hg'
 obtain ⟨r, hr, hcs⟩ := hc 0 h0
 have h5 := hcs 5 _ rfl
 obtain ⟨c, hb, hn, _⟩ := hz
 rw [Lib.cell_of_heap hb, Array.getElem?_eq_none (by omega)] at h5
 cases h5
theorem plainVd_any (t : VdV) (K : VdP) (w : World) (h : t.Is w K) (h8 : K.ro.length ≤ 8) :
  Calls Tryz.prog 12 #[t.v] w fun e w' => ∃ t' : VdV, e = .returned t'.v ∧ t'.Is w' K ∧ Below w.heap.size w w' := by
 have HIs := Lib.hid h
 have hn : t.ro.n ≤ 8 := by have := h.2.2.1.1; omega
 have hr := h.2.2.1
 clear h
 obtain ⟨er, pl, ⟨ra, rn, rc⟩, ⟨aa, an, ac⟩, ⟨ca, cn, cc⟩⟩ := t
 simp only [VdV.v, Sl.v] at hn hr ⊢
 have c0 := cells_new w #[.int .i64 er, .int .i64 pl, .slice ra rn rc, .slice aa an ac, .slice ca cn cc] 37
 have b1 := below_alloc w (.cells #[.int .i64 er, .int .i64 pl, .slice ra rn rc, .slice aa an ac, .slice ca cn cc] 37)
 have b2 := below_alloc (w.alloc (.cells #[.int .i64 er, .int .i64 pl, .slice ra rn rc, .slice aa an ac, .slice ca cn cc] 37)) (.cells #[.int .i64 0, .int .i64 0, .slice none 0 0, .slice none 0 0, .slice none 0 0] 33)
 obtain ⟨W2, hW2⟩ : ∃ W2, W2 = (w.alloc (.cells #[.int .i64 er, .int .i64 pl, .slice ra rn rc, .slice aa an ac, .slice ca cn cc] 37)).alloc (.cells #[.int .i64 0, .int .i64 0, .slice none 0 0, .slice none 0 0, .slice none 0 0] 33) := ⟨_, rfl⟩
 have RZ : W2.rowIs (w.heap.size + 1) 33 5 vdZ := by
  have h1 := (rowIs_neu (w.alloc (.cells #[.int .i64 er, .int .i64 pl, .slice ra rn rc, .slice aa an ac, .slice ca cn cc] 37)) #[.int .i64 0, .int .i64 0, .slice none 0 0, .slice none 0 0, .slice none 0 0] 33 5 rfl).congr (g := vdZ) (fun j hj => by
   match j, hj with
   | 0, _ => rfl
   | 1, _ => rfl
   | 2, _ => rfl
   | 3, _ => rfl
   | 4, _ => rfl)
  rw [show (w.alloc (.cells #[.int .i64 er, .int .i64 pl, .slice ra rn rc, .slice aa an ac, .slice ca cn cc] 37)).heap.size = w.heap.size + 1 by simp, ← hW2] at h1
  exact h1
 have HRZ := Lib.hid RZ
 have HB2 : Hid (Below w.heap.size w W2) := by show Below _ _ _; rw [hW2]; exact keep_below b1 b2
 have HC : Hid (∀ W, Kep (w.heap.size + 1) W2 W → W.cell? ⟨w.heap.size, 0, none⟩ = some (.int .i64 er) ∧ W.cell? ⟨w.heap.size, 1, none⟩ = some (.int .i64 pl) ∧ W.cell? ⟨w.heap.size, 2, none⟩ = some (.slice ra rn rc) ∧ W.cell? ⟨w.heap.size, 3, none⟩ = some (.slice aa an ac) ∧ W.cell? ⟨w.heap.size, 4, none⟩ = some (.slice ca cn cc)) := by
  intro W hW
  rw [hW2] at hW
  exact ⟨hW.cell (by show w.heap.size ≠ _; omega) (keep_cell b2 (c0 0 _ rfl)), hW.cell (by show w.heap.size ≠ _; omega) (keep_cell b2 (c0 1 _ rfl)), hW.cell (by show w.heap.size ≠ _; omega) (keep_cell b2 (c0 2 _ rfl)), hW.cell (by show w.heap.size ≠ _; omega) (keep_cell b2 (c0 3 _ rfl)), hW.cell (by show w.heap.size ≠ _; omega) (keep_cell b2 (c0 4 _ rfl))⟩
 have CP : Hid (∀ W, Kep (w.heap.size + 1) W2 W → Calls Tryz.prog 27 #[.slice ra rn rc] W fun e w' => ∃ a' c', e = .returned (.slice a' rn c') ∧ Kd.RowS w' a' rn K.ro ∧ Below W.heap.size W w') := fun W hW => Kd.plain_any ra rn rc K.ro W (hr.below (HB2.out.trans (hW.below (Nat.le_succ _) HB2.out.size))) (by omega)
 have HW2 := Lib.hid hW2
 clear hW2 RZ b1 b2 c0 hr
 go_enter Tryz.func12, Tryz.ntmps12
 go_wp2
 rw [← HW2.out]
 clear HW2
 refine region_w 15 13 (fun i => ([3, 4, 5, 6, 7, 8, 9, 10, 11, 12, 13, 14, 15] : List Nat).getD i 0) (fun i => ([[], [0], [], [2], [], [4], [5], [], [7], [], [9], [1, 3, 6, 8, 10], [11]] : List (List Nat)).getD i []) (fun i v W => ([(fun v _ => v = .pointer (some ⟨w.heap.size, 0, none⟩)), (fun v _ => v = .int .i64 er), (fun v _ => v = .pointer (some ⟨w.heap.size, 1, none⟩)), (fun v _ => v = .int .i64 pl), (fun v _ => v = .pointer (some ⟨w.heap.size, 2, none⟩)), (fun v _ => v = .slice ra rn rc), (fun v W => ∃ (a : Option Addr) (c : Nat), v = .slice a rn c ∧ Kd.RowS W a rn K.ro ∧ (0 < rn → ∀ p, a = some p → p.block ≠ w.heap.size + 1)), (fun v _ => v = .pointer (some ⟨w.heap.size, 3, none⟩)), (fun v _ => v = .slice aa an ac), (fun v _ => v = .pointer (some ⟨w.heap.size, 4, none⟩)), (fun v _ => v = .slice ca cn cc), (fun v W => ∃ (a : Option Addr) (c : Nat), v = .agg #[.int .i64 er, .int .i64 pl, .slice a rn c, .slice aa an ac, .slice ca cn cc] ∧ Kd.RowS W a rn K.ro ∧ (0 < rn → ∀ p, a = some p → p.block ≠ w.heap.size + 1)), (fun _ W => ∃ (a : Option Addr) (c : Nat), W.rowIs (w.heap.size + 1) 33 5 (fun j => if j = 4 then .slice ca cn cc else if j = 3 then .slice aa an ac else if j = 2 then .slice a rn c else if j = 1 then .int .i64 pl else if j = 0 then .int .i64 er else undef) ∧ Kd.RowS W a rn K.ro ∧ (0 < rn → ∀ p, a = some p → p.block ≠ w.heap.size + 1))] : List (Value → World → Prop)).getD i (fun _ _ => False) v W) (fun W => Kep (w.heap.size + 1) W2 W ∧ ∃ f, W.rowIs (w.heap.size + 1) 33 5 f) (fun i W W' => if i = 12 then Kep (w.heap.size + 1) W W' else Below W.heap.size W W') (by kernel_rfl) rfl (fun i j hi hj => (by decide : ∀ i, i < 13 → ∀ j, j < 13 → (fun i => ([3, 4, 5, 6, 7, 8, 9, 10, 11, 12, 13, 14, 15] : List Nat).getD i 0) i = (fun i => ([3, 4, 5, 6, 7, 8, 9, 10, 11, 12, 13, 14, 15] : List Nat).getD i 0) j → i = j) i hi j hj) rfl ?_ ?_ ?_ ?_ ?_
 ·intro i o ho
  iterate 13 (rcases i with _ | i; (obtain rfl := Option.some.inj ho; first | exact ⟨Or.inl ⟨rfl, by decide⟩, by decide, by decide⟩ | exact ⟨Or.inr ⟨rfl, by decide, fun _ _ _ h => h⟩, by decide, by decide⟩))
  simp at ho
 ·intro i j v W W' hi hj hji hr hk
  by_cases hs : i = 12
  ·have hb : Kep (w.heap.size + 1) W W' := by have h := hr; simp only [hs, if_true] at h; exact h
   match j, hj, hji, hk with
   | 0, _, _, hk => exact hk
   | 1, _, _, hk => exact hk
   | 2, _, _, hk => exact hk
   | 3, _, _, hk => exact hk
   | 4, _, _, hk => exact hk
   | 5, _, _, hk => exact hk
   | 6, _, _, hk => exact (by obtain ⟨a, c, e, h, h2⟩ := hk; exact ⟨a, c, e, rowS_kep h hb h2, h2⟩)
   | 7, _, _, hk => exact hk
   | 8, _, _, hk => exact hk
   | 9, _, _, hk => exact hk
   | 10, _, _, hk => exact hk
   | 11, _, _, hk => exact (by obtain ⟨a, c, e, h, h2⟩ := hk; exact ⟨a, c, e, rowS_kep h hb h2, h2⟩)
   | 12, _, hji, _ => exact absurd hs.symm hji
   | k + 13, hj, _, _ => omega
  ·have hb0 : Below W.heap.size W W' := by have h := hr; simp only [hs, if_false] at h; exact h
   have hb : Kep (w.heap.size + 1) W W' := Kep.of hb0
   match j, hj, hk with
   | 0, _, hk => exact hk
   | 1, _, hk => exact hk
   | 2, _, hk => exact hk
   | 3, _, hk => exact hk
   | 4, _, hk => exact hk
   | 5, _, hk => exact hk
   | 6, _, hk => exact (by obtain ⟨a, c, e, h, h2⟩ := hk; exact ⟨a, c, e, rowS_kep h hb h2, h2⟩)
   | 7, _, hk => exact hk
   | 8, _, hk => exact hk
   | 9, _, hk => exact hk
   | 10, _, hk => exact hk
   | 11, _, hk => exact (by obtain ⟨a, c, e, h, h2⟩ := hk; exact ⟨a, c, e, rowS_kep h hb h2, h2⟩)
   | 12, _, hk => exact (by obtain ⟨a, c, e, h, h2⟩ := hk; exact ⟨a, c, World.rowIs.of_block e (hb0.block _ (World.rowIs.lt e)), rowS_kep h hb h2, h2⟩)
   | k + 13, hj, _ => omega
 ·intro i o ho a' W hS hoth hd
  have oS1 : a'.eval (.tmp 1) = .pointer (some ⟨w.heap.size, 0, none⟩) := hoth 1 (by decide)
  have oS2 : a'.eval (.tmp 2) = .pointer (some ⟨w.heap.size + 1, 0, none⟩) := hoth 2 (by decide)
  obtain ⟨ρ, hρ⟩ : ∃ ρ, ρ = a'.eval := ⟨_, rfl⟩
  have hc : ∀ v, ρ (.const v) = v := fun v => by rw [hρ]; rfl
  have hfn : ∀ f, ρ (.func f) = .func (.func f) #[] #[] := fun f => by rw [hρ]; rfl
  have qS1 : ρ (.tmp 1) = .pointer (some ⟨w.heap.size, 0, none⟩) := by rw [hρ]; exact oS1
  have qS2 : ρ (.tmp 2) = .pointer (some ⟨w.heap.size + 1, 0, none⟩) := by rw [hρ]; exact oS2
  clear hoth
  match i, ho with
  | 0, ho =>
   obtain rfl := Option.some.inj ho
   clear hd
   refine Or.inl ⟨rfl, fun KK hK => ?_⟩
   exact wq (u := .pointer (some ⟨w.heap.size, 0, none⟩)) (by rw [← hρ]; clear hρ; simp only [execOp]; go_simp) (hK _ W (rfl) hS (Below.refl _ _))
  | 1, ho =>
   obtain rfl := Option.some.inj ho
   have e0 : (ρ (.tmp 3)) = .pointer (some ⟨w.heap.size, 0, none⟩) := by rw [hρ]; exact hd 0 (by decide)
   clear hd
   refine Or.inl ⟨rfl, fun KK hK => ?_⟩
   obtain ⟨c0, c1, c2, c3, c4⟩ := HC.out W hS.1
   exact wq (u := .int .i64 er) (by rw [← hρ]; clear hρ; simp only [execOp]; go_simp) (hK _ W (rfl) hS (Below.refl _ _))
  | 2, ho =>
   obtain rfl := Option.some.inj ho
   clear hd
   refine Or.inl ⟨rfl, fun KK hK => ?_⟩
   exact wq (u := .pointer (some ⟨w.heap.size, 1, none⟩)) (by rw [← hρ]; clear hρ; simp only [execOp]; go_simp) (hK _ W (rfl) hS (Below.refl _ _))
  | 3, ho =>
   obtain rfl := Option.some.inj ho
   have e2 : (ρ (.tmp 5)) = .pointer (some ⟨w.heap.size, 1, none⟩) := by rw [hρ]; exact hd 2 (by decide)
   clear hd
   refine Or.inl ⟨rfl, fun KK hK => ?_⟩
   obtain ⟨c0, c1, c2, c3, c4⟩ := HC.out W hS.1
   exact wq (u := .int .i64 pl) (by rw [← hρ]; clear hρ; simp only [execOp]; go_simp) (hK _ W (rfl) hS (Below.refl _ _))
  | 4, ho =>
   obtain rfl := Option.some.inj ho
   clear hd
   refine Or.inl ⟨rfl, fun KK hK => ?_⟩
   exact wq (u := .pointer (some ⟨w.heap.size, 2, none⟩)) (by rw [← hρ]; clear hρ; simp only [execOp]; go_simp) (hK _ W (rfl) hS (Below.refl _ _))
  | 5, ho =>
   obtain rfl := Option.some.inj ho
   have e4 : (ρ (.tmp 7)) = .pointer (some ⟨w.heap.size, 2, none⟩) := by rw [hρ]; exact hd 4 (by decide)
   clear hd
   refine Or.inl ⟨rfl, fun KK hK => ?_⟩
   obtain ⟨c0, c1, c2, c3, c4⟩ := HC.out W hS.1
   exact wq (u := .slice ra rn rc) (by rw [← hρ]; clear hρ; simp only [execOp]; go_simp) (hK _ W (rfl) hS (Below.refl _ _))
  | 6, ho =>
   obtain rfl := Option.some.inj ho
   have e5 : (ρ (.tmp 8)) = .slice ra rn rc := by rw [hρ]; exact hd 5 (by decide)
   clear hd
   refine Or.inl ⟨rfl, fun KK hK => ?_⟩
   refine Gives.wp (R := fun v W' => (∃ (a : Option Addr) (c : Nat), v = .slice a rn c ∧ Kd.RowS W' a rn K.ro) ∧ Below W.heap.size W W') (Gives.enter (f := 27) (args := #[.slice ra rn rc]) (by rw [← hρ]; clear hρ; simp only [execOp]; go_simp) ((CP.out W hS.1).mono ?_)) ?_
   ·rintro e w8 ⟨a, c, rfl, h1, h2⟩; exact ⟨_, rfl, ⟨a, c, rfl, h1⟩, h2⟩
   ·rintro v' W' ⟨⟨a, c, h0, h1⟩, h2⟩
    obtain ⟨f, hf⟩ := hS.2
    have hf' := World.rowIs.of_block hf (h2.block _ (World.rowIs.lt hf))
    exact hK v' W' ⟨a, c, h0, h1, rowS_apart5 hf' h1⟩ ⟨hS.1.trans (Kep.of h2), f, hf'⟩ h2
  | 7, ho =>
   obtain rfl := Option.some.inj ho
   clear hd
   refine Or.inl ⟨rfl, fun KK hK => ?_⟩
   exact wq (u := .pointer (some ⟨w.heap.size, 3, none⟩)) (by rw [← hρ]; clear hρ; simp only [execOp]; go_simp) (hK _ W (rfl) hS (Below.refl _ _))
  | 8, ho =>
   obtain rfl := Option.some.inj ho
   have e7 : (ρ (.tmp 10)) = .pointer (some ⟨w.heap.size, 3, none⟩) := by rw [hρ]; exact hd 7 (by decide)
   clear hd
   refine Or.inl ⟨rfl, fun KK hK => ?_⟩
   obtain ⟨c0, c1, c2, c3, c4⟩ := HC.out W hS.1
   exact wq (u := .slice aa an ac) (by rw [← hρ]; clear hρ; simp only [execOp]; go_simp) (hK _ W (rfl) hS (Below.refl _ _))
  | 9, ho =>
   obtain rfl := Option.some.inj ho
   clear hd
   refine Or.inl ⟨rfl, fun KK hK => ?_⟩
   exact wq (u := .pointer (some ⟨w.heap.size, 4, none⟩)) (by rw [← hρ]; clear hρ; simp only [execOp]; go_simp) (hK _ W (rfl) hS (Below.refl _ _))
  | 10, ho =>
   obtain rfl := Option.some.inj ho
   have e9 : (ρ (.tmp 12)) = .pointer (some ⟨w.heap.size, 4, none⟩) := by rw [hρ]; exact hd 9 (by decide)
   clear hd
   refine Or.inl ⟨rfl, fun KK hK => ?_⟩
   obtain ⟨c0, c1, c2, c3, c4⟩ := HC.out W hS.1
   exact wq (u := .slice ca cn cc) (by rw [← hρ]; clear hρ; simp only [execOp]; go_simp) (hK _ W (rfl) hS (Below.refl _ _))
  | 11, ho =>
   obtain rfl := Option.some.inj ho
   have e1 : (ρ (.tmp 4)) = .int .i64 er := by rw [hρ]; exact hd 1 (by decide)
   have e3 : (ρ (.tmp 6)) = .int .i64 pl := by rw [hρ]; exact hd 3 (by decide)
   have e6 : ∃ (a : Option Addr) (c : Nat), (ρ (.tmp 9)) = .slice a rn c ∧ Kd.RowS W a rn K.ro ∧ (0 < rn → ∀ p, a = some p → p.block ≠ w.heap.size + 1) := by rw [hρ]; exact hd 6 (by decide)
   have e8 : (ρ (.tmp 11)) = .slice aa an ac := by rw [hρ]; exact hd 8 (by decide)
   have e10 : (ρ (.tmp 13)) = .slice ca cn cc := by rw [hρ]; exact hd 10 (by decide)
   clear hd
   refine Or.inl ⟨rfl, fun KK hK => ?_⟩
   obtain ⟨a, c, e6, h6, h7⟩ := e6
   exact wq (u := .agg #[.int .i64 er, .int .i64 pl, .slice a rn c, .slice aa an ac, .slice ca cn cc]) (by rw [← hρ]; clear hρ; simp only [execOp]; go_simp) (hK _ W (⟨a, c, rfl, h6, h7⟩) hS (Below.refl _ _))
  | 12, ho =>
   obtain rfl := Option.some.inj ho
   have e11 : ∃ (a : Option Addr) (c : Nat), (ρ (.tmp 14)) = .agg #[.int .i64 er, .int .i64 pl, .slice a rn c, .slice aa an ac, .slice ca cn cc] ∧ Kd.RowS W a rn K.ro ∧ (0 < rn → ∀ p, a = some p → p.block ≠ w.heap.size + 1) := by rw [hρ]; exact hd 11 (by decide)
   clear hd
   refine Or.inl ⟨rfl, fun KK hK => ?_⟩
   obtain ⟨a, c, e11, h6, h7⟩ := e11
   obtain ⟨f, hf⟩ := hS.2
   have z0 := World.rowIs.cell hf (i := 0) (by omega)
   have z1 := World.rowIs.cell hf (i := 1) (by omega)
   have z2 := World.rowIs.cell hf (i := 2) (by omega)
   have z3 := World.rowIs.cell hf (i := 3) (by omega)
   have z4 := World.rowIs.cell hf (i := 4) (by omega)
   have f0 := World.rowIs.frozen hf 0
   have f1 := World.rowIs.frozen hf 1
   have f2 := World.rowIs.frozen hf 2
   have f3 := World.rowIs.frozen hf 3
   have f4 := World.rowIs.frozen hf 4
   have hP : ρ (.tmp 2) = .pointer (some ⟨w.heap.size + 1, 0, none⟩) := qS2
   have s5 := ((((hf.set 0 (.int .i64 er)).set 1 (.int .i64 pl)).set 2 (.slice a rn c)).set 3 (.slice aa an ac)).set 4 (.slice ca cn cc)
   have k5 : Kep (w.heap.size + 1) W (((((W.setCell ⟨w.heap.size + 1, 0, none⟩ (.int .i64 er)).setCell ⟨w.heap.size + 1, 1, none⟩ (.int .i64 pl)).setCell ⟨w.heap.size + 1, 2, none⟩ (.slice a rn c)).setCell ⟨w.heap.size + 1, 3, none⟩ (.slice aa an ac)).setCell ⟨w.heap.size + 1, 4, none⟩ (.slice ca cn cc)) := ((((Kep.set _ 0 _ _).trans (Kep.set _ 1 _ _)).trans (Kep.set _ 2 _ _)).trans (Kep.set _ 3 _ _)).trans (Kep.set _ 4 _ _)
   have HK := hK undef _ ⟨a, c, s5.congr (fun j hj => by
    match j, hj with
    | 0, _ => rfl
    | 1, _ => rfl
    | 2, _ => rfl
    | 3, _ => rfl
    | 4, _ => rfl), rowS_kep h6 k5 h7, h7⟩ ⟨hS.1.trans k5, _, s5⟩ (by simp only [if_true]; exact k5)
   refine ws ?_ HK
   rw [← hρ]
   clear hρ HK hK
   simp only [execOp]
   go_simp
  | k + 13, ho => simp at ho
 ·exact ⟨Kep.of ⟨rfl, rfl, rfl, Nat.le_refl _, fun _ _ => rfl⟩, _, World.rowIs.drew HRZ.out⟩
 ·intro a' W hsz hdef hoth hok hS
  have hcov : ∀ i, i < 13 → (fun i => ([3, 4, 5, 6, 7, 8, 9, 10, 11, 12, 13, 14, 15] : List Nat).getD i 0) i < 15 → 3 ≤ (fun i => ([3, 4, 5, 6, 7, 8, 9, 10, 11, 12, 13, 14, 15] : List Nat).getD i 0) i ∧ (fun i => ([3, 4, 5, 6, 7, 8, 9, 10, 11, 12, 13, 14, 15] : List Nat).getD i 0) i < 15 := by decide
  obtain ⟨a9, c9, s9, h9, n9⟩ : ∃ (a : Option Addr) (c : Nat), W.rowIs (w.heap.size + 1) 33 5 (fun j => if j = 4 then .slice ca cn cc else if j = 3 then .slice aa an ac else if j = 2 then .slice a rn c else if j = 1 then .int .i64 pl else if j = 0 then .int .i64 er else undef) ∧ Kd.RowS W a rn K.ro ∧ (0 < rn → ∀ p, a = some p → p.block ≠ w.heap.size + 1) := hok 12 (by decide)
  clear hok
  obtain ⟨us, hu1, hu2, rfl⟩ := act_mix 3 12 rfl hsz hdef (by simp) (fun k hk => by
   by_cases hkT : k < 15
   ·exact hoth k (fun i hi e => by have := hcov i hi (Nat.lt_of_le_of_lt (Nat.le_of_eq e) hkT); dsimp only at this e; omega)
   ·rw [eval_out (by rw [hsz]; omega), eval_out (by simp; omega)])
  clear hoth hcov
  match us, hu1, hu2 with
  | [u3, u4, u5, u6, u7, u8, u9, u10, u11, u12, u13, u14], _, hu2 =>
   clear hu2
   have K9 := hS.1
   clear hS hsz hdef hu1
   have g0 := World.rowIs.cell s9 (i := 0) (by omega)
   have g1 := World.rowIs.cell s9 (i := 1) (by omega)
   have g2 := World.rowIs.cell s9 (i := 2) (by omega)
   have g3 := World.rowIs.cell s9 (i := 3) (by omega)
   have g4 := World.rowIs.cell s9 (i := 4) (by omega)
   simp only [if_true, if_neg (by decide : ¬ (0 : Nat) = 4), if_neg (by decide : ¬ (0 : Nat) = 3), if_neg (by decide : ¬ (0 : Nat) = 2), if_neg (by decide : ¬ (0 : Nat) = 1), if_neg (by decide : ¬ (1 : Nat) = 4), if_neg (by decide : ¬ (1 : Nat) = 3), if_neg (by decide : ¬ (1 : Nat) = 2), if_neg (by decide : ¬ (2 : Nat) = 4), if_neg (by decide : ¬ (2 : Nat) = 3), if_neg (by decide : ¬ (3 : Nat) = 4)] at g0 g1 g2 g3 g4
   have hb9 : Below w.heap.size w W := HB2.out.trans (K9.below (Nat.le_succ _) HB2.out.size)
   go_wp2
   refine bodyPost_ret (v := .agg #[.int .i64 er, .int .i64 pl, .slice a9 rn c9, .slice aa an ac, .slice ca cn cc]) (by simp [results, Tryz.results12, go_sem, g0, g1, g2, g3, g4]) rfl ?_
   obtain ⟨e1, p1, r1, r2, r3⟩ := HIs.out
   exact ⟨⟨er, pl, ⟨a9, rn, c9⟩, ⟨aa, an, ac⟩, ⟨ca, cn, cc⟩⟩, rfl, ⟨e1, p1, h9, r2.below hb9, r3.below hb9⟩, hb9⟩
def sCo : List (Int × Int × Int) := [(23, 0, 0), (1, 1, 0), (18, 0, 0), (24, 0, 0), (25, 0, 0)]
def sP (d : Int) : ImP := ⟨0, 1, 1, 0, [], [[0]], [⟨1, 100, 50, 0, [0], [], sCo⟩, ⟨2, 40, d, 2, [0], [], sCo⟩]⟩
theorem blk_up {W : World} {i : Nat} {x o : Obj} (h : W.heap[i]? = some x) : (W.alloc o).heap[i]? = some x := (Go.Deep.blk_alloc_lt _ _ _ (lt_of_cells h)).trans h
theorem row_of_blk {W : World} {b n : Nat} {cs : Array Value} {t : TypeId} {l : List Int} (h : W.heap[b]? = some (.cells cs t (0, 0))) (hn : n = l.length) (hc : cs.toList = l.map (Value.int .i64)) : Row W (some ⟨b, 0, none⟩) n l :=
 ⟨hn, fun _ => ⟨b, 0, rfl, lt_of_cells h, fun i hi => by
  have hl : i < l.length := by omega
  rw [Nat.zero_add]
  refine one_cells h i _ ?_
  rw [hc, List.getElem?_map, List.getElem?_eq_getElem hl, List.getD_eq_getElem?_getD, List.getElem?_eq_getElem hl]; rfl⟩⟩
theorem simple_is (w : World) (d : Int) (o0 : Obj) (s1 s2 s3 s4 s5 s6 : Nat) (h1 : s1 = w.heap.size + 1) (h2 : s2 = s1 + 1) (h3 : s3 = s2 + 1) (h4 : s4 = s3 + 1) (h5 : s5 = s4 + 1) (h6 : s6 = s5 + 1) :
  ImV.Is (((((((w.alloc o0).alloc (.cells #[.int .i64 23, .int .i64 0, .int .i64 0, .int .i64 1, .int .i64 1, .int .i64 0, .int .i64 18, .int .i64 0, .int .i64 0, .int .i64 24, .int .i64 0, .int .i64 0, .int .i64 25, .int .i64 0, .int .i64 0] 103)).alloc (.cells #[.int .i64 0] 3)).alloc (.cells #[.slice (some ⟨s2, 0, none⟩) 1 1] 22)).alloc (.cells #[.int .i64 0] 3)).alloc (.cells #[.int .i64 0] 3)).alloc (.cells #[.int .i64 1, .int .i64 100, .int .i64 50, .int .i64 0, .slice (some ⟨s4, 0, none⟩) 1 1, .slice none 0 0, .slice (some ⟨s1, 0, none⟩) 5 5, .int .i64 2, .int .i64 40, .int .i64 d, .int .i64 2, .slice (some ⟨s5, 0, none⟩) 1 1, .slice none 0 0, .slice (some ⟨s1, 0, none⟩) 5 5] 59))
   ⟨0, 1, 1, 0, ⟨none, 0, 0⟩, ⟨some ⟨s3, 0, none⟩, 1, 1⟩, ⟨some ⟨s6, 0, none⟩, 2, 2⟩⟩ (sP d) ∧
  Below w.heap.size w (((((((w.alloc o0).alloc (.cells #[.int .i64 23, .int .i64 0, .int .i64 0, .int .i64 1, .int .i64 1, .int .i64 0, .int .i64 18, .int .i64 0, .int .i64 0, .int .i64 24, .int .i64 0, .int .i64 0, .int .i64 25, .int .i64 0, .int .i64 0] 103)).alloc (.cells #[.int .i64 0] 3)).alloc (.cells #[.slice (some ⟨s2, 0, none⟩) 1 1] 22)).alloc (.cells #[.int .i64 0] 3)).alloc (.cells #[.int .i64 0] 3)).alloc (.cells #[.int .i64 1, .int .i64 100, .int .i64 50, .int .i64 0, .slice (some ⟨s4, 0, none⟩) 1 1, .slice none 0 0, .slice (some ⟨s1, 0, none⟩) 5 5, .int .i64 2, .int .i64 40, .int .i64 d, .int .i64 2, .slice (some ⟨s5, 0, none⟩) 1 1, .slice none 0 0, .slice (some ⟨s1, 0, none⟩) 5 5] 59)) := by
 have B1 := below_alloc w o0
 have z1 : (w.alloc o0).heap.size = s1 := by rw [h1]; simp
 generalize w.alloc o0 = W1 at *
 have k1 := Go.Deep.blk_alloc_new W1 (.cells #[.int .i64 23, .int .i64 0, .int .i64 0, .int .i64 1, .int .i64 1, .int .i64 0, .int .i64 18, .int .i64 0, .int .i64 0, .int .i64 24, .int .i64 0, .int .i64 0, .int .i64 25, .int .i64 0, .int .i64 0] 103)
 have B2 := keep_below B1 (below_alloc W1 (.cells #[.int .i64 23, .int .i64 0, .int .i64 0, .int .i64 1, .int .i64 1, .int .i64 0, .int .i64 18, .int .i64 0, .int .i64 0, .int .i64 24, .int .i64 0, .int .i64 0, .int .i64 25, .int .i64 0, .int .i64 0] 103))
 have z2 : (W1.alloc (.cells #[.int .i64 23, .int .i64 0, .int .i64 0, .int .i64 1, .int .i64 1, .int .i64 0, .int .i64 18, .int .i64 0, .int .i64 0, .int .i64 24, .int .i64 0, .int .i64 0, .int .i64 25, .int .i64 0, .int .i64 0] 103)).heap.size = s2 := by rw [h2, ← z1]; simp
 rw [z1] at k1
 generalize W1.alloc (.cells #[.int .i64 23, .int .i64 0, .int .i64 0, .int .i64 1, .int .i64 1, .int .i64 0, .int .i64 18, .int .i64 0, .int .i64 0, .int .i64 24, .int .i64 0, .int .i64 0, .int .i64 25, .int .i64 0, .int .i64 0] 103) = W2 at *
 have k2 := Go.Deep.blk_alloc_new W2 (.cells #[.int .i64 0] 3)
 have B3 := keep_below B2 (below_alloc W2 (.cells #[.int .i64 0] 3))
 have z3 : (W2.alloc (.cells #[.int .i64 0] 3)).heap.size = s3 := by rw [h3, ← z2]; simp
 rw [z2] at k2
 replace k1 := blk_up (o := .cells #[.int .i64 0] 3) k1
 generalize W2.alloc (.cells #[.int .i64 0] 3) = W3 at *
 have k3 := Go.Deep.blk_alloc_new W3 (.cells #[.slice (some ⟨s2, 0, none⟩) 1 1] 22)
 have B4 := keep_below B3 (below_alloc W3 (.cells #[.slice (some ⟨s2, 0, none⟩) 1 1] 22))
 have z4 : (W3.alloc (.cells #[.slice (some ⟨s2, 0, none⟩) 1 1] 22)).heap.size = s4 := by rw [h4, ← z3]; simp
 rw [z3] at k3
 replace k1 := blk_up (o := .cells #[.slice (some ⟨s2, 0, none⟩) 1 1] 22) k1
 replace k2 := blk_up (o := .cells #[.slice (some ⟨s2, 0, none⟩) 1 1] 22) k2
 generalize W3.alloc (.cells #[.slice (some ⟨s2, 0, none⟩) 1 1] 22) = W4 at *
 have k4 := Go.Deep.blk_alloc_new W4 (.cells #[.int .i64 0] 3)
 have B5 := keep_below B4 (below_alloc W4 (.cells #[.int .i64 0] 3))
 have z5 : (W4.alloc (.cells #[.int .i64 0] 3)).heap.size = s5 := by rw [h5, ← z4]; simp
 rw [z4] at k4
 replace k1 := blk_up (o := .cells #[.int .i64 0] 3) k1
 replace k2 := blk_up (o := .cells #[.int .i64 0] 3) k2
 replace k3 := blk_up (o := .cells #[.int .i64 0] 3) k3
 generalize W4.alloc (.cells #[.int .i64 0] 3) = W5 at *
 have k5 := Go.Deep.blk_alloc_new W5 (.cells #[.int .i64 0] 3)
 have B6 := keep_below B5 (below_alloc W5 (.cells #[.int .i64 0] 3))
 have z6 : (W5.alloc (.cells #[.int .i64 0] 3)).heap.size = s6 := by rw [h6, ← z5]; simp
 rw [z5] at k5
 replace k1 := blk_up (o := .cells #[.int .i64 0] 3) k1
 replace k2 := blk_up (o := .cells #[.int .i64 0] 3) k2
 replace k3 := blk_up (o := .cells #[.int .i64 0] 3) k3
 replace k4 := blk_up (o := .cells #[.int .i64 0] 3) k4
 generalize W5.alloc (.cells #[.int .i64 0] 3) = W6 at *
 obtain ⟨o6, q6⟩ : ∃ o, o = Obj.cells #[.int .i64 1, .int .i64 100, .int .i64 50, .int .i64 0, .slice (some ⟨s4, 0, none⟩) 1 1, .slice none 0 0, .slice (some ⟨s1, 0, none⟩) 5 5, .int .i64 2, .int .i64 40, .int .i64 d, .int .i64 2, .slice (some ⟨s5, 0, none⟩) 1 1, .slice none 0 0, .slice (some ⟨s1, 0, none⟩) 5 5] 59 := ⟨_, rfl⟩
 rw [← q6]
 have k6 := Go.Deep.blk_alloc_new W6 o6
 have B7 := keep_below B6 (below_alloc W6 o6)
 rw [z6] at k6
 replace k1 := blk_up (o := o6) k1
 replace k2 := blk_up (o := o6) k2
 replace k3 := blk_up (o := o6) k3
 replace k4 := blk_up (o := o6) k4
 replace k5 := blk_up (o := o6) k5
 generalize W6.alloc o6 = W7 at *
 rw [q6] at k6
 have r2 : Row W7 (some ⟨s2, 0, none⟩) 1 [0] := row_of_blk k2 rfl rfl
 have r4 : Row W7 (some ⟨s4, 0, none⟩) 1 [0] := row_of_blk k4 rfl rfl
 have r5 : Row W7 (some ⟨s5, 0, none⟩) 1 [0] := row_of_blk k5 rfl rfl
 have rN : ∀ l : List Int, l = [] → Row W7 none 0 l := fun l hl => by subst hl; exact ⟨rfl, fun h => absurd h (Nat.lt_irrefl 0)⟩
 have r1 : RowI W7 (some ⟨s1, 0, none⟩) 5 sCo := by
  refine ⟨rfl, fun _ => ⟨s1, 0, rfl, lt_of_cells k1, fun i hi => ?_⟩⟩
  match i, hi with
  | 0, _ => exact ⟨one_cells k1 _ _ rfl, one_cells k1 _ _ rfl, one_cells k1 _ _ rfl⟩
  | 1, _ => exact ⟨one_cells k1 _ _ rfl, one_cells k1 _ _ rfl, one_cells k1 _ _ rfl⟩
  | 2, _ => exact ⟨one_cells k1 _ _ rfl, one_cells k1 _ _ rfl, one_cells k1 _ _ rfl⟩
  | 3, _ => exact ⟨one_cells k1 _ _ rfl, one_cells k1 _ _ rfl, one_cells k1 _ _ rfl⟩
  | 4, _ => exact ⟨one_cells k1 _ _ rfl, one_cells k1 _ _ rfl, one_cells k1 _ _ rfl⟩
 have h57 : (5 : Nat) ≤ 140737488355328 := by omega
 have h17 : (1 : Nat) ≤ 140737488355328 := by omega
 have h07 : (0 : Nat) ≤ 140737488355328 := by omega
 refine ⟨⟨rfl, rfl, rfl, rfl, ⟨rN _ rfl, h07⟩, ⟨⟨rfl, fun _ => ⟨s3, 0, rfl, lt_of_cells k3, fun i hi => ?_⟩⟩, h17⟩, ⟨⟨rfl, fun _ => ⟨s6, 0, rfl, lt_of_cells k6, fun i hi => ?_⟩⟩, by show (2 : Nat) ≤ _; omega⟩⟩, B7⟩
 ·have hi : i < 1 := hi
  obtain rfl : i = 0 := by omega
  exact ⟨⟨some ⟨s2, 0, none⟩, 1, 1⟩, one_cells k3 _ _ rfl, r2, h17⟩
 ·have hi : i < 2 := hi
  match i, hi with
  | 0, _ =>
   refine ⟨⟨1, 100, 50, 0, ⟨some ⟨s4, 0, none⟩, 1, 1⟩, ⟨none, 0, 0⟩, ⟨some ⟨s1, 0, none⟩, 5, 5⟩⟩, _, rfl, ⟨rfl, rfl, rfl, rfl, ⟨r4, h17⟩, ⟨rN _ rfl, h07⟩, ⟨r1, h57⟩⟩, fun j v hj => one_cells k6 _ _ ?_⟩
   match j, hj with
   | 0, hj => exact hj
   | 1, hj => exact hj
   | 2, hj => exact hj
   | 3, hj => exact hj
   | 4, hj => exact hj
   | 5, hj => exact hj
   | 6, hj => exact hj
  | 1, _ =>
   refine ⟨⟨2, 40, d, 2, ⟨some ⟨s5, 0, none⟩, 1, 1⟩, ⟨none, 0, 0⟩, ⟨some ⟨s1, 0, none⟩, 5, 5⟩⟩, _, rfl, ⟨rfl, rfl, rfl, rfl, ⟨r5, h17⟩, ⟨rN _ rfl, h07⟩, ⟨r1, h57⟩⟩, fun j v hj => one_cells k6 _ _ ?_⟩
   match j, hj with
   | 0, hj => exact hj
   | 1, hj => exact hj
   | 2, hj => exact hj
   | 3, hj => exact hj
   | 4, hj => exact hj
   | 5, hj => exact hj
   | 6, hj => exact hj
theorem simple15_any (d : Int) (w : World) :
  Calls Tryz.prog 25 #[.int .i64 d] w fun e w' => ∃ x : ImV, e = .returned x.v ∧ x.Is w' (sP d) ∧ Below w.heap.size w w' := by
 have H := Lib.hid (fun o0 => simple_is w d o0 _ _ _ _ _ _ rfl rfl rfl rfl rfl rfl)
 go_enter Tryz.func25, Tryz.ntmps25
 go_wp2
 refine bodyPost_ret (v := .agg #[.int .i64 0, .int .i64 1, .int .i64 1, .int .i64 0, .slice none 0 0, .slice (some ⟨w.heap.size + 1 + 1 + 1, 0, none⟩) 1 1, .slice (some ⟨w.heap.size + 1 + 1 + 1 + 1 + 1 + 1, 0, none⟩) 2 2]) (by simp [results, Tryz.results25, go_sem]) rfl ?_
 exact ⟨⟨0, 1, 1, 0, ⟨none, 0, 0⟩, ⟨some ⟨w.heap.size + 1 + 1 + 1, 0, none⟩, 1, 1⟩, ⟨some ⟨w.heap.size + 1 + 1 + 1 + 1 + 1 + 1, 0, none⟩, 2, 2⟩⟩, rfl, (H.out _).1, (H.out _).2⟩
end Go.Proofs.YtngehojibcmieaaGreatDoor
end
