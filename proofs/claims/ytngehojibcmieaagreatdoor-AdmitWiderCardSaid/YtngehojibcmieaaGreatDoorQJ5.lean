/- What is proved here: contracts of admit's judge and Judge. Conditions: the table of names holds what its initialiser lays. the contract of admit.Judge. -/
import Derived.Test.YtngehojibcmieaaGreatDoorQJ2
set_option maxRecDepth 100000
set_option maxHeartbeats 8000000
section
namespace Go.Proofs.YtngehojibcmieaaGreatDoor
open Go.ChangeShapes Go.WideShapes Go.RowKit
def vdZ (j : Nat) : Value := if j < 2 then .int .i64 0 else .slice none 0 0
theorem zero_apart {W : World} {g off : Nat} {t : TypeId} {x : Int} (hz : W.rowIs g t 5 vdZ) (h : W.cell? ⟨g, off, none⟩ = some (.int .i64 x)) (hx : x ≠ 0) : False := by
 rcases Nat.lt_or_ge off 5 with h5 | h5
 ·rw [World.rowIs.cell hz h5] at h
  unfold vdZ at h
  split at h
  ·cases h; exact hx rfl
  ·cases h
 ·obtain ⟨c, hb, hn, _⟩ := hz
  rw [Lib.cell_of_heap hb, Array.getElem?_eq_none (by omega)] at h
  cases h
theorem rows_apart {W : World} {g n : Nat} {t : TypeId} {a : Option Addr} {L : List Kd.RtR} (hz : W.rowIs g t 5 vdZ) (h : Kd.RowS W a n L) (hC : ∀ r ∈ L, r.C ≠ 0) : 0 < n → ∀ p, a = some p → p.block ≠ g := fun h0 p hp hg => by
 obtain ⟨b, off, e, hlt, hc⟩ := h.2 h0
 rw [hp] at e
 cases e
 have hg' : b = g := hg
 subst hg'
 obtain ⟨r, hr, hcs⟩ := hc 0 h0
 exact zero_apart hz (hcs 0 _ rfl) (hC r (List.mem_of_getElem? hr))
theorem ints_apart {W : World} {g n : Nat} {t : TypeId} {a : Option Addr} {l : List Int} (hz : W.rowIs g t 5 vdZ) (h : Row W a n l) (hC : ∀ r ∈ l, r ≠ 0) : 0 < n → ∀ p, a = some p → p.block ≠ g := fun h0 p hp hg => by
 obtain ⟨b, off, x, e, hlt, hx, hc⟩ := h.item h0
 rw [hp] at e
 cases e
 have hg' : b = g := hg
 subst hg'
 exact zero_apart hz hc (hC x (List.mem_of_getElem? hx))
theorem resp_ne {m : ImP} (h0 : (allE m).2 = 0) : ∀ r ∈ (Kd.accR (roA m)).1, r ≠ 0 := fun r hr => by
 rcases Kd.acc_parts (ro_right h0) with ⟨e1, e2, e3, e4⟩ | ⟨k, _, _, e, _⟩
 ·rw [e3] at hr
  unfold Kd.accV at hr
  obtain ⟨j, hj, e⟩ := List.mem_map.1 hr
  have hj2 := List.mem_range.1 hj
  have hj3 : j < m.tasks.length := by rw [roA_len] at hj2; exact hj2
  have h1 := Kd.resp_in (ro_right h0) (roA_at hj3) (e4 j hj2)
  have h2 := tk_ok h0 hj3
  have h3 := h2.sl.1
  have h4 := h2.ji.1
  have h5 : slW m j + (tkAt m j).ji ≤ (Kd.rspR (roA m) (j : Int)).1 := h1.2
  have e' : (Kd.rspR (roA m) (j : Int)).1 = r := e
  omega
 ·rw [e] at hr; cases hr
theorem slots_ne {m : ImP} (h0 : (allE m).2 = 0) : ∀ r ∈ roA m, r.C ≠ 0 := fun r hr => by
 obtain ⟨i, hi, rfl⟩ := roA_mem hr
 have := (tk_ok h0 hi).sl.1
 show slW m i ≠ 0
 omega
theorem judgeT_any (x : ImV) (m : ImP) (w : World) (h : x.Is w m) (hN : Nms w) (h0 : (allE m).2 = 0) :
  Calls Tryz.prog 33 #[TsV x] w fun e w' => ∃ t : VdV, e = .returned t.v ∧ t.Is w' (jdA m) ∧ Below w.heap.size w w' ∧ ∀ p, t.ce.a = some p → w.heap.size ≤ p.block := by
 have hlen : x.tasks.n = m.tasks.length := h.2.2.2.2.2.2.1.1
 have hbn : x.blocks.n = m.blocks.length := h.2.2.2.2.2.1.1.1
 have CU := Lib.hid (fun W (hb : Below w.heap.size w W) => uses_any x m W (h.below hb) (hN.below hb) h0)
 have CR := Lib.hid (fun W (hb : Below w.heap.size w W) a n c (hr : Row W a n (waA m)) => rowsA_any x m a n c W (h.below hb) (hN.below hb) h0 hr)
 have hn8 : x.tasks.n ≤ 8 := by have := (few_tasks h0).2.1; omega
 have HWQ : Hid (Kc.wL (x.blocks.n : Int) (usA m) = waA m) := by show _ = _; rw [hbn]; rfl
 have HCQ : Hid (Kc.cL (x.blocks.n : Int) (usA m) = ceA m) := by show _ = _; rw [hbn]; rfl
 have HJ := Lib.hid (jd_ok h0)
 have HN1 := Lib.hid (resp_ne h0)
 have HN2 := Lib.hid (slots_ne h0)
 clear hlen hbn h hN h0
 obtain ⟨sw, la, cm, inp, ⟨sa, sn, sc⟩, ⟨ba, bn, bc⟩, ⟨ta, tn, tc⟩⟩ := x
 simp only [TsV, Sl.v] at CU CR hn8 HWQ HCQ ⊢
 have c0 := cells_new w #[.int .i64 sw, .int .i64 la, .int .i64 cm, .int .i64 inp, .slice sa sn sc, .slice ba bn bc, .slice ta tn tc, .func (.func 32) #[] #[]] 73
 have b1 := below_alloc w (.cells #[.int .i64 sw, .int .i64 la, .int .i64 cm, .int .i64 inp, .slice sa sn sc, .slice ba bn bc, .slice ta tn tc, .func (.func 32) #[] #[]] 73)
 have b2 := below_alloc (w.alloc (.cells #[.int .i64 sw, .int .i64 la, .int .i64 cm, .int .i64 inp, .slice sa sn sc, .slice ba bn bc, .slice ta tn tc, .func (.func 32) #[] #[]] 73)) (.cells #[.int .i64 0, .int .i64 0, .slice none 0 0, .slice none 0 0, .slice none 0 0] 37)
 obtain ⟨W2, hW2⟩ : ∃ W2, W2 = (w.alloc (.cells #[.int .i64 sw, .int .i64 la, .int .i64 cm, .int .i64 inp, .slice sa sn sc, .slice ba bn bc, .slice ta tn tc, .func (.func 32) #[] #[]] 73)).alloc (.cells #[.int .i64 0, .int .i64 0, .slice none 0 0, .slice none 0 0, .slice none 0 0] 37) := ⟨_, rfl⟩
 have HC : Hid (∀ W, Below W2.heap.size W2 W → W.cell? ⟨w.heap.size, 0, none⟩ = some (.int .i64 sw) ∧ W.cell? ⟨w.heap.size, 1, none⟩ = some (.int .i64 la) ∧ W.cell? ⟨w.heap.size, 2, none⟩ = some (.int .i64 cm) ∧ W.cell? ⟨w.heap.size, 3, none⟩ = some (.int .i64 inp) ∧ W.cell? ⟨w.heap.size, 4, none⟩ = some (.slice sa sn sc) ∧ W.cell? ⟨w.heap.size, 5, none⟩ = some (.slice ba bn bc) ∧ W.cell? ⟨w.heap.size, 6, none⟩ = some (.slice ta tn tc) ∧ W.cell? ⟨w.heap.size, 7, none⟩ = some (.func (.func 32) #[] #[])) := by
  intro W hW
  rw [hW2] at hW
  exact ⟨keep_cell hW (keep_cell b2 (c0 0 _ rfl)), keep_cell hW (keep_cell b2 (c0 1 _ rfl)), keep_cell hW (keep_cell b2 (c0 2 _ rfl)), keep_cell hW (keep_cell b2 (c0 3 _ rfl)), keep_cell hW (keep_cell b2 (c0 4 _ rfl)), keep_cell hW (keep_cell b2 (c0 5 _ rfl)), keep_cell hW (keep_cell b2 (c0 6 _ rfl)), keep_cell hW (keep_cell b2 (c0 7 _ rfl))⟩
 have HB2 : Hid (Below w.heap.size w W2) := by show Below _ _ _; rw [hW2]; exact keep_below b1 b2
 have RZ : W2.rowIs (w.heap.size + 1) 37 5 vdZ := by
  have h1 := (rowIs_neu (w.alloc (.cells #[.int .i64 sw, .int .i64 la, .int .i64 cm, .int .i64 inp, .slice sa sn sc, .slice ba bn bc, .slice ta tn tc, .func (.func 32) #[] #[]] 73)) #[.int .i64 0, .int .i64 0, .slice none 0 0, .slice none 0 0, .slice none 0 0] 37 5 rfl).congr (g := vdZ) (fun j hj => by
   match j, hj with
   | 0, _ => rfl
   | 1, _ => rfl
   | 2, _ => rfl
   | 3, _ => rfl
   | 4, _ => rfl)
  rw [show (w.alloc (.cells #[.int .i64 sw, .int .i64 la, .int .i64 cm, .int .i64 inp, .slice sa sn sc, .slice ba bn bc, .slice ta tn tc, .func (.func 32) #[] #[]] 73)).heap.size = w.heap.size + 1 by simp, ← hW2] at h1
  exact h1
 have HRZ := Lib.hid RZ
 have HW2 := Lib.hid hW2
 clear hW2 RZ b1 b2 c0
 go_enter Tryz.func33, Tryz.ntmps33
 go_wp2
 rw [← HW2.out]
 clear HW2
 refine region_w 34 8 (fun i => ([9, 10, 11, 12, 13, 14, 3, 4] : List Nat).getD i 0) (fun i => ([[], [0], [], [2], [3], [4], [1], [5]] : List (List Nat)).getD i []) (fun i v W => ([(fun v _ => v = .agg #[.int .i64 sw, .int .i64 la, .int .i64 cm, .int .i64 inp, .slice sa sn sc, .slice ba bn bc, .slice ta tn tc, .func (.func 32) #[] #[]]), (fun v W => ∃ (a : Option Addr) (c : Nat), v = .slice a tn c ∧ Kc.RowU W a tn (usA m)), (fun v _ => v = .pointer (some ⟨w.heap.size, 0, none⟩)), (fun v _ => v = .pointer (some ⟨w.heap.size, 5, none⟩)), (fun v _ => v = .slice ba bn bc), (fun v _ => v = .int .i64 (bn : Int)), (fun v W => ∃ (a : Option Addr) (c : Nat), v = .slice a tn c ∧ Kc.RowU W a tn (usA m)), (fun v _ => v = .int .i64 (bn : Int))] : List (Value → World → Prop)).getD i (fun _ _ => False) v W) (fun W => Below W2.heap.size W2 W) (fun _ W W' => Below W.heap.size W W') (by kernel_rfl) rfl (fun i j hi hj => (by decide : ∀ i, i < 8 → ∀ j, j < 8 → (fun i => ([9, 10, 11, 12, 13, 14, 3, 4] : List Nat).getD i 0) i = (fun i => ([9, 10, 11, 12, 13, 14, 3, 4] : List Nat).getD i 0) j → i = j) i hi j hj) rfl ?_ ?_ ?_ ?_ ?_
 ·intro i o ho
  iterate 8 (rcases i with _ | i; (obtain rfl := Option.some.inj ho; exact ⟨Or.inl ⟨rfl, by decide⟩, by decide, by decide⟩))
  simp at ho
 ·intro i j v W W' hi hj hji hr hk
  have hb : Below W.heap.size W W' := hr
  match j, hj, hk with
  | 0, _, hk => exact hk
  | 1, _, hk => exact (by obtain ⟨a, c, e, h⟩ := hk; exact ⟨a, c, e, h.below hb⟩)
  | 2, _, hk => exact hk
  | 3, _, hk => exact hk
  | 4, _, hk => exact hk
  | 5, _, hk => exact hk
  | 6, _, hk => exact (by obtain ⟨a, c, e, h⟩ := hk; exact ⟨a, c, e, h.below hb⟩)
  | 7, _, hk => exact hk
  | k + 8, hj, _ => omega
 ·intro i o ho a' W hS hoth hd
  have oS1 : a'.eval (.tmp 1) = .pointer (some ⟨w.heap.size, 0, none⟩) := hoth 1 (by decide)
  obtain ⟨ρ, hρ⟩ : ∃ ρ, ρ = a'.eval := ⟨_, rfl⟩
  have hc : ∀ v, ρ (.const v) = v := fun v => by rw [hρ]; rfl
  have hfn : ∀ f, ρ (.func f) = .func (.func f) #[] #[] := fun f => by rw [hρ]; rfl
  have qS1 : ρ (.tmp 1) = .pointer (some ⟨w.heap.size, 0, none⟩) := by rw [hρ]; exact oS1
  clear hoth
  match i, ho with
  | 0, ho =>
   obtain rfl := Option.some.inj ho
   clear hd
   refine Or.inl ⟨rfl, fun K hK => ?_⟩
   obtain ⟨c0, c1, c2, c3, c4, c5, c6, c7⟩ := HC.out W (hS)
   exact wq (u := .agg #[.int .i64 sw, .int .i64 la, .int .i64 cm, .int .i64 inp, .slice sa sn sc, .slice ba bn bc, .slice ta tn tc, .func (.func 32) #[] #[]]) (by rw [← hρ]; clear hρ; simp only [execOp]; go_simp) (hK _ W (rfl) hS (Below.refl _ _))
  | 1, ho =>
   obtain rfl := Option.some.inj ho
   have e0 : (ρ (.tmp 9)) = .agg #[.int .i64 sw, .int .i64 la, .int .i64 cm, .int .i64 inp, .slice sa sn sc, .slice ba bn bc, .slice ta tn tc, .func (.func 32) #[] #[]] := by rw [hρ]; exact hd 0 (by decide)
   clear hd
   refine Or.inl ⟨rfl, fun K hK => ?_⟩
   refine Gives.wp (R := fun v W' => (∃ (a : Option Addr) (c : Nat), v = .slice a tn c ∧ Kc.RowU W' a tn (usA m)) ∧ Below W.heap.size W W') (Gives.enter (f := 66) (args := #[.agg #[.int .i64 sw, .int .i64 la, .int .i64 cm, .int .i64 inp, .slice sa sn sc, .slice ba bn bc, .slice ta tn tc, .func (.func 32) #[] #[]]]) (by rw [← hρ]; clear hρ; simp only [execOp]; go_simp) ((CU.out W (keep_below HB2.out hS)).mono ?_)) ?_
   ·rintro e w8 ⟨a, c, rfl, h1, h2⟩; exact ⟨_, rfl, ⟨a, c, rfl, h1⟩, h2⟩
   ·rintro v' W' ⟨h1, h2⟩; exact hK v' W' h1 (keep_below hS h2) h2
  | 2, ho =>
   obtain rfl := Option.some.inj ho
   clear hd
   refine Or.inl ⟨rfl, fun K hK => ?_⟩
   exact wq (u := .pointer (some ⟨w.heap.size, 0, none⟩)) (by rw [← hρ]; clear hρ; simp only [execOp]; go_simp) (hK _ W (rfl) hS (Below.refl _ _))
  | 3, ho =>
   obtain rfl := Option.some.inj ho
   have e2 : (ρ (.tmp 11)) = .pointer (some ⟨w.heap.size, 0, none⟩) := by rw [hρ]; exact hd 2 (by decide)
   clear hd
   refine Or.inl ⟨rfl, fun K hK => ?_⟩
   exact wq (u := .pointer (some ⟨w.heap.size, 5, none⟩)) (by rw [← hρ]; clear hρ; simp only [execOp]; go_simp) (hK _ W (rfl) hS (Below.refl _ _))
  | 4, ho =>
   obtain rfl := Option.some.inj ho
   have e3 : (ρ (.tmp 12)) = .pointer (some ⟨w.heap.size, 5, none⟩) := by rw [hρ]; exact hd 3 (by decide)
   clear hd
   refine Or.inl ⟨rfl, fun K hK => ?_⟩
   obtain ⟨c0, c1, c2, c3, c4, c5, c6, c7⟩ := HC.out W (hS)
   exact wq (u := .slice ba bn bc) (by rw [← hρ]; clear hρ; simp only [execOp]; go_simp) (hK _ W (rfl) hS (Below.refl _ _))
  | 5, ho =>
   obtain rfl := Option.some.inj ho
   have e4 : (ρ (.tmp 13)) = .slice ba bn bc := by rw [hρ]; exact hd 4 (by decide)
   clear hd
   refine Or.inl ⟨rfl, fun K hK => ?_⟩
   exact wq (u := .int .i64 (bn : Int)) (by rw [← hρ]; clear hρ; simp only [execOp]; go_simp) (hK _ W (rfl) hS (Below.refl _ _))
  | 6, ho =>
   obtain rfl := Option.some.inj ho
   have e1 : ∃ (a : Option Addr) (c : Nat), (ρ (.tmp 10)) = .slice a tn c ∧ Kc.RowU W a tn (usA m) := by rw [hρ]; exact hd 1 (by decide)
   clear hd
   refine Or.inl ⟨rfl, fun K hK => ?_⟩
   obtain ⟨a, c, h1, h2⟩ := e1
   exact wq (u := .slice a tn c) (by rw [← hρ]; clear hρ; simp only [execOp]; go_simp) (hK _ W (⟨a, c, rfl, h2⟩) hS (Below.refl _ _))
  | 7, ho =>
   obtain rfl := Option.some.inj ho
   have e5 : (ρ (.tmp 14)) = .int .i64 (bn : Int) := by rw [hρ]; exact hd 5 (by decide)
   clear hd
   refine Or.inl ⟨rfl, fun K hK => ?_⟩
   exact wq (u := .int .i64 (bn : Int)) (by rw [← hρ]; clear hρ; simp only [execOp]; go_simp) (hK _ W (rfl) hS (Below.refl _ _))
  | k + 8, ho => simp at ho
 ·exact ⟨rfl, rfl, rfl, Nat.le_refl _, fun _ _ => rfl⟩
 ·intro a' W hsz hdef hoth hok hS
  have hcov : ∀ i, i < 8 → (fun i => ([9, 10, 11, 12, 13, 14, 3, 4] : List Nat).getD i 0) i < 34 → 3 ≤ (fun i => ([9, 10, 11, 12, 13, 14, 3, 4] : List Nat).getD i 0) i ∧ (fun i => ([9, 10, 11, 12, 13, 14, 3, 4] : List Nat).getD i 0) i < 15 := by decide
  obtain ⟨ua, uc, v3, HU⟩ : ∃ (a : Option Addr) (c : Nat), a'.eval (.tmp 3) = .slice a tn c ∧ Kc.RowU W a tn (usA m) := hok 6 (by decide)
  have v4 : a'.eval (.tmp 4) = .int .i64 (bn : Int) := hok 7 (by decide)
  clear hok
  obtain ⟨us, hu1, hu2, rfl⟩ := act_mix 3 12 rfl hsz hdef (by simp) (fun k hk => by
   by_cases hkT : k < 34
   ·exact hoth k (fun i hi e => by have := hcov i hi (Nat.lt_of_le_of_lt (Nat.le_of_eq e) hkT); dsimp only at this e; omega)
   ·rw [eval_out (by rw [hsz]; omega), eval_out (by simp; omega)])
  clear hoth hcov
  match us, hu1, hu2 with
  | [u3, u4, u5, u6, u7, u8, u9, u10, u11, u12, u13, u14], _, hu2 =>
   obtain rfl : u3 = .slice ua tn uc := (hu2 0 (by decide)).trans v3
   obtain rfl : u4 = .int .i64 (bn : Int) := (hu2 1 (by decide)).trans v4
   clear hu2
   have HB3 := Lib.hid hS
   have HU := Lib.hid HU
   clear hS CU hsz hdef hu1
   obtain ⟨W3, rfl⟩ : ∃ W3, W3 = W := ⟨_, rfl⟩
   go_wp2
   refine region_w 34 6 (fun i => ([15, 16, 17, 18, 19, 5] : List Nat).getD i 0) (fun i => ([[], [], [], [1, 2], [0, 3], [4]] : List (List Nat)).getD i []) (fun i v W => ([(fun v _ => v = .agg #[.int .i64 sw, .int .i64 la, .int .i64 cm, .int .i64 inp, .slice sa sn sc, .slice ba bn bc, .slice ta tn tc, .func (.func 32) #[] #[]]), (fun v _ => v = .int .i64 (bn : Int)), (fun v _ => v = .slice ua tn uc), (fun v W => ∃ (a : Option Addr) (n c : Nat), v = .slice a n c ∧ Row W a n (waA m)), (fun v W => ∃ (a : Option Addr) (c : Nat), v = .slice a tn c ∧ Kd.RowS W a tn (roA m)), (fun v W => ∃ (a : Option Addr) (c : Nat), v = .slice a tn c ∧ Kd.RowS W a tn (roA m))] : List (Value → World → Prop)).getD i (fun _ _ => False) v W) (fun W => Below W3.heap.size W3 W) (fun _ W W' => Below W.heap.size W W') (by kernel_rfl) rfl (fun i j hi hj => (by decide : ∀ i, i < 6 → ∀ j, j < 6 → (fun i => ([15, 16, 17, 18, 19, 5] : List Nat).getD i 0) i = (fun i => ([15, 16, 17, 18, 19, 5] : List Nat).getD i 0) j → i = j) i hi j hj) rfl ?_ ?_ ?_ ?_ ?_
   ·intro i o ho
    iterate 6 (rcases i with _ | i; (obtain rfl := Option.some.inj ho; exact ⟨Or.inl ⟨rfl, by decide⟩, by decide, by decide⟩))
    simp at ho
   ·intro i j v W W' hi hj hji hr hk
    have hb : Below W.heap.size W W' := hr
    match j, hj, hk with
    | 0, _, hk => exact hk
    | 1, _, hk => exact hk
    | 2, _, hk => exact hk
    | 3, _, hk => exact (by obtain ⟨a, n, c, e, h⟩ := hk; exact ⟨a, n, c, e, h.below hb⟩)
    | 4, _, hk => exact (by obtain ⟨a, c, e, h⟩ := hk; exact ⟨a, c, e, h.below hb⟩)
    | 5, _, hk => exact (by obtain ⟨a, c, e, h⟩ := hk; exact ⟨a, c, e, h.below hb⟩)
    | k + 6, hj, _ => omega
   ·intro i o ho a' W hS hoth hd
    have oS1 : a'.eval (.tmp 1) = .pointer (some ⟨w.heap.size, 0, none⟩) := hoth 1 (by decide)
    have oS3 : a'.eval (.tmp 3) = .slice ua tn uc := hoth 3 (by decide)
    have oS4 : a'.eval (.tmp 4) = .int .i64 (bn : Int) := hoth 4 (by decide)
    obtain ⟨ρ, hρ⟩ : ∃ ρ, ρ = a'.eval := ⟨_, rfl⟩
    have hc : ∀ v, ρ (.const v) = v := fun v => by rw [hρ]; rfl
    have hfn : ∀ f, ρ (.func f) = .func (.func f) #[] #[] := fun f => by rw [hρ]; rfl
    have qS1 : ρ (.tmp 1) = .pointer (some ⟨w.heap.size, 0, none⟩) := by rw [hρ]; exact oS1
    have qS3 : ρ (.tmp 3) = .slice ua tn uc := by rw [hρ]; exact oS3
    have qS4 : ρ (.tmp 4) = .int .i64 (bn : Int) := by rw [hρ]; exact oS4
    clear hoth
    match i, ho with
    | 0, ho =>
     obtain rfl := Option.some.inj ho
     clear hd
     refine Or.inl ⟨rfl, fun K hK => ?_⟩
     obtain ⟨c0, c1, c2, c3, c4, c5, c6, c7⟩ := HC.out W (keep_below HB3.out hS)
     exact wq (u := .agg #[.int .i64 sw, .int .i64 la, .int .i64 cm, .int .i64 inp, .slice sa sn sc, .slice ba bn bc, .slice ta tn tc, .func (.func 32) #[] #[]]) (by rw [← hρ]; clear hρ; simp only [execOp]; go_simp) (hK _ W (rfl) hS (Below.refl _ _))
    | 1, ho =>
     obtain rfl := Option.some.inj ho
     clear hd
     refine Or.inl ⟨rfl, fun K hK => ?_⟩
     exact wq (u := .int .i64 (bn : Int)) (by rw [← hρ]; clear hρ; simp only [execOp]; go_simp) (hK _ W (rfl) hS (Below.refl _ _))
    | 2, ho =>
     obtain rfl := Option.some.inj ho
     clear hd
     refine Or.inl ⟨rfl, fun K hK => ?_⟩
     exact wq (u := .slice ua tn uc) (by rw [← hρ]; clear hρ; simp only [execOp]; go_simp) (hK _ W (rfl) hS (Below.refl _ _))
    | 3, ho =>
     obtain rfl := Option.some.inj ho
     have e1 : (ρ (.tmp 16)) = .int .i64 (bn : Int) := by rw [hρ]; exact hd 1 (by decide)
     have e2 : (ρ (.tmp 17)) = .slice ua tn uc := by rw [hρ]; exact hd 2 (by decide)
     clear hd
     refine Or.inl ⟨rfl, fun K hK => ?_⟩
     refine Gives.wp (R := fun v W' => (∃ (a : Option Addr) (n c : Nat), v = .slice a n c ∧ Row W' a n (waA m)) ∧ Below W.heap.size W W') (Gives.enter (f := 68) (args := #[.int .i64 (bn : Int), .slice ua tn uc]) (by rw [← hρ]; clear hρ; simp only [execOp]; go_simp) ((Kc.waits_any (bn : Int) ua tn uc (usA m) W (HU.out.below hS) (by omega) (waA m) HWQ.out).mono ?_)) ?_
     ·rintro e w8 ⟨a, n, c, rfl, h1, _, h2, _⟩; exact ⟨_, rfl, ⟨a, n, c, rfl, rowCr h1⟩, h2⟩
     ·rintro v' W' ⟨h1, h2⟩; exact hK v' W' h1 (keep_below hS h2) h2
    | 4, ho =>
     obtain rfl := Option.some.inj ho
     have e0 : (ρ (.tmp 15)) = .agg #[.int .i64 sw, .int .i64 la, .int .i64 cm, .int .i64 inp, .slice sa sn sc, .slice ba bn bc, .slice ta tn tc, .func (.func 32) #[] #[]] := by rw [hρ]; exact hd 0 (by decide)
     have e3 : ∃ (a : Option Addr) (n c : Nat), (ρ (.tmp 18)) = .slice a n c ∧ Row W a n (waA m) := by rw [hρ]; exact hd 3 (by decide)
     clear hd
     refine Or.inl ⟨rfl, fun K hK => ?_⟩
     obtain ⟨a7, n7, c7, q3, r3⟩ := e3
     refine Gives.wp (R := fun v W' => (∃ (a : Option Addr) (c : Nat), v = .slice a tn c ∧ Kd.RowS W' a tn (roA m)) ∧ Below W.heap.size W W') (Gives.enter (f := 67) (args := #[.agg #[.int .i64 sw, .int .i64 la, .int .i64 cm, .int .i64 inp, .slice sa sn sc, .slice ba bn bc, .slice ta tn tc, .func (.func 32) #[] #[]], .slice a7 n7 c7]) (by rw [← hρ]; clear hρ; simp only [execOp]; go_simp) ((CR.out W (keep_below HB2.out (keep_below HB3.out hS)) a7 n7 c7 r3).mono ?_)) ?_
     ·rintro e w8 ⟨a, c, rfl, h1, h2⟩; exact ⟨_, rfl, ⟨a, c, rfl, h1⟩, h2⟩
     ·rintro v' W' ⟨h1, h2⟩; exact hK v' W' h1 (keep_below hS h2) h2
    | 5, ho =>
     obtain rfl := Option.some.inj ho
     have e4 : ∃ (a : Option Addr) (c : Nat), (ρ (.tmp 19)) = .slice a tn c ∧ Kd.RowS W a tn (roA m) := by rw [hρ]; exact hd 4 (by decide)
     clear hd
     refine Or.inl ⟨rfl, fun K hK => ?_⟩
     obtain ⟨a, c, h1, h2⟩ := e4
     exact wq (u := .slice a tn c) (by rw [← hρ]; clear hρ; simp only [execOp]; go_simp) (hK _ W (⟨a, c, rfl, h2⟩) hS (Below.refl _ _))
    | k + 6, ho => simp at ho
   ·exact ⟨rfl, rfl, rfl, Nat.le_refl _, fun _ _ => rfl⟩
   ·intro a' W hsz hdef hoth hok hS
    have hcov : ∀ i, i < 6 → (fun i => ([15, 16, 17, 18, 19, 5] : List Nat).getD i 0) i < 34 → 5 ≤ (fun i => ([15, 16, 17, 18, 19, 5] : List Nat).getD i 0) i ∧ (fun i => ([15, 16, 17, 18, 19, 5] : List Nat).getD i 0) i < 20 := by decide
    obtain ⟨ra, rc, v5, HR⟩ : ∃ (a : Option Addr) (c : Nat), a'.eval (.tmp 5) = .slice a tn c ∧ Kd.RowS W a tn (roA m) := hok 5 (by decide)
    clear hok
    obtain ⟨us, hu1, hu2, rfl⟩ := act_mix 5 15 rfl hsz hdef (by simp) (fun k hk => by
     by_cases hkT : k < 34
     ·exact hoth k (fun i hi e => by have := hcov i hi (Nat.lt_of_le_of_lt (Nat.le_of_eq e) hkT); dsimp only at this e; omega)
     ·rw [eval_out (by rw [hsz]; omega), eval_out (by simp; omega)])
    clear hoth hcov
    match us, hu1, hu2 with
    | [u5, u6, u7, u8, u9, u10, u11, u12, u13, u14, u15, u16, u17, u18, u19], _, hu2 =>
     obtain rfl : u5 = .slice ra tn rc := (hu2 0 (by decide)).trans v5
     clear hu2
     have HB4 := Lib.hid (keep_below HB3.out hS)
     have HR := Lib.hid HR
     have HU4 := Lib.hid (HU.out.below hS)
     clear hS CR hsz hdef hu1 HU HB3
     obtain ⟨W4, rfl⟩ : ∃ W4, W4 = W := ⟨_, rfl⟩
     obtain ⟨⟨ls, pl, er⟩, hacc⟩ : ∃ r, Kd.accR (roA m) = r := ⟨_, rfl⟩
     have CA := Lib.hid (Kd.accP_any ra tn rc (roA m) W4 HR.out (by omega) ls pl er hacc)
     rw [hacc] at HJ HN1
     clear hacc
     go_wp2_with (first
      | (go_at_call 69; refine CA.out.mono ?_; rintro e w5 ⟨aa, an, ac, rfl, hra, hb5⟩; have HU5 := HU4.out.below hb5)
      | (go_at_call 70; refine (Kc.ceilings_any (bn : Int) ua tn uc (usA m) w5 HU5 (by omega) (ceA m) HCQ.out).mono ?_; rintro e w6 ⟨ca, cn, cc, rfl, hrc, _, hb6, hnc⟩; have r6 := World.rowIs.of_block (World.rowIs.of_block HRZ.out (HB4.out.block _ (World.rowIs.lt HRZ.out))) ((keep_below hb5 hb6).block _ (Nat.lt_of_lt_of_le (World.rowIs.lt HRZ.out) HB4.out.size)); have z0 := World.rowIs.cell r6 (i := 0) (by omega); have z1 := World.rowIs.cell r6 (i := 1) (by omega); have z2 := World.rowIs.cell r6 (i := 2) (by omega); have z3 := World.rowIs.cell r6 (i := 3) (by omega); have z4 := World.rowIs.cell r6 (i := 4) (by omega); have f0 := World.rowIs.frozen r6 0; have f1 := World.rowIs.frozen r6 1; have f2 := World.rowIs.frozen r6 2; have f3 := World.rowIs.frozen r6 3; have f4 := World.rowIs.frozen r6 4))
     have s5 := ((((r6.set 0 (.int .i64 er)).set 1 (.int .i64 pl)).set 2 (.slice ra tn rc)).set 3 (.slice aa an ac)).set 4 (.slice ca cn cc)
     have g0 := World.rowIs.cell s5 (i := 0) (by omega)
     have g1 := World.rowIs.cell s5 (i := 1) (by omega)
     have g2 := World.rowIs.cell s5 (i := 2) (by omega)
     have g3 := World.rowIs.cell s5 (i := 3) (by omega)
     have g4 := World.rowIs.cell s5 (i := 4) (by omega)
     simp only [if_true, if_neg (by decide : ¬ (0 : Nat) = 4), if_neg (by decide : ¬ (0 : Nat) = 3), if_neg (by decide : ¬ (0 : Nat) = 2), if_neg (by decide : ¬ (0 : Nat) = 1), if_neg (by decide : ¬ (1 : Nat) = 4), if_neg (by decide : ¬ (1 : Nat) = 3), if_neg (by decide : ¬ (1 : Nat) = 2), if_neg (by decide : ¬ (2 : Nat) = 4), if_neg (by decide : ¬ (2 : Nat) = 3), if_neg (by decide : ¬ (3 : Nat) = 4)] at g0 g1 g2 g3 g4
     have K5 : Kep (w.heap.size + 1) w6 (((((w6.setCell ⟨w.heap.size + 1, 0, none⟩ (.int .i64 er)).setCell ⟨w.heap.size + 1, 1, none⟩ (.int .i64 pl)).setCell ⟨w.heap.size + 1, 2, none⟩ (.slice ra tn rc)).setCell ⟨w.heap.size + 1, 3, none⟩ (.slice aa an ac)).setCell ⟨w.heap.size + 1, 4, none⟩ (.slice ca cn cc)) := ((((Kep.set _ 0 _ _).trans (Kep.set _ 1 _ _)).trans (Kep.set _ 2 _ _)).trans (Kep.set _ 3 _ _)).trans (Kep.set _ 4 _ _)
     have hrR : Kd.RowS w6 ra tn (roA m) := HR.out.below (keep_below hb5 hb6)
     have hrA : Row w6 aa an ls := (rowDr hra).below hb6
     have hzz := (keep_below HB2.out (keep_below HB4.out hb5)).size
     have hz2 := World.rowIs.lt HRZ.out
     have hz4 := (keep_below HB4.out hb5).size
     have hIs : VdV.Is w6 ⟨er, pl, ⟨ra, tn, rc⟩, ⟨aa, an, ac⟩, ⟨ca, cn, cc⟩⟩ (jdA m) := by
      rw [HJ.out]
      exact ⟨rfl, rfl, hrR, hrA, rowCr hrc⟩
     have hIs2 := hIs.kep K5 (rows_apart r6 hrR HN2.out) (ints_apart r6 hrA HN1.out) (fun _ p hp => by have := (hnc p hp).1; omega)
     have hb6' := keep_below (keep_below HB2.out HB4.out) (keep_below hb5 hb6)
     have hb9 := hb6'.trans (K5.below (Nat.le_succ _) hb6'.size)
     refine bodyPost_ret (v := .agg #[.int .i64 er, .int .i64 pl, .slice ra tn rc, .slice aa an ac, .slice ca cn cc]) (by simp [results, Tryz.results33, go_sem, g0, g1, g2, g3, g4]) rfl ?_
     exact ⟨_, rfl, hIs2, hb9, fun p hp => by have := (hnc p hp).1; omega⟩
theorem zero_is (w : World) (e p : Int) : VdV.Is w ⟨e, p, ⟨none, 0, 0⟩, ⟨none, 0, 0⟩, ⟨none, 0, 0⟩⟩ ⟨e, p, [], [], []⟩ := ⟨rfl, rfl, Kd.RowS.nil _ _, ⟨rfl, fun h => absurd h (Nat.lt_irrefl 0)⟩, ⟨rfl, fun h => absurd h (Nat.lt_irrefl 0)⟩⟩
theorem judge_any (x : ImV) (m : ImP) (w : World) (h : x.Is w m) (hN : Nms w) :
  Calls Tryz.prog 13 #[x.v] w fun e w' => ∃ t : VdV, e = .returned t.v ∧ t.Is w' (jdA m) ∧ Below w.heap.size w w' ∧ ∀ p, t.ce.a = some p → w.heap.size ≤ p.block := by
 obtain ⟨⟨at0, e0⟩, hr⟩ : ∃ r, allE m = r := ⟨_, rfl⟩
 have CA := Lib.hid (fun W (hb : Below w.heap.size w W) => all_any x m W (h.below hb) (hN.below hb) (at0, e0) hr)
 have e1 : (allE m).2 = e0 := by rw [hr]
 have e2 : (allE m).1 = at0 := by rw [hr]
 have CJ : Hid (e0 = 0 → ∀ W, Below w.heap.size w W → Calls Tryz.prog 33 #[TsV x] W fun e w' => ∃ t : VdV, e = .returned t.v ∧ t.Is w' (jdA m) ∧ Below W.heap.size W w' ∧ ∀ p, t.ce.a = some p → W.heap.size ≤ p.block) := fun h0 W hb => judgeT_any x m W (h.below hb) (hN.below hb) (by rw [e1]; exact h0)
 have HE : Hid (e0 ≠ 0 → jdA m = ⟨e0, at0, [], [], []⟩) := fun h0 => by rw [jd_no (by rw [e1]; exact h0), e1, e2]
 have HA : Hid (e0 = 0 → (∀ r ∈ (jdA m).ro, r.C ≠ 0) ∧ ∀ r ∈ (jdA m).re, r ≠ 0) := fun h0 => by
  have h1 : (allE m).2 = 0 := by rw [e1]; exact h0
  rw [jd_ok h1]
  exact ⟨slots_ne h1, resp_ne h1⟩
 clear hr e1 e2 h hN
 obtain ⟨sw, la, cm, inp, ⟨sa, sn, sc⟩, ⟨ba, bn, bc⟩, ⟨ta, tn, tc⟩⟩ := x
 simp only [ImV.v, TsV, Sl.v] at CA CJ ⊢
 have c0 := cells_new w #[.int .i64 sw, .int .i64 la, .int .i64 cm, .int .i64 inp, .slice sa sn sc, .slice ba bn bc, .slice ta tn tc] 26
 have b1 := below_alloc w (.cells #[.int .i64 sw, .int .i64 la, .int .i64 cm, .int .i64 inp, .slice sa sn sc, .slice ba bn bc, .slice ta tn tc] 26)
 have b2 := below_alloc (w.alloc (.cells #[.int .i64 sw, .int .i64 la, .int .i64 cm, .int .i64 inp, .slice sa sn sc, .slice ba bn bc, .slice ta tn tc] 26)) (.cells #[.int .i64 0, .int .i64 0, .slice none 0 0, .slice none 0 0, .slice none 0 0] 37)
 have HB2 := Lib.hid (keep_below b1 b2)
 have HC : Hid (∀ W, Below ((w.alloc (.cells #[.int .i64 sw, .int .i64 la, .int .i64 cm, .int .i64 inp, .slice sa sn sc, .slice ba bn bc, .slice ta tn tc] 26)).alloc (.cells #[.int .i64 0, .int .i64 0, .slice none 0 0, .slice none 0 0, .slice none 0 0] 37)).heap.size ((w.alloc (.cells #[.int .i64 sw, .int .i64 la, .int .i64 cm, .int .i64 inp, .slice sa sn sc, .slice ba bn bc, .slice ta tn tc] 26)).alloc (.cells #[.int .i64 0, .int .i64 0, .slice none 0 0, .slice none 0 0, .slice none 0 0] 37)) W → ∀ j v, (#[.int .i64 sw, .int .i64 la, .int .i64 cm, .int .i64 inp, .slice sa sn sc, .slice ba bn bc, .slice ta tn tc] : Array Value).toList[j]? = some v → W.cell? ⟨w.heap.size, j, none⟩ = some v) := fun W hW j v hj => keep_cell hW (keep_cell b2 (c0 j v hj))
 have RZ : Hid (((w.alloc (.cells #[.int .i64 sw, .int .i64 la, .int .i64 cm, .int .i64 inp, .slice sa sn sc, .slice ba bn bc, .slice ta tn tc] 26)).alloc (.cells #[.int .i64 0, .int .i64 0, .slice none 0 0, .slice none 0 0, .slice none 0 0] 37)).rowIs (w.heap.size + 1) 37 5 vdZ) := by
  have h1 := (rowIs_neu (w.alloc (.cells #[.int .i64 sw, .int .i64 la, .int .i64 cm, .int .i64 inp, .slice sa sn sc, .slice ba bn bc, .slice ta tn tc] 26)) #[.int .i64 0, .int .i64 0, .slice none 0 0, .slice none 0 0, .slice none 0 0] 37 5 rfl).congr (g := vdZ) (fun j hj => by
   match j, hj with
   | 0, _ => rfl
   | 1, _ => rfl
   | 2, _ => rfl
   | 3, _ => rfl
   | 4, _ => rfl)
  rw [show (w.alloc (.cells #[.int .i64 sw, .int .i64 la, .int .i64 cm, .int .i64 inp, .slice sa sn sc, .slice ba bn bc, .slice ta tn tc] 26)).heap.size = w.heap.size + 1 by simp] at h1
  exact h1
 clear b1 b2 c0
 by_cases z0 : e0 = 0
 ·subst z0
  have CJ2 := Lib.hid (CJ.out rfl)
  have HA2 := Lib.hid (HA.out rfl)
  clear HE CJ HA
  go_enter Tryz.func13, Tryz.ntmps13
  go_wp2_with (first
   | (go_at_call 31; refine (CA.out _ HB2.out).mono ?_; rintro e w1 ⟨rfl, hb1⟩; have bb := keep_below HB2.out hb1; have c0 := HC.out w1 hb1 0 _ rfl; have c1 := HC.out w1 hb1 1 _ rfl; have c2 := HC.out w1 hb1 2 _ rfl; have c3 := HC.out w1 hb1 3 _ rfl; have c4 := HC.out w1 hb1 4 _ rfl; have c5 := HC.out w1 hb1 5 _ rfl; have c6 := HC.out w1 hb1 6 _ rfl)
   | (go_at_call 33; refine (CJ2.out w1 bb).mono ?_; rintro e w6 ⟨⟨er, pl, ⟨ra, rn, rc⟩, ⟨aa, an, ac⟩, ⟨ca, cn, cc⟩⟩, rfl, hIs, hb6, hnc⟩; simp only [VdV.v, Sl.v]; have r6 := World.rowIs.of_block (World.rowIs.of_block RZ.out (hb1.block _ (World.rowIs.lt RZ.out))) (hb6.block _ (Nat.lt_of_lt_of_le (World.rowIs.lt RZ.out) hb1.size)); have z0 := World.rowIs.cell r6 (i := 0) (by omega); have z1 := World.rowIs.cell r6 (i := 1) (by omega); have z2 := World.rowIs.cell r6 (i := 2) (by omega); have z3 := World.rowIs.cell r6 (i := 3) (by omega); have z4 := World.rowIs.cell r6 (i := 4) (by omega); have f0 := World.rowIs.frozen r6 0; have f1 := World.rowIs.frozen r6 1; have f2 := World.rowIs.frozen r6 2; have f3 := World.rowIs.frozen r6 3; have f4 := World.rowIs.frozen r6 4))
  have s5 := ((((r6.set 0 (.int .i64 er)).set 1 (.int .i64 pl)).set 2 (.slice ra rn rc)).set 3 (.slice aa an ac)).set 4 (.slice ca cn cc)
  have g0 := World.rowIs.cell s5 (i := 0) (by omega)
  have g1 := World.rowIs.cell s5 (i := 1) (by omega)
  have g2 := World.rowIs.cell s5 (i := 2) (by omega)
  have g3 := World.rowIs.cell s5 (i := 3) (by omega)
  have g4 := World.rowIs.cell s5 (i := 4) (by omega)
  simp only [if_true, if_neg (by decide : ¬ (0 : Nat) = 4), if_neg (by decide : ¬ (0 : Nat) = 3), if_neg (by decide : ¬ (0 : Nat) = 2), if_neg (by decide : ¬ (0 : Nat) = 1), if_neg (by decide : ¬ (1 : Nat) = 4), if_neg (by decide : ¬ (1 : Nat) = 3), if_neg (by decide : ¬ (1 : Nat) = 2), if_neg (by decide : ¬ (2 : Nat) = 4), if_neg (by decide : ¬ (2 : Nat) = 3), if_neg (by decide : ¬ (3 : Nat) = 4)] at g0 g1 g2 g3 g4
  have K5 : Kep (w.heap.size + 1) w6 (((((w6.setCell ⟨w.heap.size + 1, 0, none⟩ (.int .i64 er)).setCell ⟨w.heap.size + 1, 1, none⟩ (.int .i64 pl)).setCell ⟨w.heap.size + 1, 2, none⟩ (.slice ra rn rc)).setCell ⟨w.heap.size + 1, 3, none⟩ (.slice aa an ac)).setCell ⟨w.heap.size + 1, 4, none⟩ (.slice ca cn cc)) := ((((Kep.set _ 0 _ _).trans (Kep.set _ 1 _ _)).trans (Kep.set _ 2 _ _)).trans (Kep.set _ 3 _ _)).trans (Kep.set _ 4 _ _)
  have hz2 := World.rowIs.lt RZ.out
  have hz1 := hb1.size
  have hIs2 := hIs.kep K5 (rows_apart r6 hIs.2.2.1 HA2.out.1) (ints_apart r6 hIs.2.2.2.1 HA2.out.2) (fun _ p hp => by have := hnc p hp; omega)
  have hb6' := keep_below bb hb6
  have hb9 := hb6'.trans (K5.below (Nat.le_succ _) hb6'.size)
  refine bodyPost_ret (v := .agg #[.int .i64 er, .int .i64 pl, .slice ra rn rc, .slice aa an ac, .slice ca cn cc]) (by simp [results, Tryz.results13, go_sem, g0, g1, g2, g3, g4]) rfl ?_
  exact ⟨_, rfl, hIs2, hb9, fun p hp => by have := hnc p hp; have := bb.size; omega⟩
 ·have e1 : (e0 == 0) = false := by simpa using z0
  have e2 : (e0 != 0) = true := by simpa using z0
  have HE2 := Lib.hid (HE.out z0)
  clear CJ HA z0 HC HE
  go_enter Tryz.func13, Tryz.ntmps13
  go_wp2_with (go_at_call 31; refine (CA.out _ HB2.out).mono ?_; rintro e w6 ⟨rfl, hb1⟩; have bb := keep_below HB2.out hb1; have r6 := World.rowIs.of_block RZ.out (hb1.block _ (World.rowIs.lt RZ.out)); have z0 := World.rowIs.cell r6 (i := 0) (by omega); have z1 := World.rowIs.cell r6 (i := 1) (by omega); have z2 := World.rowIs.cell r6 (i := 2) (by omega); have z3 := World.rowIs.cell r6 (i := 3) (by omega); have z4 := World.rowIs.cell r6 (i := 4) (by omega); have f0 := World.rowIs.frozen r6 0; have f1 := World.rowIs.frozen r6 1; have f2 := World.rowIs.frozen r6 2; have f3 := World.rowIs.frozen r6 3; have f4 := World.rowIs.frozen r6 4)
  have s5 := ((((r6.set 0 (.int .i64 e0)).set 1 (.int .i64 at0)).set 2 (.slice none 0 0)).set 3 (.slice none 0 0)).set 4 (.slice none 0 0)
  have g0 := World.rowIs.cell s5 (i := 0) (by omega)
  have g1 := World.rowIs.cell s5 (i := 1) (by omega)
  have g2 := World.rowIs.cell s5 (i := 2) (by omega)
  have g3 := World.rowIs.cell s5 (i := 3) (by omega)
  have g4 := World.rowIs.cell s5 (i := 4) (by omega)
  simp only [if_true, if_neg (by decide : ¬ (0 : Nat) = 4), if_neg (by decide : ¬ (0 : Nat) = 3), if_neg (by decide : ¬ (0 : Nat) = 2), if_neg (by decide : ¬ (0 : Nat) = 1), if_neg (by decide : ¬ (1 : Nat) = 4), if_neg (by decide : ¬ (1 : Nat) = 3), if_neg (by decide : ¬ (1 : Nat) = 2), if_neg (by decide : ¬ (2 : Nat) = 4), if_neg (by decide : ¬ (2 : Nat) = 3), if_neg (by decide : ¬ (3 : Nat) = 4)] at g0 g1 g2 g3 g4
  have K5 : Kep (w.heap.size + 1) w6 (((((w6.setCell ⟨w.heap.size + 1, 0, none⟩ (.int .i64 e0)).setCell ⟨w.heap.size + 1, 1, none⟩ (.int .i64 at0)).setCell ⟨w.heap.size + 1, 2, none⟩ (.slice none 0 0)).setCell ⟨w.heap.size + 1, 3, none⟩ (.slice none 0 0)).setCell ⟨w.heap.size + 1, 4, none⟩ (.slice none 0 0)) := ((((Kep.set _ 0 _ _).trans (Kep.set _ 1 _ _)).trans (Kep.set _ 2 _ _)).trans (Kep.set _ 3 _ _)).trans (Kep.set _ 4 _ _)
  have hb9 := bb.trans (K5.below (Nat.le_succ _) bb.size)
  refine bodyPost_ret (v := .agg #[.int .i64 e0, .int .i64 at0, .slice none 0 0, .slice none 0 0, .slice none 0 0]) (by simp [results, Tryz.results13, go_sem, g0, g1, g2, g3, g4]) rfl ?_
  exact ⟨⟨e0, at0, ⟨none, 0, 0⟩, ⟨none, 0, 0⟩, ⟨none, 0, 0⟩⟩, rfl, by rw [HE2.out]; exact zero_is _ _ _, hb9, fun p hp => by cases hp⟩
end Go.Proofs.YtngehojibcmieaaGreatDoor
end
