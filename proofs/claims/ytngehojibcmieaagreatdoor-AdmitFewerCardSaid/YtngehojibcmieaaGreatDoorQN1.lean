/- What is proved here: what strings.Builder's WriteString leaves alone; image.putNumbers. Conditions: the builder is the call's own, and its bytes are few. contracts of image.putTask and image.Encode. Conditions: the image can be, and its numbers fit 64 bits; the tables hold what their initialisers lay. the contract of image.Encode. -/
import Derived.Test.YtngehojibcmieaaGreatDoorQB4
import Derived.Test.YtngehojibcmieaaGreatDoorQD1
import Derived.Test.YtngehojibcmieaaGreatDoorQC9
set_option maxRecDepth 100000
set_option maxHeartbeats 8000000
section
namespace Go.Proofs.YtngehojibcmieaaGreatDoor
open Go.ChangeShapes Go.WideShapes Go.RowKit
structure Wrt (b : Nat) (w w' : World) : Prop where
 size : w.heap.size ≤ w'.heap.size
 block : ∀ i cs t fr, i ≠ b → w.heap[i]? = some (.cells cs t fr) → t ≠ 5 → w'.heap[i]? = some (.cells cs t fr)
theorem Wrt.refl (b : Nat) (w : World) : Wrt b w w := ⟨Nat.le_refl _, fun _ _ _ _ _ h _ => h⟩
theorem Wrt.trans {b : Nat} {w w' w'' : World} (h : Wrt b w w') (h' : Wrt b w' w'') : Wrt b w w'' := ⟨Nat.le_trans h.size h'.size, fun i cs t fr hi h1 h2 => h'.block i cs t fr hi (h.block i cs t fr hi h1 h2) h2⟩
theorem Wrt.set (b j : Nat) (v : Value) (w : World) : Wrt b w (w.setCell ⟨b, j, none⟩ v) := ⟨by simp [World.setCell], fun i _ _ _ hi h _ => (Go.Deep.blk_setCell_other _ _ _ _ hi).trans h⟩
theorem lt_of_cells {w : World} {i : Nat} {o : Obj} (h : w.heap[i]? = some o) : i < w.heap.size := by
 rcases Nat.lt_or_ge i w.heap.size with h1 | h1
 ·exact h1
 ·rw [Array.getElem?_eq_none h1] at h; cases h
theorem Wrt.below {b : Nat} {w w' : World} (h : Below w.heap.size w w') : Wrt b w w' := ⟨h.size, fun i _ _ _ _ h1 _ => (h.block i (lt_of_cells h1)).trans h1⟩
def Bld (B b : Nat) (l : List UInt8) (w : World) : Prop := Lib.IsBuilder 106 5 B b (Lib.byteCells l) w
theorem check2_any (B b : Nat) (xs : List Value) (w : World) (h : Lib.IsBuilder 106 5 B b xs w) :
  Calls Tryz.prog 101 #[.pointer (some ⟨b, 0, none⟩)] w fun e w' => e = .returned (.tuple #[]) ∧ (Lib.BuilderAt 106 5 B b (.pointer (some ⟨b, 0, none⟩)) xs w' ∧ Below B w w' ∧ Wrt b w w') := by
 rcases h with h | h
 ·refine (Kb.check_fresh b w h.cell0 h.shape h.frozen0).mono ?_
  rintro e w' ⟨rfl, rfl⟩
  exact ⟨rfl, h.used _, (Below.refl B w).setCell (p := ⟨b, 0, none⟩) h.1 _, Wrt.set _ _ _ _⟩
 ·refine (Kb.check_used b w h.cell0).mono ?_
  rintro e w' ⟨rfl, rfl⟩
  exact ⟨rfl, h, Below.refl B _, Wrt.refl _ _⟩
theorem write2_any (B b : Nat) (xs : List Value) (s : ByteArray) (w : World) (h : Lib.IsBuilder 106 5 B b xs w) (hlen : xs.length + s.size ≤ 140737488355328) (hBw : B ≤ w.heap.size) :
  Calls Tryz.prog 53 #[.pointer (some ⟨b, 0, none⟩), .string s] w fun e w' => e = .returned (.tuple #[.int .i64 s.size, .nilIface]) ∧ (Lib.BuilderAt 106 5 B b (.pointer (some ⟨b, 0, none⟩)) (xs ++ Lib.strCells s) w' ∧ Below B w w' ∧ Wrt b w w') := by
 obtain ⟨i0, hi, hz0, hz1, hz2⟩ := info_parts Kb.u8_info
 go_enter Tryz.func53, Tryz.ntmps53
 go_wp2_with (go_at_call 101; refine (check2_any B b xs _ h).mono ?_)
 rintro e w1 ⟨rfl, h1, hb1, hk1⟩
 obtain ⟨hB, v, hbk, hown, hne⟩ := h1
 have c0 : w1.cell? ⟨b, 0, none⟩ = some (.pointer (some ⟨b, 0, none⟩)) := by rw [Lib.cell_of_heap hbk]; rfl
 have c1 : w1.cell? ⟨b, 1, none⟩ = some v := by rw [Lib.cell_of_heap hbk]; rfl
 go_wp2_with (at_builtin; refine Lib.wpList_append_own_string _ rfl _ _ 85 9 rfl B 5 i0 Tryz.underlying85 Tryz.underlying9 hi hz0 hz1 hz2 _ _ _ rfl hown s rfl ?c3 ?c4 ?c5 ?_)
 case c3 => unfold maxLen; omega
 case c4 => omega
 case c5 => have := hb1.size; omega
 intro v' w2 hown' hgrow _
 have hlt : b < w1.heap.size := by
  rcases Nat.lt_or_ge b w1.heap.size with h' | h'
  ·exact h'
  ·simp [Array.getElem?_eq_none h'] at hbk
 have hb2 : w2.heap[b]? = some (.cells #[.pointer (some ⟨b, 0, none⟩), v] 106 (0, 0)) := by
  rw [hgrow.block b hlt (fun e => hne e.symm)]
  exact hbk
 have hk2 : Wrt b w1 w2 := ⟨hgrow.size, fun i _ _ _ _ h1 h2 => (hgrow.block i (lt_of_cells h1) (fun e => Lib.ownBlock_ne hown h1 h2 e.symm)).trans h1⟩
 have d0 : w2.cell? ⟨b, 0, none⟩ = some (.pointer (some ⟨b, 0, none⟩)) := by rw [Lib.cell_of_heap hb2]; rfl
 have d1 : w2.cell? ⟨b, 1, none⟩ = some v := by rw [Lib.cell_of_heap hb2]; rfl
 have f1 : w2.frozen? ⟨b, 1, none⟩ = false := Lib.frozen_of_heap hb2 1
 obtain ⟨ao, n', cap, rfl⟩ : ∃ ao n' cap, v' = .slice ao n' cap := by
  rcases hown'.2 with ⟨hv, _⟩ | ⟨g, cap, cur, hv, _⟩
  ·exact ⟨_, _, _, hv⟩
  ·exact ⟨_, _, _, hv⟩
 have HK := Lib.hid (hk1.trans hk2)
 clear hk1 hk2
 go_wp2
 go_ret2
 refine ⟨rfl, ?_, ?_, HK.out.trans (Wrt.set _ _ _ _)⟩
 ·exact Lib.BuilderAt.put (T := 106) (e := 5) hB hb2 (bs' := xs ++ Lib.strCells s) (by simpa [Lib.strCells_length] using hown') (by decide)
 ·exact (hb1.grown hgrow (by have := hb1.size; omega) (fun k hk => (hown.lt k hk).1)).setCell (p := ⟨b, 1, none⟩) hB _
theorem bld_write (B b : Nat) (l : List UInt8) (m : List UInt8) (s : ByteArray) (hs : s = bs m) (w : World) (h : Bld B b l w) (hlen : l.length + m.length ≤ 1000000) (hBw : B ≤ w.heap.size) :
  Calls Tryz.prog 53 #[.pointer (some ⟨b, 0, none⟩), .string s] w fun e w' => (∃ v, e = .returned v) ∧ Bld B b (l ++ m) w' ∧ Below B w w' ∧ Wrt b w w' := by
 subst hs
 refine (write2_any B b _ (bs m) w h (by rw [Lib.byteCells_length, bs_size]; omega) hBw).mono ?_
 rintro e w' ⟨rfl, h1, h2, h3⟩
 refine ⟨⟨_, rfl⟩, Or.inr ?_, h2, h3⟩
 rw [Lib.byteCells_append, ← bs_list m]
 exact h1
theorem Bld.below {B b : Nat} {l : List UInt8} {w w' : World} (h : Bld B b l w) (hb : Below w.heap.size w w') : Bld B b l w' := Kb.builder_below h hb
def FitsA (l : List Int) : Prop := ∀ x ∈ l, Kb.Fits x
theorem FitsA.getD {l : List Int} (h : FitsA l) : Kb.FitsL l := fun i => by
 rw [List.getD_eq_getElem?_getD]
 cases e : l[i]? with
 | none => exact ⟨by decide, by decide⟩
 | some x => exact h x (List.mem_of_getElem? e)
def putsL (l : List Int) : List UInt8 := l.flatMap fun n => Kb.enc (Kb.turn n)
theorem putsL_len {l : List Int} (h : FitsA l) : (putsL l).length ≤ 10 * l.length := by
 induction l with
 | nil => exact Nat.zero_le _
 | cons x l ih =>
  have h1 := ih fun y hy => h y (List.mem_cons_of_mem _ hy)
  have h2 := Kb.enc_ten (Kb.turn_fits (h x (List.mem_cons_self ..)))
  unfold putsL at h1 ⊢
  rw [List.flatMap_cons, List.length_append, List.length_cons]
  omega
theorem putsL_snoc {l : List Int} {k : Nat} {x : Int} (h : l[k]? = some x) : putsL (l.take (k + 1)) = putsL (l.take k) ++ Kb.enc (Kb.turn x) := by
 unfold putsL
 rw [List.take_add_one, h, List.flatMap_append]; simp
theorem putNumbers_any (B b v c : Nat) (l0 : List UInt8) (cs : Array Value) (l : List Int) (w : World) (h : Bld B b l0 w) (hBw : B ≤ w.heap.size) (hlen : l0.length ≤ 900000) (hl4 : l.length ≤ 1000) (hF : FitsA l) (hv : v ≠ b)
  (hb : w.heap[v]? = some (.cells cs 3 (0, 0))) (hcs : cs.toList = l.map (Value.int .i64)) :
  Calls Tryz.prog 54 #[.pointer (some ⟨b, 0, none⟩), .slice (some ⟨v, 0, none⟩) l.length c] w fun e w' => (∃ v, e = .returned v) ∧ Bld B b (l0 ++ putsL l) w' ∧ Below B w w' ∧ Wrt b w w' := by
 have H := Lib.hid h
 have HF := Lib.hid hF
 have HB := Lib.hid hb
 have HCS := Lib.hid hcs
 obtain ⟨n, hn⟩ : ∃ n, n = l.length := ⟨_, rfl⟩
 rw [← hn] at hl4 ⊢
 have HN := Lib.hid hn
 clear h hF hb hcs hn
 go_enter Tryz.func54, Tryz.ntmps54
 go_wp2
 go_loopw [8] (fun i wr => ∃ k : Nat, k ≤ n ∧ i = .int .i64 k ∧ Hid (Bld B b (l0 ++ putsL (l.take k)) wr) ∧ Below B w wr ∧ Hid (Wrt b w wr)) (fun i _ => n - (intOf i).toNat)
 case atStart => exact ⟨0, by omega, rfl, by show Bld _ _ _ _; rw [List.take_zero]; show Bld B b (l0 ++ []) w; rw [List.append_nil]; exact H.out, Below.refl _ _, Wrt.refl _ _⟩
 case round =>
  obtain ⟨k, hk, rfl, HD, hbl, HW⟩ := hrel
  have HV : Hid (wr.heap[v]? = some (.cells cs 3 (0, 0))) := HW.out.block v cs _ _ hv HB.out (by decide)
  by_cases hlt : k < n
  ·have hkl : k < l.length := by rw [← HN.out]; exact hlt
   obtain ⟨x, hx⟩ : ∃ x, l[k]? = some x := ⟨_, List.getElem?_eq_getElem hkl⟩
   have hcx : wr.cell? ⟨v, k, none⟩ = some (.int .i64 x) := by
    rw [Lib.cell_of_heap HV.out, ← Array.getElem?_toList, HCS.out, List.getElem?_map, hx]; rfl
   have hfx : Kb.Fits x := HF.out x (List.mem_of_getElem? hx)
   have CP := Lib.hid (Kb.put_any x hfx wr)
   have hsz := hbl.size
   have HE := Lib.hid (putsL_snoc hx)
   have hl1 : (putsL (l.take k)).length ≤ 10000 := by
    have := putsL_len (l := l.take k) (fun y hy => HF.out y (List.mem_of_mem_take hy))
    have h2 := List.length_take_le k l
    omega
   have hl2 := Kb.enc_ten (Kb.turn_fits hfx)
   have i1 : (0 : Int) ≤ (k : Int) := by omega
   have i2 : (k : Int) < (n : Int) := by omega
   clear hx hfx hkl
   go_wp2_with (first
    | (go_at_call 102; refine CP.out.mono ?_; rintro e w1 ⟨rfl, hb1⟩; have hw1 := hb1.size)
    | (go_at_call 53; refine (bld_write B b _ (Kb.enc (Kb.turn x)) _ rfl w1 (HD.out.below hb1) (by rw [List.length_append]; omega) (by omega)).mono ?_; rintro e w2 ⟨⟨v2, rfl⟩, HD2, hb2, hk2⟩; have HD3 := Lib.hid HD2))
   have hbe := hbl.trans ((hb1.mono (by omega)).trans hb2)
   have HW2 := Lib.hid (HW.out.trans ((Wrt.below (b := b) hb1).trans hk2))
   clear HD HV HW HD2 hb1 hb2 hk2 CP
   go_wp2
   go_roundw
   case rel => exact ⟨k + 1, by omega, by go_num, (by show Bld B b _ _; rw [HE.out, ← List.append_assoc]; exact HD3.out), hbe, HW2⟩
   case measure => simp [intOf]; omega
  ·have hkn : k = n := by omega
   have HR : Hid (Bld B b (l0 ++ putsL l) wr) := by
    have := HD.out
    rw [hkn, HN.out, List.take_length] at this
    exact this
   go_wp2
   go_end0
   exact ⟨⟨_, rfl⟩, HR.out, hbl, HW.out⟩
theorem bld_lt {B b : Nat} {l : List UInt8} {w : World} (h : Bld B b l w) : b < w.heap.size := by
 rcases h with h | h
 ·exact h.lt
 ·exact h.lt
theorem alloc_below (w : World) (o : Obj) : Below w.heap.size w (w.alloc o) := (Below.refl _ _).alloc (Nat.le_refl _) o
theorem putN4 (B b : Nat) (l0 : List UInt8) (a1 a2 a3 a4 : Int) (w : World) (h : Bld B b l0 w) (hBw : B ≤ w.heap.size) (hlen : l0.length ≤ 900000) (hF : FitsA [a1, a2, a3, a4]) :
  Calls Tryz.prog 54 #[.pointer (some ⟨b, 0, none⟩), .slice (some ⟨w.heap.size, 0, none⟩) 4 4] (w.alloc (.cells #[.int .i64 a1, .int .i64 a2, .int .i64 a3, .int .i64 a4] 3)) fun e w' => (∃ v, e = .returned v) ∧ Bld B b (l0 ++ putsL [a1, a2, a3, a4]) w' ∧ Below B w w' ∧ Wrt b w w' := by
 have hA := alloc_below w (.cells #[.int .i64 a1, .int .i64 a2, .int .i64 a3, .int .i64 a4] 3)
 refine (putNumbers_any B b w.heap.size 4 l0 #[.int .i64 a1, .int .i64 a2, .int .i64 a3, .int .i64 a4] [a1, a2, a3, a4] _ (h.below hA) (by simp; omega) hlen (by simp) hF (by have := bld_lt h; omega) (Go.Deep.blk_alloc_new _ _) rfl).mono ?_
 rintro e w' ⟨h1, h2, h3, h4⟩
 exact ⟨h1, h2, (hA.mono hBw).trans h3, (Wrt.below hA).trans h4⟩
theorem putN1 (B b : Nat) (l0 : List UInt8) (a1 : Int) (w : World) (h : Bld B b l0 w) (hBw : B ≤ w.heap.size) (hlen : l0.length ≤ 900000) (hF : FitsA [a1]) :
  Calls Tryz.prog 54 #[.pointer (some ⟨b, 0, none⟩), .slice (some ⟨w.heap.size, 0, none⟩) 1 1] (w.alloc (.cells #[.int .i64 a1] 3)) fun e w' => (∃ v, e = .returned v) ∧ Bld B b (l0 ++ putsL [a1]) w' ∧ Below B w w' ∧ Wrt b w w' := by
 have hA := alloc_below w (.cells #[.int .i64 a1] 3)
 refine (putNumbers_any B b w.heap.size 1 l0 #[.int .i64 a1] [a1] _ (h.below hA) (by simp; omega) hlen (by simp) hF (by have := bld_lt h; omega) (Go.Deep.blk_alloc_new _ _) rfl).mono ?_
 rintro e w' ⟨h1, h2, h3, h4⟩
 exact ⟨h1, h2, (hA.mono hBw).trans h3, (Wrt.below hA).trans h4⟩
def encT (t : TkP) : List UInt8 := putsL [t.pr, t.pe, t.de, t.ji] ++ (Kb.encL t.bl ++ (Kb.encL t.ou ++ (putsL [((Kb.cod t.co).length : Int)] ++ Kb.cod t.co)))
def encH (m : ImP) : List UInt8 := mark ++ (putsL [m.sw, m.la, m.cm, m.inp] ++ (Kb.encL m.safe ++ putsL [(m.blocks.length : Int)]))
def encM (m : ImP) : List UInt8 := encH m ++ (m.blocks.flatMap Kb.encL ++ (putsL [(m.tasks.length : Int)] ++ m.tasks.flatMap encT))
def encS (m : ImP) : List UInt8 := encM m ++ Kr.sb (encM m)
structure FitT (t : TkP) : Prop where
 num : FitsA [t.pr, t.pe, t.de, t.ji]
 bl : FitsA t.bl
 ou : FitsA t.ou
 co : Kb.AllFitI t.co
 lbl : t.bl.length ≤ 100
 lou : t.ou.length ≤ 100
theorem encL_len {l : List Int} (h : FitsA l) (hn : l.length ≤ 1000) : (Kb.encL l).length ≤ 10 * l.length + 10 := by
 have e : Kb.encL l = putsL ((l.length : Int) :: l) := by
  unfold Kb.encL Kb.encK putsL
  rw [List.take_length, List.flatMap_cons]
 have hF : FitsA ((l.length : Int) :: l) := fun x hx => by
  rcases List.mem_cons.1 hx with rfl | hx
  ·exact ⟨by omega, by omega⟩
  ·exact h x hx
 rw [e]
 have := putsL_len hF
 rw [List.length_cons] at this
 omega
theorem cod_len {L : List (Int × Int × Int)} (h : Kb.AllFitI L) : (Kb.cod L).length ≤ 4200 := by
 unfold Kb.cod
 split
 ·rename_i g
  have := Kb.flatI_len h
  omega
 ·exact Nat.zero_le _
theorem encT_len {t : TkP} (h : FitT t) : (encT t).length ≤ 7000 := by
 unfold encT
 have h1 := putsL_len h.num
 have h2 := encL_len h.bl (by have := h.lbl; omega)
 have h3 := encL_len h.ou (by have := h.lou; omega)
 have h4 := cod_len h.co
 have h5 := putsL_len (l := [((Kb.cod t.co).length : Int)]) (fun x hx => by
  obtain rfl := List.mem_singleton.1 hx
  exact ⟨by omega, by omega⟩)
 have := h.lbl
 have := h.lou
 simp only [List.length_append, List.length_cons, List.length_nil] at h1 h5 ⊢
 omega
theorem fits_one {n : Nat} (h : n ≤ 1000000) : FitsA [(n : Int)] := fun x hx => by
 obtain rfl := List.mem_singleton.1 hx
 exact ⟨by omega, by omega⟩
theorem one_cells {w : World} {x : Nat} {cs : Array Value} {t : TypeId} (h : w.heap[x]? = some (.cells cs t (0, 0))) (j : Nat) (v : Value) (hj : cs.toList[j]? = some v) : w.cell? ⟨x, j, none⟩ = some v := by
 rw [Lib.cell_of_heap h]; simpa using hj
theorem putTask_any (B b : Nat) (l0 : List UInt8) (t : TaV) (T : TkP) (w0 w : World) (hw : Below w0.heap.size w0 w) (ht : t.Is w0 T) (hB0 : w0.heap.size ≤ B) (h : Bld B b l0 w) (hBw : B ≤ w.heap.size) (hlen : l0.length ≤ 800000) (hF : FitT T) (hN : Nms w0) :
  Calls Tryz.prog 56 #[.pointer (some ⟨b, 0, none⟩), .agg #[.int .i64 t.pr, .int .i64 t.pe, .int .i64 t.de, .int .i64 t.ji, t.bl.v, t.ou.v, t.co.v]] w fun e w' => (∃ v, e = .returned v) ∧ Bld B b (l0 ++ encT T) w' ∧ Below B w w' ∧ Wrt b w w' := by
 obtain ⟨S, hS⟩ : ∃ S, S = Kb.cod T.co := ⟨_, rfl⟩
 obtain ⟨e1, e2, e3, e4, i5, i6, i7⟩ := ht
 have HE : Hid (l0 ++ encT T = ((((l0 ++ putsL [t.pr, t.pe, t.de, t.ji]) ++ Kb.encL T.bl) ++ Kb.encL T.ou) ++ putsL [(S.length : Int)]) ++ S) := by
  show _ = _
  rw [hS, e1, e2, e3, e4]
  unfold encT
  simp only [List.append_assoc]
 have hS1 : S.length ≤ 4200 := by rw [hS]; exact cod_len hF.co
 have C5 := Lib.hid (fun W (hb : Below w0.heap.size w0 W) => Kb.list_any t.bl.a t.bl.n t.bl.c T.bl W (i5.1.below hb) hF.bl.getD (by have := i5.1.1; have := hF.lbl; omega))
 have C6 := Lib.hid (fun W (hb : Below w0.heap.size w0 W) => Kb.list_any t.ou.a t.ou.n t.ou.c T.ou W (i6.1.below hb) hF.ou.getD (by have := i6.1.1; have := hF.lou; omega))
 have C7 := Lib.hid (fun W (hb : Below w0.heap.size w0 W) => (by have := Kb.code_any t.co.a t.co.n t.co.c T.co W (i7.1.below hb) hF.co (hN.below hb); rw [← hS] at this; exact this : Calls Tryz.prog 104 #[t.co.v] W fun e w' => e = .returned (.string (bs S)) ∧ Below W.heap.size W w'))
 have F1 : FitsA [t.pr, t.pe, t.de, t.ji] := by rw [e1, e2, e3, e4]; exact hF.num
 have FS := fits_one (n := S.length) (by omega)
 have L1 := putsL_len F1
 have L2 := encL_len hF.bl (by have := hF.lbl; omega)
 have L3 := encL_len hF.ou (by have := hF.lou; omega)
 have L4 := hF.lbl
 have L5 := hF.lou
 have LS := putsL_len FS
 simp only [List.length_cons, List.length_nil] at L1 LS
 obtain ⟨pr, pe, de, ji, ⟨xa, xn, xc⟩, ⟨oa, on, oc⟩, ⟨ca, cn, cc⟩⟩ := t
 simp only [Sl.v] at C5 C6 C7 HE F1 L1 ⊢
 have hsl : (bs S).size = S.length := bs_size S
 have A0 := Lib.hid (alloc_below w (.cells #[.int .i64 pr, .int .i64 pe, .int .i64 de, .int .i64 ji, .slice xa xn xc, .slice oa on oc, .slice ca cn cc] 59))
 have hX : (w.alloc (.cells #[.int .i64 pr, .int .i64 pe, .int .i64 de, .int .i64 ji, .slice xa xn xc, .slice oa on oc, .slice ca cn cc] 59)).heap[w.heap.size]? = some (.cells #[.int .i64 pr, .int .i64 pe, .int .i64 de, .int .i64 ji, .slice xa xn xc, .slice oa on oc, .slice ca cn cc] 59 (0, 0)) := Go.Deep.blk_alloc_new _ _
 have hxb : w.heap.size ≠ b := by have := bld_lt h; omega
 have HX := Lib.hid hX
 have D0 := Lib.hid (h.below A0.out)
 have hz0 := A0.out.size
 have PN := putN4 B b l0 pr pe de ji _ D0.out (by omega) (by omega) F1
 rw [show (w.alloc (.cells #[.int .i64 pr, .int .i64 pe, .int .i64 de, .int .i64 ji, .slice xa xn xc, .slice oa on oc, .slice ca cn cc] 59)).heap.size = w.heap.size + 1 by simp] at PN
 have PN := Lib.hid PN
 have HW0 := Lib.hid (hw.trans (A0.out.mono (by omega)))
 have c0 := one_cells hX 0 _ rfl
 have c1 := one_cells hX 1 _ rfl
 have c2 := one_cells hX 2 _ rfl
 have c3 := one_cells hX 3 _ rfl
 obtain ⟨R1, q1⟩ : ∃ R, R = putsL [pr, pe, de, ji] := ⟨_, rfl⟩
 obtain ⟨R2, q2⟩ : ∃ R, R = Kb.encL T.bl := ⟨_, rfl⟩
 obtain ⟨R3, q3⟩ : ∃ R, R = Kb.encL T.ou := ⟨_, rfl⟩
 obtain ⟨R4, q4⟩ : ∃ R, R = putsL [(S.length : Int)] := ⟨_, rfl⟩
 rw [← q1] at PN HE L1
 rw [← q2] at C5 HE L2
 rw [← q3] at C6 HE L3
 rw [← q4] at HE LS
 have Q4 := Lib.hid q4
 clear h hX hN hw hS hF i5 i6 i7 e1 e2 e3 e4 q1 q2 q3 q4 F1
 go_enter Tryz.func56, Tryz.ntmps56
 go_wp2_with (go_at_call 54; refine PN.out.mono ?_)
 rintro e w1 ⟨⟨v1, rfl⟩, HD1, hb1, hk1⟩
 have hz1 := hb1.size
 have HX1 := hk1.block w.heap.size _ _ _ hxb HX.out (by decide)
 have d4 := one_cells HX1 4 _ rfl
 have HW1 := HW0.out.trans (hb1.mono hB0)
 clear c0 c1 c2 c3
 go_wp2_with (go_at_call 55; refine (C5.out _ HW1).mono ?_)
 rintro e w2 ⟨rfl, hb2⟩
 have hz2 := hb2.size
 go_wp2_with (go_at_call 53; refine (bld_write B b _ R2 _ rfl w2 (HD1.below hb2) (by rw [List.length_append]; omega) (by omega)).mono ?_)
 rintro e w3 ⟨⟨v3, rfl⟩, HD3, hb3, hk3⟩
 have hz3 := hb3.size
 have HX3 := ((Wrt.below (b := b) hb2).trans hk3).block w.heap.size _ _ _ hxb HX1 (by decide)
 have d5 := one_cells HX3 5 _ rfl
 have HW3 := HW1.trans ((hb2.mono (by omega)).trans (hb3.mono hB0))
 clear d4
 go_wp2_with (go_at_call 55; refine (C6.out _ HW3).mono ?_)
 rintro e w4 ⟨rfl, hb4⟩
 have hz4 := hb4.size
 go_wp2_with (go_at_call 53; refine (bld_write B b _ R3 _ rfl w4 (HD3.below hb4) (by rw [List.length_append, List.length_append]; omega) (by omega)).mono ?_)
 rintro e w5 ⟨⟨v5, rfl⟩, HD5, hb5, hk5⟩
 have hz5 := hb5.size
 have HX5 := ((Wrt.below (b := b) hb4).trans hk5).block w.heap.size _ _ _ hxb HX3 (by decide)
 have d6 := one_cells HX5 6 _ rfl
 have HW5 := HW3.trans ((hb4.mono (by omega)).trans (hb5.mono hB0))
 clear d5
 go_wp2_with (go_at_call 104; refine (C7.out _ HW5).mono ?_)
 rintro e w6 ⟨rfl, hb6⟩
 have hz6 := hb6.size
 have HD6 := HD5.below hb6
 have PM := putN1 B b _ (S.length : Int) w6 HD6 (by omega) (by rw [List.length_append, List.length_append, List.length_append]; omega) FS
 rw [← Q4.out] at PM
 go_wp2_with (go_at_call 54; refine PM.mono ?_)
 rintro e w7 ⟨⟨v7, rfl⟩, HD7, hb7, hk7⟩
 have hz7 := hb7.size
 go_wp2_with (go_at_call 53; refine (bld_write B b _ S _ rfl w7 HD7 (by rw [List.length_append, List.length_append, List.length_append, List.length_append]; omega) (by omega)).mono ?_)
 rintro e w8 ⟨⟨v8, rfl⟩, HD8, hb8, hk8⟩
 go_wp2
 go_end0
 have K0 : Wrt b w (w.alloc (.cells #[.int .i64 pr, .int .i64 pe, .int .i64 de, .int .i64 ji, .slice xa xn xc, .slice oa on oc, .slice ca cn cc] 59)) := Wrt.below A0.out
 refine ⟨⟨_, rfl⟩, by rw [HE.out]; exact HD8, ?_, ?_⟩
 ·exact (((((((A0.out.mono hBw).trans hb1).trans (hb2.mono (by omega))).trans hb3).trans (hb4.mono (by omega))).trans hb5).trans (hb6.mono (by omega))).trans (hb7.trans hb8)
 ·exact (((((((K0.trans hk1).trans (Wrt.below hb2)).trans hk3).trans (Wrt.below hb4)).trans hk5).trans (Wrt.below hb6)).trans hk7).trans hk8
structure FitM (m : ImP) : Prop where
 ok : imE m = true
 num : FitsA [m.sw, m.la, m.cm, m.inp]
 safe : FitsA m.safe
 blocks : ∀ l ∈ m.blocks, FitsA l
 tasks : ∀ t ∈ m.tasks, FitT t
theorem below_cell {B : Nat} {W W' : World} {p : Addr} {v : Value} (hb : Below B W W') (hlt : p.block < B) (h : W.cell? p = some v) : W'.cell? p = some v := (hb.cell hlt).trans h
theorem flat_snoc {α : Type} {f : α → List UInt8} {L : List α} {k : Nat} {x : α} (h : L[k]? = some x) : (L.take (k + 1)).flatMap f = (L.take k).flatMap f ++ f x := by
 rw [List.take_add_one, h, List.flatMap_append]; simp
theorem flat_len {α : Type} {f : α → List UInt8} {c : Nat} : ∀ (L : List α), (∀ x ∈ L, (f x).length ≤ c) → (L.flatMap f).length ≤ c * L.length
 | [], _ => by simp
 | x :: L, h => by
  have h1 := h x (List.mem_cons_self ..)
  have h2 := flat_len L fun y hy => h y (List.mem_cons_of_mem _ hy)
  rw [List.flatMap_cons, List.length_append, List.length_cons, Nat.mul_add]
  omega
theorem encode_any (x : ImV) (m : ImP) (w : World) (h : x.Is w m) (hF : FitM m) (hN : Nms w) (hH : Kr.Hal w) :
  Calls Tryz.prog 26 #[x.v] w fun e w' => e = .returned (.string (bs (encS m))) ∧ Below w.heap.size w w' := by
 have RG := Lib.hid (fun W (hb : Below w.heap.size w W) => imRight_any x m W (h.below hb) (hN.below hb) true hF.ok)
 obtain ⟨_, s16, bE, tE'⟩ := imE_parts hF.ok
 obtain ⟨t1, t8, tks, _⟩ := tasksE_parts tE'
 have b8 : m.blocks.length ≤ 8 := by unfold blocksE at bE; simp only [Bool.and_eq_true, decide_eq_true_eq] at bE; exact bE.1
 have bl8 : ∀ l ∈ m.blocks, l.length ≤ 8 := fun l hl => by
  unfold blocksE at bE
  simp only [Bool.and_eq_true, List.all_eq_true] at bE
  have := inB_iff.1 (bE.2 l hl)
  omega
 have HBk : Hid (∀ k, k < x.blocks.n → ∃ b off a' n' c' l, x.blocks.a = some ⟨b, off, none⟩ ∧ b < w.heap.size ∧ m.blocks[k]? = some l ∧ w.cell? ⟨b, off + k, none⟩ = some (.slice a' n' c') ∧ Row w a' n' l ∧ n' ≤ 140737488355328) := fun k hk => h.2.2.2.2.2.1.1.item hk
 have HTk : Hid (∀ k, k < x.tasks.n → ∃ b off t T, x.tasks.a = some ⟨b, off, none⟩ ∧ b < w.heap.size ∧ m.tasks[k]? = some T ∧ TaV.Is w t T ∧ ∀ j v, t.cells[j]? = some v → w.cell? ⟨b, off + k * 7 + j, none⟩ = some v) := fun k hk => h.task hk
 have hbn : x.blocks.n = m.blocks.length := h.2.2.2.2.2.1.1.1
 have htn : x.tasks.n = m.tasks.length := h.2.2.2.2.2.2.1.1
 obtain ⟨q1, q2, q3, q4, q5, -, -⟩ := h
 have F1 : FitsA [x.sw, x.la, x.cm, x.inp] := by rw [q1, q2, q3, q4]; exact hF.num
 have HE : Hid (encH m = (mark ++ putsL [x.sw, x.la, x.cm, x.inp] ++ Kb.encL m.safe) ++ putsL [(x.blocks.n : Int)]) := by
  show _ = _
  rw [q1, q2, q3, q4, hbn]
  unfold encH
  simp only [List.append_assoc]
 have CS := Lib.hid (fun W (hb : Below w.heap.size w W) => Kb.list_any x.safe.a x.safe.n x.safe.c m.safe W (q5.1.below hb) hF.safe.getD (by have := q5.1.1; omega))
 have L1 := putsL_len F1
 have L2 := encL_len hF.safe (by omega)
 have FB := fits_one (n := x.blocks.n) (by omega)
 have FT := fits_one (n := x.tasks.n) (by omega)
 have L3 := putsL_len FB
 have L4 := putsL_len FT
 simp only [List.length_cons, List.length_nil] at L1 L3 L4
 obtain ⟨H, hH0⟩ : ∃ H, H = encH m := ⟨_, rfl⟩
 have HS : Hid (encM m = (H ++ m.blocks.flatMap Kb.encL ++ putsL [(x.tasks.n : Int)]) ++ m.tasks.flatMap encT) := by
  show _ = _
  rw [hH0, htn]
  unfold encM
  simp only [List.append_assoc]
 rw [← hH0] at HE
 have HF := Lib.hid hF
 have HBL := Lib.hid bl8
 have HNm := Lib.hid hN
 have HHa := Lib.hid hH
 obtain ⟨sw, la, cm, inp, ⟨sa, sn, sc⟩, ⟨ba, bn, bc⟩, ⟨ta, tn, tc⟩⟩ := x
 simp only [ImV.v, Sl.v] at RG HBk HTk hbn htn HE F1 CS L1 FB FT L3 L4 HS ⊢
 have C0 := Lib.hid (cells_new w #[.int .i64 sw, .int .i64 la, .int .i64 cm, .int .i64 inp, .slice sa sn sc, .slice ba bn bc, .slice ta tn tc] 26)
 have B0 := Lib.hid (below_alloc w (.cells #[.int .i64 sw, .int .i64 la, .int .i64 cm, .int .i64 inp, .slice sa sn sc, .slice ba bn bc, .slice ta tn tc] 26))
 obtain ⟨R1, p1⟩ : ∃ R, R = putsL [sw, la, cm, inp] := ⟨_, rfl⟩
 obtain ⟨R2, p2⟩ : ∃ R, R = Kb.encL m.safe := ⟨_, rfl⟩
 obtain ⟨R3, p3⟩ : ∃ R, R = putsL [(bn : Int)] := ⟨_, rfl⟩
 obtain ⟨R4, p4⟩ : ∃ R, R = putsL [(tn : Int)] := ⟨_, rfl⟩
 rw [← p1] at HE L1
 rw [← p2] at HE L2 CS
 rw [← p3] at HE L3
 rw [← p4] at HS L4
 have P1 := Lib.hid p1
 have P3 := Lib.hid p3
 have P4 := Lib.hid p4
 have HBN := Lib.hid hbn
 have HTN := Lib.hid htn
 have hbn8 : bn ≤ 8 := by omega
 have htn8 : tn ≤ 8 := by omega
 have HF1 := Lib.hid F1
 clear q1 q2 q3 q4 q5 hF hN hH hH0 bl8 bE tE' tks b8 t8 t1 p1 p2 p3 p4 hbn htn F1
 go_enter Tryz.func26, Tryz.ntmps26
 go_wp2_with (first
  | (go_at_call 44; refine (RG.out _ B0.out).mono ?_; rintro e w1 ⟨rfl, hb1⟩)
  | (go_at_call 53; refine (bld_write w1.heap.size w1.heap.size [] mark _ rfl _ (Or.inl ⟨Nat.le_refl _, .slice none 0 0, new_block w1 _, World.ownsRow_nil _ _ _ _, by simp [Value.ownBlock]⟩) (by show 0 + 4 ≤ 1000000; omega) (below_alloc w1 _).size).mono ?_))
 rintro e w2 ⟨⟨v2, rfl⟩, HD2, hb2, -⟩
 have hW1 := Lib.hid (keep_below B0.out hb1)
 have hlt : w.heap.size < w1.heap.size := by
  have := hb1.size
  have e : (w.alloc (.cells #[.int .i64 sw, .int .i64 la, .int .i64 cm, .int .i64 inp, .slice sa sn sc, .slice ba bn bc, .slice ta tn tc] 26)).heap.size = w.heap.size + 1 := by simp
  omega
 have HC1 : Hid (∀ j v, (#[.int .i64 sw, .int .i64 la, .int .i64 cm, .int .i64 inp, .slice sa sn sc, .slice ba bn bc, .slice ta tn tc] : Array Value).toList[j]? = some v → w1.cell? ⟨w.heap.size, j, none⟩ = some v) := fun j v hj => keep_cell hb1 (C0.out j v hj)
 clear C0 B0 RG
 have A1 := Lib.hid (below_alloc w1 (.cells #[.pointer none, .slice none 0 0] 106))
 rw [List.nil_append] at HD2
 have HB2 := Lib.hid (A1.out.trans hb2)
 obtain ⟨b, hb⟩ : ∃ b, b = w1.heap.size := ⟨_, rfl⟩
 have hz2 : w1.heap.size ≤ w2.heap.size := HB2.out.size
 clear hb2 A1 hb1
 rw [← hb] at HD2 hlt HB2 hz2 ⊢
 have hw1 : w.heap.size ≤ w1.heap.size := by omega
 have HBQ : Hid (b ≤ w1.heap.size) := by show b ≤ _; omega
 clear hb
 have HK : Hid (∀ W, Below b w1 W → (∀ j v, (#[.int .i64 sw, .int .i64 la, .int .i64 cm, .int .i64 inp, .slice sa sn sc, .slice ba bn bc, .slice ta tn tc] : Array Value).toList[j]? = some v → W.cell? ⟨w.heap.size, j, none⟩ = some v) ∧ Below w.heap.size w W) := fun W hW =>
  ⟨fun j v hj => below_cell hW hlt (HC1.out j v hj), hW1.out.trans (hW.mono (by omega))⟩
 clear HC1 hW1 hw1
 obtain ⟨k2, m2⟩ := HK.out w2 HB2.out
 have c0 := k2 0 _ rfl
 have c1 := k2 1 _ rfl
 have c2 := k2 2 _ rfl
 have c3 := k2 3 _ rfl
 have PN := putN4 b b mark sw la cm inp w2 HD2 hz2 (by show 4 ≤ 900000; omega) HF1.out
 rw [← P1.out] at PN
 have HPN := Lib.hid PN
 clear PN k2 m2
 go_wp2_with (go_at_call 54; refine HPN.out.mono ?_)
 rintro e w3 ⟨⟨v3, rfl⟩, HD3, hb3, -⟩
 have HB3 := Lib.hid (HB2.out.trans hb3)
 have hz3 : b ≤ w3.heap.size := by have := HB3.out.size; have := HBQ.out; omega
 obtain ⟨k3, m3⟩ := HK.out w3 HB3.out
 have d4 := k3 4 _ rfl
 clear c0 c1 c2 c3 HPN HB2 HD2 hb3 hz2
 go_wp2_with (go_at_call 55; refine (CS.out _ m3).mono ?_)
 rintro e w4 ⟨rfl, hb4⟩
 have HB4 := Lib.hid (HB3.out.trans (hb4.mono hz3))
 have hz4 : b ≤ w4.heap.size := by have := HB4.out.size; have := HBQ.out; omega
 go_wp2_with (go_at_call 53; refine (bld_write b b _ R2 _ rfl w4 (HD3.below hb4) (by rw [List.length_append]; show 4 + R1.length + _ ≤ _; omega) hz4).mono ?_)
 rintro e w5 ⟨⟨v5, rfl⟩, HD5, hb5, -⟩
 have HB5 := Lib.hid (HB4.out.trans hb5)
 have hz5 : b ≤ w5.heap.size := by have := HB5.out.size; have := HBQ.out; omega
 obtain ⟨k5, m5⟩ := HK.out w5 HB5.out
 have d5 := k5 5 _ rfl
 have PM := putN1 b b _ (bn : Int) w5 HD5 hz5 (by rw [List.length_append, List.length_append]; show 4 + R1.length + _ ≤ _; omega) FB
 rw [← P3.out, ← HE.out] at PM
 have HPM := Lib.hid PM
 clear d4 k3 m3 hb4 hb5 HD3 HB3 HB4 hz3 hz4 PM k5 m5 CS
 go_wp2_with (go_at_call 54; refine HPM.out.mono ?_)
 rintro e w6 ⟨⟨v6, rfl⟩, HD6, hb6, -⟩
 have HB6 := Lib.hid (HB5.out.trans hb6)
 obtain ⟨k6, m6⟩ := HK.out w6 HB6.out
 have d5 := k6 5 _ rfl
 have HlH : H.length ≤ 1000 := by rw [HE.out, List.length_append, List.length_append, List.length_append]; show 4 + R1.length + _ + _ ≤ _; omega
 have HD60 : Hid (Bld b b (H ++ (m.blocks.take 0).flatMap Kb.encL) w6) := by show Bld _ _ _ _; rw [List.take_zero]; show Bld b b (H ++ []) w6; rw [List.append_nil]; exact HD6
 clear k6 m6 HPM HB5 hb6 HD5 HD6 hz5
 go_wp2
 go_loopw [34] (fun i wr => ∃ k : Nat, k ≤ bn ∧ i = .int .i64 k ∧ Hid (Bld b b (H ++ (m.blocks.take k).flatMap Kb.encL) wr) ∧ Hid (Below b w1 wr)) (fun i _ => bn - (intOf i).toNat)
 case atStart => exact ⟨0, by omega, rfl, HD60, HB6⟩
 case round =>
  clear HD60 HB6
  obtain ⟨k, hk, rfl, HD, HB⟩ := hrel
  have hz := HB.out.size
  have hz7 : b ≤ wr.heap.size := by have := HBQ.out; omega
  obtain ⟨kk, mm⟩ := HK.out wr HB.out
  by_cases hlt2 : k < bn
  ·obtain ⟨b9, o9, a9, n9, c9, l9, rfl, hb9, hx9, hc9, hr9, hn9⟩ := HBk.out k hlt2
   have hml : l9 ∈ m.blocks := List.mem_of_getElem? hx9
   have h8 := HBL.out l9 hml
   have hFl := HF.out.blocks l9 hml
   have CL := Lib.hid (Kb.list_any a9 n9 c9 l9 wr (hr9.below mm) hFl.getD (by have := hr9.1; omega))
   have e9 := keep_cell mm hc9
   have LL := encL_len hFl (by omega)
   have HQ := Lib.hid (flat_snoc (f := Kb.encL) hx9)
   have LF : ((m.blocks.take k).flatMap Kb.encL).length ≤ 100 * (m.blocks.take k).length := flat_len _ fun y hy => by
    have hy2 := List.mem_of_mem_take hy
    have := encL_len (HF.out.blocks y hy2) (by have := HBL.out y hy2; omega)
    have := HBL.out y hy2
    omega
   have LT := List.length_take_le k m.blocks
   have i1 : (0 : Int) ≤ (k : Int) := by omega
   have i2 : (k : Int) < (bn : Int) := by omega
   have hbm : m.blocks.length ≤ 8 := by have := HBN.out; omega
   clear hr9 hc9 hx9 hml hFl kk mm
   go_wp2_with (go_at_call 55; refine CL.out.mono ?_)
   rintro e w8 ⟨rfl, hb8⟩
   have HB8 := Lib.hid (HB.out.trans (hb8.mono hz7))
   go_wp2_with (go_at_call 53; refine (bld_write b b _ (Kb.encL l9) _ rfl w8 (HD.out.below hb8) (by rw [List.length_append]; omega) (by have := hb8.size; omega)).mono ?_)
   rintro e w9 ⟨⟨v9, rfl⟩, HD9, hb9', -⟩
   have HB9 := Lib.hid (HB8.out.trans hb9')
   have HD9' : Hid (Bld b b (H ++ (m.blocks.take (k + 1)).flatMap Kb.encL) w9) := by show Bld _ _ _ _; rw [HQ.out, ← List.append_assoc]; exact HD9
   clear HD9 HD hb8 hb9' HB8 CL HB
   go_wp2
   go_roundw
   case rel => exact ⟨k + 1, by omega, by go_num, HD9', HB9⟩
   case measure => simp [intOf]; omega
  ·have HDb : Hid (Bld b b (H ++ m.blocks.flatMap Kb.encL) wr) := by
    have := HD.out
    rw [show k = bn by omega, HBN.out, List.take_length] at this
    exact this
   have LF : (m.blocks.flatMap Kb.encL).length ≤ 100 * m.blocks.length := flat_len _ fun y hy2 => by
    have := encL_len (HF.out.blocks y hy2) (by have := HBL.out y hy2; omega)
    have := HBL.out y hy2
    omega
   have hbm : m.blocks.length ≤ 8 := by have := HBN.out; omega
   have d6 := kk 6 _ rfl
   have PT := putN1 b b _ (tn : Int) wr HDb.out hz7 (by rw [List.length_append]; omega) FT
   rw [← P4.out] at PT
   have HPT := Lib.hid PT
   obtain ⟨H2, h2⟩ : ∃ H2, H2 = H ++ m.blocks.flatMap Kb.encL ++ R4 := ⟨_, rfl⟩
   rw [← h2] at HPT HS
   have hH2 : H2.length ≤ 3000 := by rw [h2, List.length_append, List.length_append]; omega
   have d5 := kk 5 _ rfl
   clear PT HD HDb kk mm h2
   go_wp2_with (go_at_call 54; refine HPT.out.mono ?_)
   rintro e wa ⟨⟨va, rfl⟩, HDa, hba, -⟩
   have HBa := Lib.hid (HB.out.trans hba)
   obtain ⟨ka, ma⟩ := HK.out wa HBa.out
   have d6 := ka 6 _ rfl
   have HDa0 : Hid (Bld b b (H2 ++ (m.tasks.take 0).flatMap encT) wa) := by show Bld _ _ _ _; rw [List.take_zero]; show Bld b b (H2 ++ []) wa; rw [List.append_nil]; exact HDa
   clear HDa hba HPT HB ka ma d5
   go_wp2
   go_loopw [50] (fun i wr => ∃ k : Nat, k ≤ tn ∧ i = .int .i64 k ∧ Hid (Bld b b (H2 ++ (m.tasks.take k).flatMap encT) wr) ∧ Hid (Below b w1 wr)) (fun i _ => tn - (intOf i).toNat)
   case atStart => exact ⟨0, by omega, rfl, HDa0, HBa⟩
   case round =>
    clear HDa0 HBa
    obtain ⟨q, hq, rfl, HD, HB⟩ := hrel
    have hz := HB.out.size
    have hz7 : b ≤ wr.heap.size := by have := HBQ.out; omega
    obtain ⟨kk, mm⟩ := HK.out wr HB.out
    have LF : ((m.tasks.take q).flatMap encT).length ≤ 7000 * (m.tasks.take q).length := flat_len _ fun y hy => encT_len (HF.out.tasks y (List.mem_of_mem_take hy))
    have LT := List.length_take_le q m.tasks
    have htm : m.tasks.length ≤ 8 := by have := HTN.out; omega
    by_cases hlt3 : q < tn
    ·obtain ⟨b9, o9, ⟨pr, pe, de, ji, ⟨xa, xn, xc⟩, ⟨oa, on, oc⟩, ⟨ca, cn, cc⟩⟩, T, rfl, hb9, hT, ht, hcs⟩ := HTk.out q hlt3
     have hFt := HF.out.tasks T (List.mem_of_getElem? hT)
     have e0 : wr.cell? ⟨b9, o9 + q * 7, none⟩ = some (.int .i64 pr) := keep_cell mm (hcs 0 _ rfl)
     have e1 : wr.cell? ⟨b9, o9 + q * 7 + 1, none⟩ = some (.int .i64 pe) := keep_cell mm (hcs 1 _ rfl)
     have e2 : wr.cell? ⟨b9, o9 + q * 7 + 2, none⟩ = some (.int .i64 de) := keep_cell mm (hcs 2 _ rfl)
     have e3 : wr.cell? ⟨b9, o9 + q * 7 + 3, none⟩ = some (.int .i64 ji) := keep_cell mm (hcs 3 _ rfl)
     have e4 : wr.cell? ⟨b9, o9 + q * 7 + 4, none⟩ = some (.slice xa xn xc) := keep_cell mm (hcs 4 _ rfl)
     have e5 : wr.cell? ⟨b9, o9 + q * 7 + 5, none⟩ = some (.slice oa on oc) := keep_cell mm (hcs 5 _ rfl)
     have e6 : wr.cell? ⟨b9, o9 + q * 7 + 6, none⟩ = some (.slice ca cn cc) := keep_cell mm (hcs 6 _ rfl)
     have i1 : (0 : Int) ≤ (q : Int) := by omega
     have i2 : (q : Int) < (tn : Int) := by omega
     have HQ := Lib.hid (flat_snoc (f := encT) hT)
     have A2 := Lib.hid (below_alloc wr (.cells #[.int .i64 pr, .int .i64 pe, .int .i64 de, .int .i64 ji, .slice xa xn xc, .slice oa on oc, .slice ca cn cc] 59))
     have HP := Lib.hid (putTask_any b b (H2 ++ (m.tasks.take q).flatMap encT) ⟨pr, pe, de, ji, ⟨xa, xn, xc⟩, ⟨oa, on, oc⟩, ⟨ca, cn, cc⟩⟩ T w _ (mm.trans (A2.out.mono (by omega))) ht (by omega) (HD.out.below A2.out) (by have := A2.out.size; omega) (by rw [List.length_append]; omega) hFt HNm.out)
     simp only [Sl.v] at HP
     clear hcs ht hT hFt kk mm
     go_wp2_with (go_at_call 56; refine HP.out.mono ?_)
     rintro e w9 ⟨⟨v9, rfl⟩, HD9, hb9', -⟩
     have HB9 := Lib.hid (HB.out.trans ((A2.out.mono hz7).trans hb9'))
     have HD9' : Hid (Bld b b (H2 ++ (m.tasks.take (q + 1)).flatMap encT) w9) := by show Bld _ _ _ _; rw [HQ.out, ← List.append_assoc]; exact HD9
     clear HD9 HD hb9' HB HP A2
     go_wp2
     go_roundw
     case rel => exact ⟨q + 1, by omega, by go_num, HD9', HB9⟩
     case measure => simp [intOf]; omega
    ·have HDe : Hid (Bld b b (encM m) wr) := by
      have := HD.out
      rw [show q = tn by omega, HTN.out, List.take_length, ← HS.out] at this
      exact this
     have LE : (encM m).length ≤ 100000 := by
      rw [HS.out, List.length_append]
      have : (m.tasks.flatMap encT).length ≤ 7000 * m.tasks.length := flat_len _ fun y hy => encT_len (HF.out.tasks y hy)
      omega
     have CG : Calls Tryz.prog 58 #[.pointer (some ⟨b, 0, none⟩)] wr fun e w' => e = .returned (.string (bs (encM m))) ∧ Below b wr w' := Tryz.Builder_String_any _ _ _ wr HDe.out hz7
     have HSe : ∀ W, Kr.Hal W → Calls Tryz.prog 57 #[.string (bs (encM m))] W fun e w' => e = .returned (.string (bs (encS m))) ∧ Below W.heap.size W w' := fun W hW => by
      have h9 := Kr.sealed_any (bs (encM m)) (by rw [bs_size]; omega) W hW
      rw [bs_list] at h9
      exact h9
     obtain ⟨MM, hMM⟩ : ∃ MM, MM = bs (encM m) := ⟨_, rfl⟩
     rw [← hMM] at CG HSe
     have CG := Lib.hid CG
     have HSe := Lib.hid HSe
     have MM' := Lib.hid mm
     clear HD HDe LE LF LT kk hMM mm
     go_wp2_with (first
      | (go_at_call 58; refine CG.out.mono ?_; rintro e wz ⟨rfl, hbz⟩; have mz := MM'.out.trans (hbz.mono (by omega)); have hz9 := HHa.out.below mz)
      | (go_at_call 57; refine (HSe.out wz hz9).mono ?_; rintro e wy ⟨rfl, hby⟩))
     go_ret
     exact ⟨rfl, keep_below mz hby⟩
end Go.Proofs.YtngehojibcmieaaGreatDoor
end
