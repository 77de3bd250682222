/- What is proved here: the contract of ceil.Ceilings. Conditions: rows are not too long. -/
import Derived.Test.YthicoekoeffpaaaAc
import Derived.Test.YthicoekoeffpaaaRs
namespace Go.Proofs.Ythicoekoeffpaaa
open Go.ChangeShapes Go.WideShapes Go.RowKit

theorem int_info : (Try.prog.info? 3).map (fun i => (i.zero, i.size, i.bytes)) = some (some (.int .i64 0), 1, 8) := by kernel_rfl
theorem rowIs_below {W w9 : World} {g : Nat} {t : TypeId} {n : Nat} {f : Nat → Value} (h : W.rowIs g t n f) (hb : Below W.heap.size W w9) : w9.rowIs g t n f := h.of_block (hb.block _ h.lt)
theorem Row.of_is {W : World} {g n : Nat} {l : List Int} (h : W.rowIs g 3 n (fun j => .int .i64 (l.getD j 0))) (hn : n = l.length) : Row W (some ⟨g, 0, none⟩) n l :=
  ⟨hn, fun _ => ⟨g, 0, rfl, h.lt, fun i hi => by rw [Nat.zero_add]; exact h.cell hi⟩⟩
/-- A block of cells, and a row of ints behind it, beside what was there. -/
structure PRI (w : World) (gl : Nat) (cs : List Value) (g m : Nat) (f : Nat → Int) (W : World) : Prop where
  bel : Below w.heap.size w W
  cl : ∀ j v, cs[j]? = some v → W.cell? ⟨gl, j, none⟩ = some v
  row : W.rowIs g 3 m (fun j => .int .i64 (f j))
  ge : w.heap.size ≤ g
  ne : gl ≠ g
theorem cell_other {W : World} {p : Addr} {v x : Value} {g q : Nat} (h : W.cell? p = some v) (hne : p.block ≠ g) : (W.setCell ⟨g, q, none⟩ x).cell? p = some v := by
  have hbk : (W.setCell ⟨g, q, none⟩ x).heap[p.block]? = W.heap[p.block]? := Go.Deep.blk_setCell_other _ _ _ _ hne
  exact (World.cell?_of_block hbk).trans h
section
variable {w W w9 : World} {gl g m : Nat} {cs : List Value} {f : Nat → Int}
theorem PRI.alloc (h : PRI w gl cs g m f W) (o : Obj) : PRI w gl cs g m f (W.alloc o) :=
  ⟨h.bel.alloc h.bel.size o, fun j v hj => keep_cell (below_alloc _ _) (h.cl j v hj), h.row.alloc o, h.ge, h.ne⟩
theorem PRI.keep (h : PRI w gl cs g m f W) (hb : Below W.heap.size W w9) : PRI w gl cs g m f w9 :=
  ⟨keep_below h.bel hb, fun j v hj => keep_cell hb (h.cl j v hj), rowIs_below h.row hb, h.ge, h.ne⟩
theorem PRI.set (h : PRI w gl cs g m f W) (q : Nat) (x : Int) : PRI w gl cs g m (fun j => if j = q then x else f j) (W.setCell ⟨g, q, none⟩ (.int .i64 x)) :=
  ⟨h.bel.setCell (p := ⟨g, q, none⟩) h.ge _, fun j v hj => cell_other (h.cl j v hj) h.ne, (h.row.set q (.int .i64 x)).congr (fun j _ => by by_cases e : j = q <;> simp [e]), h.ge, h.ne⟩
theorem PRI.congr {f2 : Nat → Int} (h : PRI w gl cs g m f W) (e : ∀ j, j < m → f j = f2 j) : PRI w gl cs g m f2 W :=
  ⟨h.bel, h.cl, h.row.congr (fun j hj => by rw [e j hj]), h.ge, h.ne⟩
end
/-- What a call leaves that tells a new row of ints. -/
def GotN (l : List Int) (w : World) (e : Ending) (w' : World) : Prop :=
  ∃ a n c, e = .returned (.slice a n c) ∧ Row w' a n l ∧ n ≤ c ∧ Below w.heap.size w w' ∧ ∀ p, a = some p → w.heap.size ≤ p.block ∧ p.block < w'.heap.size
set_option maxHeartbeats 2000000 in
set_option maxRecDepth 100000 in
theorem ceilings_any (B : Int) (a : Option Addr) (n c : Nat) (L : List UsP) (w : World) (hr : RowU w a n L) (hn : n ≤ 140737488355328) (l : List Int) (hq : cL B L = l) :
    Calls Try.prog 16 #[.int .i64 B, .slice a n c] w (GotN l w) := by
  unfold GotN
  have hmf : ∀ (fn : Fn) (first cap : Array Value) (w : World), (Instr.makeFunc fn first cap).run Try.prog w = .ok (.func fn first cap) w := fun _ _ _ _ => rfl
  have I1 := Lib.hid (One.new w #[.slice a n c] 22)
  have d0 := I1.out.2 0 _ rfl
  obtain ⟨ok, hok⟩ : ∃ ok, okL B L = ok := ⟨_, rfl⟩
  have CR := Lib.hid (fun W (h : Below w.heap.size w W) => right_any B a n c L W (hr.below h) hn ok hok)
  cases ok
  · have HR : Hid (l = []) := by show l = []; rw [← hq]; unfold cL; rw [hok]; rfl
    clear hq hok hr
    go_enter Try.func16, Try.ntmps16
    go_wp2_with (go_at_call 12; refine (CR.out _ I1.out.1).mono ?_; rintro e w1 ⟨rfl, hb1⟩; have J1 := I1.out.keep hb1; have d1 := J1.2 0 _ rfl)
    go_ret
    exact ⟨none, 0, 0, rfl, by rw [HR.out]; exact Row.nil _ _, Nat.le_refl _, J1.1, fun p hp => by cases hp⟩
  have HR : Hid (l = ceilL B L) := by show l = _; rw [← hq]; unfold cL; rw [hok]; rfl
  have O := okL_of hok
  have hn8 : n ≤ 8 := by rw [hr.1]; exact O.len
  obtain ⟨m, rfl⟩ := Int.eq_ofNat_of_zero_le O.b0
  have hm8 : m ≤ 8 := by have := O.b8; omega
  obtain ⟨pl, hpl⟩ : ∃ pl, pl = L.map (·.pr) := ⟨_, rfl⟩
  have HPL := Lib.hid hpl
  have hmk := run_make_row' (P := Try.prog) 30 3 (.int .i64 0) 8 Try.underlying30 int_info rfl .i64 .i64 n (by omega) (by omega)
  have hmk2 := run_make_row' (P := Try.prog) 30 3 (.int .i64 0) 8 Try.underlying30 int_info rfl .i64 .i64 m (by omega) (by omega)
  clear hq hok O hpl
  go_enter Try.func16, Try.ntmps16
  go_wp2_with (go_at_call 12; refine (CR.out _ I1.out.1).mono ?_; rintro e w1 ⟨rfl, hb1⟩; have J1 := I1.out.keep hb1; have d1 := J1.2 0 _ rfl; have d2 := keep_cell (below_alloc w1 (.cells (madeCells #[.int .i64 0] n) 3)) d1)
  have P0 : PRI w w.heap.size [.slice a n c] w1.heap.size n (fun j => if j < 0 then pl.getD j 0 else 0) (w1.alloc (.cells (madeCells #[.int .i64 0] n) 3)) :=
    ⟨J1.1.alloc J1.1.size _, fun j v hj => keep_cell (below_alloc _ _) (J1.2 j v hj), (World.rowIs_made w1 (.int .i64 0) n 3).congr (fun j _ => by rw [if_neg (by omega)]), J1.1.size, by have := hb1.size; simp at this; omega⟩
  generalize w1.heap.size = gp at P0 d2 ⊢
  generalize w1.alloc (.cells (madeCells #[.int .i64 0] n) 3) = W0 at P0 d2 ⊢
  clear hmk CR I1 J1 d0 d1 d2 hb1
  go_loopw [19] (fun i wr => ∃ k : Nat, k ≤ n ∧ i = .int .i64 k ∧ Hid (PRI w w.heap.size [.slice a n c] gp n (fun j => if j < k then pl.getD j 0 else 0) wr)) (fun i _ => n - (intOf i).toNat)
  case atStart => exact ⟨0, by omega, rfl, P0⟩
  case round =>
    obtain ⟨k, hk, rfl, PI⟩ := hrel
    have d1 := PI.out.cl 0 _ rfl
    by_cases hlt : k < n
    · obtain ⟨b1, o1, u, xa, xn, xc, la, ln, lc, rfl, hB1, hx, _, _, h0, h1, h2⟩ := hr.item PI.out.bel hlt
      have i1 : (0 : Int) ≤ (k : Int) := by omega
      have i2 : (k : Int) < (n : Int) := by omega
      have PA := PI.out.alloc (.cells #[.int .i64 u.pr, .slice xa xn xc, .slice la ln lc] 37)
      have ec := PA.row.cell (i := k) hlt
      have ef := PA.row.frozen k
      have PS : Hid (PRI w w.heap.size [.slice (some ⟨b1, o1, none⟩) n c] gp n (fun j => if j < k + 1 then pl.getD j 0 else 0) ((wr.alloc (.cells #[.int .i64 u.pr, .slice xa xn xc, .slice la ln lc] 37)).setCell ⟨gp, k, none⟩ (.int .i64 u.pr))) :=
        ((PA.set k u.pr).congr (fun j hj => by
          by_cases e : j = k
          · rw [if_pos e, if_pos (by omega), e, HPL.out, List.getD_eq_getElem?_getD, List.getElem?_map, hx]; rfl
          · rw [if_neg e]
            by_cases e2 : j < k
            · rw [if_pos e2, if_pos (by omega)]
            · rw [if_neg e2, if_neg (by omega)]))
      clear hx PA
      go_wp2
      go_roundw
      case rel => exact ⟨k + 1, by omega, by go_num, PS⟩
      case measure => simp [intOf]; omega
    · obtain rfl : k = n := by omega
      have HP := PI.out
      have hpn : k = pl.length := by rw [HPL.out, List.length_map]; exact hr.1
      have RP : Row wr (some ⟨gp, 0, none⟩) k pl := Row.of_is (HP.row.congr (fun j hj => by rw [if_pos hj])) hpn
      have hrB := hr.below HP.bel
      have HPN := Lib.hid hpn
      clear hpn
      have P2 : PRI wr w.heap.size [.slice a k c] wr.heap.size m (fun j => if j < 0 then l.getD j 0 else 0) (wr.alloc (.cells (madeCells #[.int .i64 0] m) 3)) :=
        ⟨below_alloc _ _, fun j v hj => keep_cell (below_alloc _ _) (HP.cl j v hj), (World.rowIs_made wr (.int .i64 0) m 3).congr (fun j _ => by rw [if_neg (by omega)]), Nat.le_refl _, Nat.ne_of_lt (cell_lt d1)⟩
      have HB := Lib.hid HP.bel
      have hgp := HP.row.lt
      have HWS := Lib.hid (cell_lt d1)
      clear HP PI
      go_wp2
      generalize hgc : wr.heap.size = gc at P2 ⊢
      have HGC := Lib.hid hgc
      generalize wr.alloc (.cells (madeCells #[.int .i64 0] m) 3) = V0 at P2 ⊢
      generalize wr = wB at *
      clear d1 hmk2 P0 hgc
      go_loopw [34] (fun i wr => ∃ q : Nat, q ≤ m ∧ i = .int .i64 q ∧ Hid (PRI wB w.heap.size [.slice a k c] gc m (fun j => if j < q then l.getD j 0 else 0) wr)) (fun i _ => m - (intOf i).toNat)
      case atStart => exact ⟨0, by omega, rfl, P2⟩
      case round =>
        obtain ⟨q, hq, rfl, PI⟩ := hrel
        by_cases hlt2 : q < m
        · have i1 : (0 : Int) ≤ (q : Int) := by omega
          have i2 : (q : Int) < (m : Int) := by omega
          have hlq : l.getD q 0 = ceB L (q : Int) := by rw [HR.out]; exact ceilL_get (by omega)
          have hb8 : wr.heap.size ≠ gc := by have := PI.out.row.lt; omega
          have PA := PI.out.alloc (.cells #[.int .i64 q] 3)
          have cb := cells_new wr #[.int .i64 q] 3 0 _ rfl
          have A : Hid (∀ V f', PRI wB w.heap.size [.slice a k c] gc m f' V → V.cell? ⟨wr.heap.size, 0, none⟩ = some (.int .i64 q) → Calls Try.prog 27 #[.int .i64 0, .slice (some ⟨gp, 0, none⟩) k k, .func (.func 28) #[] #[.pointer (some ⟨w.heap.size, 0, none⟩), .pointer (some ⟨wr.heap.size, 0, none⟩)]] V fun e w' => e = .returned (.int .i64 (l.getD q 0)) ∧ Below V.heap.size V w') := by
            intro V f' hV hc
            have := greatest_any 28 #[.pointer (some ⟨w.heap.size, 0, none⟩), .pointer (some ⟨wr.heap.size, 0, none⟩)] 0 (some ⟨gp, 0, none⟩) k k pl (fun i => (uAt L i).bl.contains (q : Int)) V (RP.below hV.bel) hn (fun _ _ => rfl)
              (fun W' j hj hb => hasBlock_any j w.heap.size wr.heap.size a k c L q W' (keep_cell hb (hV.cl 0 _ rfl)) (keep_cell hb hc) ((hrB.below hV.bel).below hb) hj)
            rw [show k = L.length by rw [HPN.out, HPL.out, List.length_map], HPL.out, gre_ceil, ← hlq] at this
            rw [show k = L.length by rw [HPN.out, HPL.out, List.length_map]]
            exact this
          have hbc : wr.heap.size ≠ gc := hb8
          clear hb8
          go_wp2_with fail
          have HS1 : Hid (∀ V, PRI wB w.heap.size [.slice a k c] gc m (fun j => if j < q then l.getD j 0 else 0) V → PRI wB w.heap.size [.slice a k c] gc m (fun j => if j < q + 1 then l.getD j 0 else 0) (V.setCell ⟨gc, q, none⟩ (.int .i64 (l.getD q 0)))) := fun V hV => (hV.set q (l.getD q 0)).congr (fun j hj => by
            by_cases e : j = q
            · rw [if_pos e, if_pos (by omega), e]
            · rw [if_neg e]
              by_cases e2 : j < q
              · rw [if_pos e2, if_pos (by omega)]
              · rw [if_neg e2, if_neg (by omega)])
          refine region_st 45 6 (fun i => 37 + i) (fun i => ([[], [], [], [], [2, 3], [0, 1], [4, 5]] : List (List Nat)).getD i []) (fun i v => ([(fun v : Value => v = .slice (some ⟨gc, 0, none⟩) m m), (fun v : Value => v = .int .i64 (q : Int)), (fun v : Value => v = .slice (some ⟨gp, 0, none⟩) k k), (fun v : Value => v = .func (.func 28) #[] #[.pointer (some ⟨w.heap.size, 0, none⟩), .pointer (some ⟨wr.heap.size, 0, none⟩)]), (fun v : Value => v = .int .i64 (l.getD q 0)), (fun v : Value => v = .pointer (some ⟨gc, q, none⟩))] : List (Value → Prop)).getD i (fun _ => True) v) (fun V => PRI wB w.heap.size [.slice a k c] gc m (fun j => if j < q then l.getD j 0 else 0) V ∧ V.cell? ⟨wr.heap.size, 0, none⟩ = some (.int .i64 (q : Int))) (fun V => PRI wB w.heap.size [.slice a k c] gc m (fun j => if j < q + 1 then l.getD j 0 else 0) V) (by kernel_rfl) rfl (fun i j hi hj h => by (try dsimp only at h); omega) (fun i hi => by (try dsimp only); omega) rfl ?_ ?_ ?_ ?_ ⟨PA.keep ⟨rfl, rfl, rfl, Nat.le_refl _, fun _ _ => rfl⟩, keep_cell ⟨rfl, rfl, rfl, Nat.le_refl _, fun _ _ => rfl⟩ cb⟩ ?_
          · intro i o ho
            match i, ho with
            | 0, ho => obtain rfl := Option.some.inj ho; exact ⟨fun _ => rfl, fun h => absurd h (by decide), rfl, by decide, by decide⟩
            | 1, ho => obtain rfl := Option.some.inj ho; exact ⟨fun _ => rfl, fun h => absurd h (by decide), rfl, by decide, by decide⟩
            | 2, ho => obtain rfl := Option.some.inj ho; exact ⟨fun _ => rfl, fun h => absurd h (by decide), rfl, by decide, by decide⟩
            | 3, ho => obtain rfl := Option.some.inj ho; exact ⟨fun _ => rfl, fun h => absurd h (by decide), rfl, by decide, by decide⟩
            | 4, ho => obtain rfl := Option.some.inj ho; exact ⟨fun _ => rfl, fun h => absurd h (by decide), rfl, by decide, by decide⟩
            | 5, ho => obtain rfl := Option.some.inj ho; exact ⟨fun _ => rfl, fun h => absurd h (by decide), rfl, by decide, by decide⟩
            | 6, ho => obtain rfl := Option.some.inj ho; exact ⟨fun h => absurd h (by decide), fun _ => rfl, rfl, by decide, by decide⟩
            | k + 7, ho => simp at ho
          · intro i hi
            match i, hi with
            | 0, _ => exact ⟨5, by decide, by decide, by decide⟩
            | 1, _ => exact ⟨5, by decide, by decide, by decide⟩
            | 2, _ => exact ⟨4, by decide, by decide, by decide⟩
            | 3, _ => exact ⟨4, by decide, by decide, by decide⟩
            | 4, _ => exact ⟨6, by decide, by decide, by decide⟩
            | 5, _ => exact ⟨6, by decide, by decide, by decide⟩
            | k + 6, hi => omega
          · intro i o hin ho a' V hS hoth hd
            have o3 : a'.eval (.tmp 3) = .pointer (some ⟨w.heap.size, 0, none⟩) := hoth 3 (fun i hi => by (try dsimp only); omega)
            have o5 : a'.eval (.tmp 5) = .slice (some ⟨gp, 0, none⟩) k k := hoth 5 (fun i hi => by (try dsimp only); omega)
            have o8 : a'.eval (.tmp 8) = .slice (some ⟨gc, 0, none⟩) m m := hoth 8 (fun i hi => by (try dsimp only); omega)
            have o9 : a'.eval (.tmp 9) = .pointer (some ⟨wr.heap.size, 0, none⟩) := hoth 9 (fun i hi => by (try dsimp only); omega)
            obtain ⟨ρ, hρ⟩ : ∃ ρ, ρ = a'.eval := ⟨_, rfl⟩
            have hc : ∀ v, ρ (.const v) = v := fun v => by rw [hρ]; rfl
            have hfn : ∀ f, ρ (.func f) = .func (.func f) #[] #[] := fun f => by rw [hρ]; rfl
            simp only [← hρ] at hd ⊢
            rw [← hρ] at o3
            rw [← hρ] at o5
            rw [← hρ] at o8
            rw [← hρ] at o9
            clear hρ hoth
            match i, hin, ho with
            | 0, _, ho =>
              obtain rfl := Option.some.inj ho
              clear hd
              exact Gives.val (v := .slice (some ⟨gc, 0, none⟩) m m) (w' := V) (by simp only [execOp]; go_simp) ⟨rfl, hS⟩
            | 1, _, ho =>
              obtain rfl := Option.some.inj ho
              clear hd
              have c1 := hS.2
              exact Gives.val (v := .int .i64 (q : Int)) (w' := V) (by simp only [execOp]; go_simp) ⟨rfl, hS⟩
            | 2, _, ho =>
              obtain rfl := Option.some.inj ho
              clear hd
              exact Gives.val (v := .slice (some ⟨gp, 0, none⟩) k k) (w' := V) (by simp only [execOp]; go_simp) ⟨rfl, hS⟩
            | 3, _, ho =>
              obtain rfl := Option.some.inj ho
              clear hd
              exact Gives.val (v := .func (.func 28) #[] #[.pointer (some ⟨w.heap.size, 0, none⟩), .pointer (some ⟨wr.heap.size, 0, none⟩)]) (w' := V) (by simp only [execOp]; go_simp) ⟨rfl, hS⟩
            | 4, _, ho =>
              obtain rfl := Option.some.inj ho
              have e2 : ρ (.tmp 39) = .slice (some ⟨gp, 0, none⟩) k k := hd 2 (by decide)
              have e3 : ρ (.tmp 40) = .func (.func 28) #[] #[.pointer (some ⟨w.heap.size, 0, none⟩), .pointer (some ⟨wr.heap.size, 0, none⟩)] := hd 3 (by decide)
              clear hd
              refine Gives.enter (f := 27) (args := #[.int .i64 0, .slice (some ⟨gp, 0, none⟩) k k, .func (.func 28) #[] #[.pointer (some ⟨w.heap.size, 0, none⟩), .pointer (some ⟨wr.heap.size, 0, none⟩)]]) (by simp only [execOp]; go_simp) ((A.out _ _ hS.1 hS.2).mono ?_)
              rintro e w8 ⟨rfl, b8⟩
              exact ⟨_, rfl, rfl, hS.1.keep b8, keep_cell b8 hS.2⟩
            | 5, _, ho =>
              obtain rfl := Option.some.inj ho
              have e0 : ρ (.tmp 37) = .slice (some ⟨gc, 0, none⟩) m m := hd 0 (by decide)
              have e1 : ρ (.tmp 38) = .int .i64 (q : Int) := hd 1 (by decide)
              clear hd
              exact Gives.val (v := .pointer (some ⟨gc, q, none⟩)) (w' := V) (by simp only [execOp]; go_simp) ⟨rfl, hS⟩
            | k + 6, hin, _ => exact absurd hin (by omega)
          · intro o ho a' V hS hoth hd
            have o3 : a'.eval (.tmp 3) = .pointer (some ⟨w.heap.size, 0, none⟩) := hoth 3 (fun i hi => by (try dsimp only); omega)
            have o5 : a'.eval (.tmp 5) = .slice (some ⟨gp, 0, none⟩) k k := hoth 5 (fun i hi => by (try dsimp only); omega)
            have o8 : a'.eval (.tmp 8) = .slice (some ⟨gc, 0, none⟩) m m := hoth 8 (fun i hi => by (try dsimp only); omega)
            have o9 : a'.eval (.tmp 9) = .pointer (some ⟨wr.heap.size, 0, none⟩) := hoth 9 (fun i hi => by (try dsimp only); omega)
            obtain ⟨ρ, hρ⟩ : ∃ ρ, ρ = a'.eval := ⟨_, rfl⟩
            have hc : ∀ v, ρ (.const v) = v := fun v => by rw [hρ]; rfl
            have hfn : ∀ f, ρ (.func f) = .func (.func f) #[] #[] := fun f => by rw [hρ]; rfl
            simp only [← hρ] at hd ⊢
            rw [← hρ] at o3
            rw [← hρ] at o5
            rw [← hρ] at o8
            rw [← hρ] at o9
            clear hρ hoth
            obtain rfl := Option.some.inj ho
            have e4 : ρ (.tmp 41) = .int .i64 (l.getD q 0) := hd 4 (by decide)
            have e5 : ρ (.tmp 42) = .pointer (some ⟨gc, q, none⟩) := hd 5 (by decide)
            clear hd
            have ec := hS.1.row.cell (i := q) hlt2
            have ef := hS.1.row.frozen q
            exact ⟨V.setCell ⟨gc, q, none⟩ (.int .i64 (l.getD q 0)), by simp only [execOp]; go_simp, HS1.out _ hS.1⟩
          · intro a' V hsz hdef hoth hok hS
            obtain ⟨us, hu1, hu2, rfl⟩ := act_mix 37 6 rfl hsz hdef (by simp) (fun k hk => hoth k (fun i hi => by show 37 + i ≠ k; omega))
            match us, hu1 with
            | [u37, u38, u39, u40, u41, u42], _ =>
              clear hu2 hok
              have HS := Lib.hid hS
              clear hS
              go_wp2
              go_roundw
              case rel => exact ⟨q + 1, by omega, by go_num, HS⟩
              case measure => simp [intOf]; omega
        · obtain rfl : q = m := by omega
          have hl : q = l.length := by rw [HR.out, ceilL_len]; simp
          have HRW : Hid (Row wr (some ⟨gc, 0, none⟩) q l) := Row.of_is (PI.out.row.congr (fun j hj => by rw [if_pos hj])) hl
          have hbw := keep_below HB.out PI.out.bel
          have hlt3 := PI.out.row.lt
          have hge : w.heap.size ≤ gc := by rw [← HGC.out]; exact HB.out.size
          clear PI
          go_wp2
          go_ret
          exact ⟨_, _, _, rfl, HRW.out, Nat.le_refl _, hbw, fun p hp => by cases hp; exact ⟨hge, hlt3⟩⟩
end Go.Proofs.Ythicoekoeffpaaa
