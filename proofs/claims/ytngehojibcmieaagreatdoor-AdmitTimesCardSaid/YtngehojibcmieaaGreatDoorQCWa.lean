/- What is proved here: the contract of ceil.Waits. Conditions: rows are not too long. -/
import Derived.Test.YtngehojibcmieaaGreatDoorQC2
set_option maxRecDepth 100000
set_option maxHeartbeats 8000000
section
namespace Go.Proofs.YtngehojibcmieaaGreatDoor.Kc
open Go.ChangeShapes Go.WideShapes Go.RowKit
def wPart (l : List Int) (x : Int) (i : Nat) : Nat → Int := fun t => if t < i then l.getD t 0 else if t = i then x else 0
theorem wPart_at (l : List Int) (x : Int) (i : Nat) : wPart l x i i = x := by unfold wPart; rw [if_neg (by omega), if_pos rfl]
theorem wPart_set (l : List Int) (x y : Int) (i t : Nat) : (if t = i then y else wPart l x i t) = wPart l y i t := by
 unfold wPart
 by_cases e : t = i
 ·rw [if_pos e, e, if_neg (by omega), if_pos rfl]
 ·rw [if_neg e, if_neg e, if_neg e]
theorem waits_any (B : Int) (a : Option Addr) (n c : Nat) (L : List UsP) (w : World) (hr : RowU w a n L) (hn : n ≤ 140737488355328) (l : List Int) (hq : wL B L = l) :
  Calls Tryz.prog 68 #[.int .i64 B, .slice a n c] w (GotN l w) := by
 unfold GotN
 have hmf : ∀ (fn : Fn) (first cap : Array Value) (w : World), (Instr.makeFunc fn first cap).run Tryz.prog w = .ok (.func fn first cap) w := fun _ _ _ _ => rfl
 obtain ⟨ok, hok⟩ : ∃ ok, okL B L = ok := ⟨_, rfl⟩
 have CR := Lib.hid (right_any B a n c L w hr hn ok hok)
 have CC := Lib.hid (fun W (h : Below w.heap.size w W) => ceilings_any B a n c L W (hr.below h) hn _ rfl)
 unfold GotN at CC
 cases ok
 ·have HR : Hid (l = []) := by show l = []; rw [← hq]; unfold wL; rw [hok]; rfl
  clear hq hok hr CC
  go_enter Tryz.func68, Tryz.ntmps68
  go_wp2_with (go_at_call 111; refine CR.out.mono ?_; rintro e w1 ⟨rfl, hb1⟩)
  go_ret
  exact ⟨none, 0, 0, rfl, by rw [HR.out]; exact Row.nil _ _, Nat.le_refl _, hb1, fun p hp => by cases hp⟩
 have HR : Hid (l = waitL L) := by show l = _; rw [← hq]; unfold wL; rw [hok]; rfl
 have O := Lib.hid (okL_of hok)
 have hcl : cL B L = ceilL B L := by unfold cL; rw [if_pos hok]
 rw [hcl] at CC
 have hn8 : n ≤ 8 := by rw [hr.1]; exact O.out.len
 have hmk := run_make_row' (P := Tryz.prog) 22 3 (.int .i64 0) 8 Tryz.underlying22 int_info rfl .i64 .i64 n (by omega) (by omega)
 clear hq hok hcl
 go_enter Tryz.func68, Tryz.ntmps68
 go_wp2_with (first
  | (go_at_call 70; refine (CC.out _ hb1).mono ?_; rintro e w2 ⟨ca, cn, cc, rfl, hc2, _, hb2, _⟩; have bb := keep_below hb1 hb2)
  | (go_at_call 111; refine CR.out.mono ?_; rintro e w1 ⟨rfl, hb1⟩))
 have hcB := hc2.below (below_alloc w2 (.cells #[.slice ca cn cc] 22))
 have hrB := (hr.below bb).below (below_alloc w2 (.cells #[.slice ca cn cc] 22))
 have hbB := keep_below bb (below_alloc w2 (.cells #[.slice ca cn cc] 22))
 have hcC := cells_new w2 #[.slice ca cn cc] 22 0 _ rfl
 have hszB : (w2.alloc (.cells #[.slice ca cn cc] 22)).heap.size = w2.heap.size + 1 := by simp
 have hlC : w2.heap.size < (w2.alloc (.cells #[.slice ca cn cc] 22)).heap.size := by simp
 generalize hgC : w2.heap.size = gC at hcC hlC hszB ⊢
 generalize w2.alloc (.cells #[.slice ca cn cc] 22) = wB at hcB hrB hbB hcC hlC hszB ⊢
 have P0 : PRI wB gC [.slice ca cn cc] wB.heap.size n (fun j => if j < 0 then l.getD j 0 else 0) (wB.alloc (.cells (madeCells #[.int .i64 0] n) 3)) :=
  ⟨below_alloc _ _, fun j v hj => keep_cell (below_alloc _ _) (by
   rcases j with _ | j
   ·simp at hj; subst hj; exact hcC
   ·simp at hj), (World.rowIs_made wB (.int .i64 0) n 3).congr (fun j _ => by rw [if_neg (by omega)]), Nat.le_refl _, by omega⟩
 have HBW := Lib.hid hbB
 clear hr CR CC hc2 bb hb1 hb2 hmk hgC hcC hbB
 rw [hszB] at P0
 have HGW := Lib.hid hszB
 clear hlC hszB
 generalize gC + 1 = gw at P0 HGW ⊢
 generalize wB.alloc (.cells (madeCells #[.int .i64 0] n) 3) = V0 at P0 ⊢
 go_loopw [24] (fun x wr => ∃ ii : Nat, ii ≤ n ∧ x = .int .i64 ii ∧ Hid (PRI wB gC [.slice ca cn cc] gw n (fun j => if j < ii then l.getD j 0 else 0) wr)) (fun x _ => n - (intOf x).toNat)
 case atStart => exact ⟨0, by omega, rfl, P0⟩
 case round =>
  obtain ⟨ii, hi, rfl, PI⟩ := hrel
  by_cases hlt : ii < n
  ·obtain ⟨b1, o1, o, ya, yn, yc, ma, mn, mc, rfl, hB1, hx, _, _, h0, h1, h2⟩ := hrB.item PI.out.bel hlt
   have i1 : (0 : Int) ≤ (ii : Int) := by omega
   have i2 : (ii : Int) < (n : Int) := by omega
   obtain ⟨p, hp⟩ : ∃ p, p = o.pr := ⟨_, rfl⟩
   rw [← hp] at h0
   have hli : l.getD ii 0 = waB L p := by rw [HR.out]; exact (getD_of (waitL_at hx)).trans (by rw [hp])
   have HLI : Hid (waT L p n = l.getD ii 0) := by show _ = _; rw [hli, hrB.1, waT_all]
   have P1 : PRI wB gC [.slice ca cn cc] gw n (wPart l (waT L p 0) ii) (wr.alloc (.cells #[.int .i64 p, .slice ya yn yc, .slice ma mn mc] 125)) :=
    (PI.out.alloc _).congr (fun j hj => by
     unfold wPart
     by_cases e : j < ii
     ·rw [if_pos e, if_pos e]
     ·rw [if_neg e, if_neg e, waT_zero]; simp)
   have oA := cells_new wr #[.int .i64 p, .slice ya yn yc, .slice ma mn mc] 125 0 _ rfl
   have hgo : wr.heap.size ≠ gw := by have := PI.out.row.lt; omega
   clear hx hli hp PI P0
   go_wp2
   generalize wr.heap.size = go at oA hgo ⊢
   generalize wr.alloc (.cells #[.int .i64 p, .slice ya yn yc, .slice ma mn mc] 125) = V1 at P1 oA ⊢
   clear h0 h1 h2
   go_loopw [31] (fun x wr => ∃ j : Nat, j ≤ n ∧ x = .int .i64 j ∧ Hid (PRI wB gC [.slice ca cn cc] gw n (wPart l (waT L p j) ii) wr ∧ wr.cell? ⟨go, 0, none⟩ = some (.int .i64 p))) (fun x _ => n - (intOf x).toNat)
   case atStart => exact ⟨0, by omega, rfl, P1, oA⟩
   case round =>
    obtain ⟨j, hj, rfl, PI⟩ := hrel
    by_cases hlt2 : j < n
    ·obtain ⟨b2, o2, u, xa, xn, xc, la, ln, lc, e2, hB2, hx, ⟨hX, hXm⟩, ⟨hE, hEm⟩, h0, h1, h2⟩ := hrB.item PI.out.1.bel hlt2
     cases e2
     have j1 : (0 : Int) ≤ (j : Int) := by omega
     have j2 : (j : Int) < (n : Int) := by omega
     have OU := O.out.all u (List.mem_of_getElem? hx)
     have PA := PI.out.1.alloc (.cells #[.int .i64 u.pr, .slice xa xn xc, .slice la ln lc] 125)
     have oB := keep_cell (below_alloc wr (.cells #[.int .i64 u.pr, .slice xa xn xc, .slice la ln lc] 125)) PI.out.2
     have hgl := PI.out.1.row.lt
     have HF0 := Lib.hid (wPart_at l (waT L p j) ii)
     have HS1 : Hid (∀ V, PRI wB gC [.slice ca cn cc] gw n (wPart l (waT L p j) ii) V → PRI wB gC [.slice ca cn cc] gw n (wPart l (waT L p (j + 1)) ii) (V.setCell ⟨gw, ii, none⟩ (.int .i64 (waT L p (j + 1))))) := fun V hV => (hV.set ii _).congr (fun t _ => wPart_set l _ _ ii t)
     have A : Hid (∀ V, Below wB.heap.size wB V → V.cell? ⟨gC, 0, none⟩ = some (.slice ca cn cc) → V.cell? ⟨wr.heap.size, 0, none⟩ = some (.int .i64 u.pr) → V.cell? ⟨wr.heap.size, 1, none⟩ = some (.slice xa xn xc) → V.cell? ⟨go, 0, none⟩ = some (.int .i64 p) → Calls Tryz.prog 51 #[.int .i64 (waT L p j), .slice la ln lc, .func (.func 112) #[] #[.pointer (some ⟨wr.heap.size, 0, none⟩), .pointer (some ⟨go, 0, none⟩), .pointer (some ⟨gC, 0, none⟩)]] V fun e w' => e = .returned (.int .i64 (waT L p (j + 1))) ∧ Below V.heap.size V w') := by
      intro V hb c0 c1 c2 c3
      have hlen : ln = xn := by rw [hE.1, hX.1]; exact OU.len
      have hcn : (cn : Int) = B := by rw [hcB.1, ceilL_len]; have := O.out.b0; omega
      have key := greatest_any 112 #[.pointer (some ⟨wr.heap.size, 0, none⟩), .pointer (some ⟨go, 0, none⟩), .pointer (some ⟨gC, 0, none⟩)] (waT L p j) la ln lc u.le (kee (ceB L) p u) V (hE.below hb) hEm (fun _ _ => rfl)
       (fun W' k hk hb' => by
        have e1 := keeps_any k wr.heap.size go gC p u.pr xa xn xc ca cn cc u.bl (ceilL B L) W' (keep_cell hb' c1) (keep_cell hb' c2) (keep_cell hb' c3) (keep_cell hb' c0) ((hX.below hb).below hb') ((hcB.below hb).below hb') (by omega) (fun b hbm => by rw [hcn]; exact OU.bl b hbm)
        have e2 : (ceilL B L).getD (u.bl.getD k 0).toNat 0 = ceB L (u.bl.getD k 0) := by
         have hkl : k < u.bl.length := by rw [← hX.1]; omega
         have hm : u.bl.getD k 0 ∈ u.bl := by
          rw [List.getD_eq_getElem?_getD, List.getElem?_eq_getElem hkl]; exact List.getElem_mem hkl
         obtain ⟨m1, m2⟩ := OU.bl _ hm
         rw [ceilL_get (by omega), Int.toNat_of_nonneg m1]
        rw [e2] at e1
        exact e1)
      rw [show ln = u.le.length from hE.1, waT_gre hx OU.len] at key
      rw [show ln = u.le.length from hE.1]
      exact key
     clear hx hX hE OU PI
     go_wp2_with fail
     have oA := oB
     refine region_st 50 11 (fun i => 36 + i) (fun i => ([[], [], [], [], [2, 3], [4], [], [6], [], [5, 7, 8], [0, 1], [9, 10]] : List (List Nat)).getD i []) (fun i v => ([(fun v : Value => v = .slice (some ⟨gw, 0, none⟩) n n), (fun v : Value => v = .int .i64 (ii : Int)), (fun v : Value => v = .slice (some ⟨gw, 0, none⟩) n n), (fun v : Value => v = .int .i64 (ii : Int)), (fun v : Value => v = .pointer (some ⟨gw, ii, none⟩)), (fun v : Value => v = .int .i64 (waT L p j)), (fun v : Value => v = .pointer (some ⟨wr.heap.size, 2, none⟩)), (fun v : Value => v = .slice la ln lc), (fun v : Value => v = .func (.func 112) #[] #[.pointer (some ⟨wr.heap.size, 0, none⟩), .pointer (some ⟨go, 0, none⟩), .pointer (some ⟨gC, 0, none⟩)]), (fun v : Value => v = .int .i64 (waT L p (j + 1))), (fun v : Value => v = .pointer (some ⟨gw, ii, none⟩))] : List (Value → Prop)).getD i (fun _ => True) v) (fun V => PRI wB gC [.slice ca cn cc] gw n (wPart l (waT L p j) ii) V ∧ (∀ t v, ([.int .i64 u.pr, .slice xa xn xc, .slice la ln lc] : List Value)[t]? = some v → V.cell? ⟨wr.heap.size, t, none⟩ = some v) ∧ V.cell? ⟨go, 0, none⟩ = some (.int .i64 p)) (fun V => PRI wB gC [.slice ca cn cc] gw n (wPart l (waT L p (j + 1)) ii) V ∧ V.cell? ⟨go, 0, none⟩ = some (.int .i64 p)) (by kernel_rfl) rfl (fun i j hi hj h => by (try dsimp only at h); omega) (fun i hi => by (try dsimp only); omega) rfl ?_ ?_ ?_ ?_ ⟨PA.keep ⟨rfl, rfl, rfl, Nat.le_refl _, fun _ _ => rfl⟩, (fun t v ht => keep_cell ⟨rfl, rfl, rfl, Nat.le_refl _, fun _ _ => rfl⟩ (cells_new wr _ _ t v ht)), keep_cell ⟨rfl, rfl, rfl, Nat.le_refl _, fun _ _ => rfl⟩ oA⟩ ?_
     ·intro i o ho
      iterate 12 (rcases i with _ | i; (obtain rfl := Option.some.inj ho; first | exact ⟨fun _ => rfl, fun h => absurd h (by decide), rfl, by decide, by decide⟩ | exact ⟨fun h => absurd h (by decide), fun _ => rfl, rfl, by decide, by decide⟩))
      simp at ho
     ·intro i hi
      match i, hi with
      | 0, _ => exact ⟨10, by decide, by decide, by decide⟩
      | 1, _ => exact ⟨10, by decide, by decide, by decide⟩
      | 2, _ => exact ⟨4, by decide, by decide, by decide⟩
      | 3, _ => exact ⟨4, by decide, by decide, by decide⟩
      | 4, _ => exact ⟨5, by decide, by decide, by decide⟩
      | 5, _ => exact ⟨9, by decide, by decide, by decide⟩
      | 6, _ => exact ⟨7, by decide, by decide, by decide⟩
      | 7, _ => exact ⟨9, by decide, by decide, by decide⟩
      | 8, _ => exact ⟨9, by decide, by decide, by decide⟩
      | 9, _ => exact ⟨11, by decide, by decide, by decide⟩
      | 10, _ => exact ⟨11, by decide, by decide, by decide⟩
      | k + 11, hi => omega
     ·intro i o hin ho a' V hS hoth hd
      have o5 : a'.eval (.tmp 5) = .pointer (some ⟨gC, 0, none⟩) := hoth 5 (fun i hi => by (try dsimp only); omega)
      have o6 : a'.eval (.tmp 6) = .slice (some ⟨gw, 0, none⟩) n n := hoth 6 (fun i hi => by (try dsimp only); omega)
      have o7 : a'.eval (.tmp 7) = .int .i64 (ii : Int) := hoth 7 (fun i hi => by (try dsimp only); omega)
      have o8 : a'.eval (.tmp 8) = .pointer (some ⟨go, 0, none⟩) := hoth 8 (fun i hi => by (try dsimp only); omega)
      have o10 : a'.eval (.tmp 10) = .pointer (some ⟨wr.heap.size, 0, none⟩) := hoth 10 (fun i hi => by (try dsimp only); omega)
      have o11 : a'.eval (.tmp 11) = .func (.func 112) #[] #[.pointer (some ⟨wr.heap.size, 0, none⟩), .pointer (some ⟨go, 0, none⟩), .pointer (some ⟨gC, 0, none⟩)] := hoth 11 (fun i hi => by (try dsimp only); omega)
      obtain ⟨ρ, hρ⟩ : ∃ ρ, ρ = a'.eval := ⟨_, rfl⟩
      have hc : ∀ v, ρ (.const v) = v := fun v => by rw [hρ]; rfl
      have hfn : ∀ f, ρ (.func f) = .func (.func f) #[] #[] := fun f => by rw [hρ]; rfl
      simp only [← hρ] at hd ⊢
      rw [← hρ] at o5
      rw [← hρ] at o6
      rw [← hρ] at o7
      rw [← hρ] at o8
      rw [← hρ] at o10
      rw [← hρ] at o11
      clear hρ hoth
      match i, hin, ho with
      | 0, _, ho =>
       obtain rfl := Option.some.inj ho
       clear hd
       exact Gives.val (v := .slice (some ⟨gw, 0, none⟩) n n) (w' := V) (by simp only [execOp]; go_simp) ⟨rfl, hS⟩
      | 1, _, ho =>
       obtain rfl := Option.some.inj ho
       clear hd
       exact Gives.val (v := .int .i64 (ii : Int)) (w' := V) (by simp only [execOp]; go_simp) ⟨rfl, hS⟩
      | 2, _, ho =>
       obtain rfl := Option.some.inj ho
       clear hd
       exact Gives.val (v := .slice (some ⟨gw, 0, none⟩) n n) (w' := V) (by simp only [execOp]; go_simp) ⟨rfl, hS⟩
      | 3, _, ho =>
       obtain rfl := Option.some.inj ho
       clear hd
       exact Gives.val (v := .int .i64 (ii : Int)) (w' := V) (by simp only [execOp]; go_simp) ⟨rfl, hS⟩
      | 4, _, ho =>
       obtain rfl := Option.some.inj ho
       have e2 : ρ (.tmp 38) = .slice (some ⟨gw, 0, none⟩) n n := hd 2 (by decide)
       have e3 : ρ (.tmp 39) = .int .i64 (ii : Int) := hd 3 (by decide)
       clear hd
       exact Gives.val (v := .pointer (some ⟨gw, ii, none⟩)) (w' := V) (by simp only [execOp]; go_simp) ⟨rfl, hS⟩
      | 5, _, ho =>
       obtain rfl := Option.some.inj ho
       have e4 : ρ (.tmp 40) = .pointer (some ⟨gw, ii, none⟩) := hd 4 (by decide)
       clear hd
       have ec := hS.1.row.cell (i := ii) hlt
       rw [HF0.out] at ec
       exact Gives.val (v := .int .i64 (waT L p j)) (w' := V) (by simp only [execOp]; go_simp) ⟨rfl, hS⟩
      | 6, _, ho =>
       obtain rfl := Option.some.inj ho
       clear hd
       exact Gives.val (v := .pointer (some ⟨wr.heap.size, 2, none⟩)) (w' := V) (by simp only [execOp]; go_simp) ⟨rfl, hS⟩
      | 7, _, ho =>
       obtain rfl := Option.some.inj ho
       have e6 : ρ (.tmp 42) = .pointer (some ⟨wr.heap.size, 2, none⟩) := hd 6 (by decide)
       clear hd
       have c2 := hS.2.1 2 _ rfl
       exact Gives.val (v := .slice la ln lc) (w' := V) (by simp only [execOp]; go_simp) ⟨rfl, hS⟩
      | 8, _, ho =>
       obtain rfl := Option.some.inj ho
       clear hd
       exact Gives.val (v := .func (.func 112) #[] #[.pointer (some ⟨wr.heap.size, 0, none⟩), .pointer (some ⟨go, 0, none⟩), .pointer (some ⟨gC, 0, none⟩)]) (w' := V) (by simp only [execOp]; go_simp) ⟨rfl, hS⟩
      | 9, _, ho =>
       obtain rfl := Option.some.inj ho
       have e5 : ρ (.tmp 41) = .int .i64 (waT L p j) := hd 5 (by decide)
       have e7 : ρ (.tmp 43) = .slice la ln lc := hd 7 (by decide)
       have e8 : ρ (.tmp 44) = .func (.func 112) #[] #[.pointer (some ⟨wr.heap.size, 0, none⟩), .pointer (some ⟨go, 0, none⟩), .pointer (some ⟨gC, 0, none⟩)] := hd 8 (by decide)
       clear hd
       refine Gives.enter (f := 51) (args := #[.int .i64 (waT L p j), .slice la ln lc, .func (.func 112) #[] #[.pointer (some ⟨wr.heap.size, 0, none⟩), .pointer (some ⟨go, 0, none⟩), .pointer (some ⟨gC, 0, none⟩)]]) (by simp only [execOp]; go_simp) ((A.out _ hS.1.bel (hS.1.cl 0 _ rfl) (hS.2.1 0 _ rfl) (hS.2.1 1 _ rfl) hS.2.2).mono ?_)
       rintro e w8 ⟨rfl, b8⟩
       exact ⟨_, rfl, rfl, hS.1.keep b8, (fun t v ht => keep_cell b8 (hS.2.1 t v ht)), keep_cell b8 hS.2.2⟩
      | 10, _, ho =>
       obtain rfl := Option.some.inj ho
       have e0 : ρ (.tmp 36) = .slice (some ⟨gw, 0, none⟩) n n := hd 0 (by decide)
       have e1 : ρ (.tmp 37) = .int .i64 (ii : Int) := hd 1 (by decide)
       clear hd
       exact Gives.val (v := .pointer (some ⟨gw, ii, none⟩)) (w' := V) (by simp only [execOp]; go_simp) ⟨rfl, hS⟩
      | k + 11, hin, _ => exact absurd hin (by omega)
     ·intro o ho a' V hS hoth hd
      have o5 : a'.eval (.tmp 5) = .pointer (some ⟨gC, 0, none⟩) := hoth 5 (fun i hi => by (try dsimp only); omega)
      have o6 : a'.eval (.tmp 6) = .slice (some ⟨gw, 0, none⟩) n n := hoth 6 (fun i hi => by (try dsimp only); omega)
      have o7 : a'.eval (.tmp 7) = .int .i64 (ii : Int) := hoth 7 (fun i hi => by (try dsimp only); omega)
      have o8 : a'.eval (.tmp 8) = .pointer (some ⟨go, 0, none⟩) := hoth 8 (fun i hi => by (try dsimp only); omega)
      have o10 : a'.eval (.tmp 10) = .pointer (some ⟨wr.heap.size, 0, none⟩) := hoth 10 (fun i hi => by (try dsimp only); omega)
      have o11 : a'.eval (.tmp 11) = .func (.func 112) #[] #[.pointer (some ⟨wr.heap.size, 0, none⟩), .pointer (some ⟨go, 0, none⟩), .pointer (some ⟨gC, 0, none⟩)] := hoth 11 (fun i hi => by (try dsimp only); omega)
      obtain ⟨ρ, hρ⟩ : ∃ ρ, ρ = a'.eval := ⟨_, rfl⟩
      have hc : ∀ v, ρ (.const v) = v := fun v => by rw [hρ]; rfl
      have hfn : ∀ f, ρ (.func f) = .func (.func f) #[] #[] := fun f => by rw [hρ]; rfl
      simp only [← hρ] at hd ⊢
      rw [← hρ] at o5
      rw [← hρ] at o6
      rw [← hρ] at o7
      rw [← hρ] at o8
      rw [← hρ] at o10
      rw [← hρ] at o11
      clear hρ hoth
      obtain rfl := Option.some.inj ho
      have e9 : ρ (.tmp 45) = .int .i64 (waT L p (j + 1)) := hd 9 (by decide)
      have e10 : ρ (.tmp 46) = .pointer (some ⟨gw, ii, none⟩) := hd 10 (by decide)
      clear hd
      have ec := hS.1.row.cell (i := ii) hlt
      have ef := hS.1.row.frozen ii
      exact ⟨V.setCell ⟨gw, ii, none⟩ (.int .i64 (waT L p (j + 1))), by simp only [execOp]; go_simp, HS1.out _ hS.1, cell_other hS.2.2 hgo⟩
     ·intro a' V hsz hdef hoth hok hS
      obtain ⟨us, hu1, hu2, rfl⟩ := act_mix 36 11 rfl hsz hdef (by simp) (fun k hk => hoth k (fun i hi => by show 36 + i ≠ k; omega))
      match us, hu1 with
      | [u36, u37, u38, u39, u40, u41, u42, u43, u44, u45, u46], _ =>
       clear hu2 hok
       have HS := Lib.hid hS
       clear hS
       go_wp2
       go_roundw
       case rel => exact ⟨j + 1, by omega, by go_num, HS⟩
       case measure => simp [intOf]; omega
    ·obtain rfl : j = n := by omega
     have PE : Hid (PRI wB gC [.slice ca cn cc] gw j (fun t => if t < ii + 1 then l.getD t 0 else 0) wr) := PI.out.1.congr (fun t _ => by
      rw [HLI.out]
      unfold wPart
      by_cases e : t < ii
      ·rw [if_pos e, if_pos (by omega)]
      ·rw [if_neg e]
       by_cases e2 : t = ii
       ·rw [if_pos e2, if_pos (by omega), e2]
       ·rw [if_neg e2, if_neg (by omega)])
     clear PI
     go_wp2
     go_roundw
     case rel => exact ⟨ii + 1, by omega, by go_num, PE⟩
     case measure => simp [intOf]; omega
  ·obtain rfl : ii = n := by omega
   have hl : ii = l.length := by rw [HR.out, waitL_len]; exact hrB.1
   have HRW : Hid (Row wr (some ⟨gw, 0, none⟩) ii l) := Row.of_is (PI.out.row.congr (fun j hj => by rw [if_pos hj])) hl
   have hbw := keep_below HBW.out PI.out.bel
   have hlt3 := PI.out.row.lt
   have hge : w.heap.size ≤ gw := by rw [← HGW.out]; exact HBW.out.size
   clear PI
   go_wp2
   go_ret
   exact ⟨_, _, _, rfl, HRW.out, Nat.le_refl _, hbw, fun p hp => by cases hp; exact ⟨hge, hlt3⟩⟩
end Go.Proofs.YtngehojibcmieaaGreatDoor.Kc
end
