/- What is proved here: contracts of what single instructions do (jump, branch, end, two, storeL, storeR, writeOut, lock, unlock). Conditions: those each theorem states. contracts of what single instructions do (storeL, storeR, writeOut, lock, unlock). Conditions: those each theorem states. contracts of what single instructions do (open, next, get, put). Conditions: those each theorem states. -/
import Derived.Test.YthncbnalnfbpnaaGreatDoorGd
import Derived.Test.YthncbnalnfbpnaaGreatDoorGr
import Derived.Deep.AppendLies
section
namespace Go.Proofs.YthncbnalnfbpnaaGreatDoor
open Go.ChangeShapes Go.WideShapes Go.RowKit Go.Maps

theorem cell_set_ne {w : World} {b i : Nat} {u v : Value} {p : Addr} (h : w.cell? p = some v) (hn : p.block ≠ b) : (w.setCell ⟨b, i, none⟩ u).cell? p = some v := by
  rw [World.cell?_of_block (w := w) (Go.Deep.blk_setCell_other _ _ _ _ hn)]; exact h
theorem jump_d (o c : Int) (a : Nat) (v : V) (ha : a ≤ 1000) (hp : v.pl ≤ 1000) : Does 85 (o, a, c) v { v with pl := v.pl + a } := by
  intro w F b L mp h
  have G := Chg.below (F := F) (x := b) (below_alloc w (.cells #[.int .i64 o, .int .i64 (a : Int), .int .i64 c] 70)).drew
  have h0 := (h.alloc (.cells #[.int .i64 o, .int .i64 (a : Int), .int .i64 c] 70)).drew
  have q1 : (w.alloc (.cells #[.int .i64 o, .int .i64 (a : Int), .int .i64 c] 70)).drew.cell? ⟨w.heap.size, 1, none⟩ = some (.int .i64 (a : Int)) := by simp
  have q2 := h0.c12
  have z2 := h0.fz 12
  have R := Lib.hid (h0.setPl (v.pl + a))
  have e1 : IntKind.i64.wrap ((v.pl : Int) + (a : Int)) = ((v.pl + a : Nat) : Int) := by rw [IntKind.wrap_i64]; omega
  have CB := Lib.hid (chg_set (F := F) (i := 12) (x := b) (w := (w.alloc (.cells #[.int .i64 o, .int .i64 (a : Int), .int .i64 c] 70)).drew) (u := .int .i64 ((v.pl + a : Nat) : Int)) h0.fb)
  clear h h0
  go_enter Tryz.func85, Tryz.ntmps85
  go_wp2
  go_region
  exact ⟨rfl, _, results_none rfl _ _ _, rfl, _, R.out, G.trans CB.out⟩
theorem branch_d (o c : Int) (a : Nat) (v : V) (s : List Int) (x : Int) (hs : v.stk = s ++ [x]) (hl : s.length ≤ 900) (ha : a ≤ 1000) (hp : v.pl ≤ 1000) : Does 86 (o, a, c) v { v with stk := s, pl := if x = 0 then v.pl + a else v.pl } := by
  intro w F b L mp h
  have G := Chg.below (F := F) (x := b) (below_alloc w (.cells #[.int .i64 o, .int .i64 (a : Int), .int .i64 c] 70))
  have h0 := h.alloc (.cells #[.int .i64 o, .int .i64 (a : Int), .int .i64 c] 70)
  have q0 : (w.alloc (.cells #[.int .i64 o, .int .i64 (a : Int), .int .i64 c] 70)).cell? ⟨w.heap.size, 0, none⟩ = some (.int .i64 o) := by simp
  have q1 : (w.alloc (.cells #[.int .i64 o, .int .i64 (a : Int), .int .i64 c] 70)).cell? ⟨w.heap.size, 1, none⟩ = some (.int .i64 (a : Int)) := by simp
  have q2 : (w.alloc (.cells #[.int .i64 o, .int .i64 (a : Int), .int .i64 c] 70)).cell? ⟨w.heap.size, 2, none⟩ = some (.int .i64 c) := by simp
  have hn : ¬ F w.heap.size := fun e => absurd (h.lt _ e) (by omega)
  have hnb : w.heap.size ≠ b := fun e => hn (e ▸ h.fb)
  have T := Lib.hid (fun W (F : Nat → Prop) (hW : Mac W F b L v) => take_any W F b L v s x hW hs (by omega))
  have J := Lib.hid (fun W (F : Nat → Prop) (hW : Mac W F b L { v with stk := s }) => jump_d o c a { v with stk := s } ha hp W F b L mp hW)
  clear h hs
  by_cases hx : x = 0
  · rw [if_pos hx]
    have e1 : (x == 0) = true := by simpa using hx
    go_enter Tryz.func86, Tryz.ntmps86
    go_wp2_with (first | (go_at_call 85; refine (J.out _ _ h1).mono ?_; rintro e w2 ⟨rfl, F2, h2, g2⟩) | (go_at_call 126; refine (T.out _ _ h0).mono ?_; rintro e w1 ⟨rfl, h1, g1⟩; have k0 := g1.cell q0 hn hnb; have k1 := g1.cell q1 hn hnb; have k2 := g1.cell q2 hn hnb))
    exact ⟨rfl, _, results_none rfl _ _ _, rfl, _, h2, (G.trans g1).trans g2⟩
  · rw [if_neg hx]
    have e1 : (x == 0) = false := by simpa using hx
    go_enter Tryz.func86, Tryz.ntmps86
    go_wp2_with (first | (go_at_call 126; refine (T.out _ _ h0).mono ?_; rintro e w1 ⟨rfl, h1, g1⟩))
    exact ⟨rfl, _, results_none rfl _ _ _, rfl, _, h1, G.trans g1⟩
theorem end_d (o a c : Int) (v : V) : Does 91 (o, a, c) v { v with goes := false } := by
  intro w F b L mp h
  have G := Chg.below (F := F) (x := b) (below_alloc w (.cells #[.int .i64 o, .int .i64 a, .int .i64 c] 70))
  have h0 := h.alloc (.cells #[.int .i64 o, .int .i64 a, .int .i64 c] 70)
  have q2 := h0.c11
  have z2 := h0.fz 11
  have R := Lib.hid (h0.setGoes false)
  have CB := Lib.hid (chg_set (F := F) (i := 11) (x := b) (w := (w.alloc (.cells #[.int .i64 o, .int .i64 a, .int .i64 c] 70))) (u := .bool false) h0.fb)
  clear h h0
  go_enter Tryz.func91, Tryz.ntmps91
  go_wp2
  exact ⟨rfl, _, results_none rfl _ _ _, rfl, _, R.out, G.trans CB.out⟩
theorem two_d (o a c : Int) (v : V) (s : List Int) (x y : Int) (hs : v.stk = s ++ [x, y]) (hl : s.length ≤ 900) : Does 71 (o, a, c) v (twoV v s a x y) := by
  intro w F b L mp h
  unfold twoV
  have G := Chg.below (F := F) (x := b) (below_alloc w (.cells #[.int .i64 o, .int .i64 a, .int .i64 c] 70))
  have h0 := h.alloc (.cells #[.int .i64 o, .int .i64 a, .int .i64 c] 70)
  have q1 : (w.alloc (.cells #[.int .i64 o, .int .i64 a, .int .i64 c] 70)).cell? ⟨w.heap.size, 1, none⟩ = some (.int .i64 a) := by simp
  have hn : ¬ F w.heap.size := fun e => absurd (h.lt _ e) (by omega)
  have hnb : w.heap.size ≠ b := fun e => hn (e ▸ h.fb)
  have T := Lib.hid (fun W (F : Nat → Prop) (hW : Mac W F b L v) => takeTwo_any W F b L v s x y hW hs hl)
  obtain ⟨r, hr⟩ : ∃ r, r = val a x y := ⟨_, rfl⟩
  have CN := fun W => two_any a x y W
  rw [← hr]
  rw [← hr] at CN
  cases hb : bad a y
  · rw [hb] at CN
    have N := Lib.hid CN
    have C := Lib.hid (fun W (F : Nat → Prop) (hW : Mac W F b L { v with stk := s }) => lay_any W F b L { v with stk := s } r hW (by show s.length ≤ 1000; omega))
    rw [if_neg (by simp)]
    clear h hs CN hr hb
    go_enter Tryz.func71, Tryz.ntmps71
    go_wp2_with (first | (go_at_call 125; refine (C.out _ _ h2).mono ?_; rintro e w3 ⟨rfl, F3, h3, g3⟩) | (go_at_call 128; refine (N.out _).mono ?_; rintro e w2 ⟨rfl, b2⟩; have h2 := h1.below b2) | (go_at_call 127; refine (T.out _ _ h0).mono ?_; rintro e w1 ⟨rfl, h1, g1⟩; have k1 := g1.cell q1 hn hnb))
    exact ⟨rfl, _, results_none rfl _ _ _, rfl, _, h3, ((G.trans g1).trans (Chg.below b2)).trans g3⟩
  · rw [hb] at CN
    have N := Lib.hid CN
    obtain ⟨n, hn9⟩ : ∃ n, n = IntKind.i64.wrap (v.flt + 1) := ⟨_, rfl⟩
    have C := Lib.hid (fun W (F : Nat → Prop) (hW : Mac W F b L { v with stk := s, flt := n }) => lay_any W F b L { v with stk := s, flt := n } r hW (by show s.length ≤ 1000; omega))
    rw [if_pos rfl, ← hn9]
    have e9 : IntKind.i64.wrap (v.flt + 1) = n := hn9.symm
    clear h hs CN hr hb hn9
    go_enter Tryz.func71, Tryz.ntmps71
    go_wp2_with (first | (go_at_call 125; have h3 := h2.setFlt n; have g3 := chg_set (F := F) (i := 72) (x := b) (w := w2) (u := .int .i64 n) h2.fb; refine (C.out _ _ h3).mono ?_; rintro e w4 ⟨rfl, F4, h4, g4⟩) | (go_at_call 128; refine (N.out _).mono ?_; rintro e w2 ⟨rfl, b2⟩; have h2 := h1.below b2; have m2 := h2.c72; have z2 := h2.fz 72) | (go_at_call 127; refine (T.out _ _ h0).mono ?_; rintro e w1 ⟨rfl, h1, g1⟩; have k1 := g1.cell q1 hn hnb))
    exact ⟨rfl, _, results_none rfl _ _ _, rfl, _, h4, (((G.trans g1).trans (Chg.below b2)).trans g3).trans g4⟩
theorem bit87_any (a : Nat) (h : a < 8) (w : World) : Calls Tryz.prog 132 #[.int .i64 a] w fun e w' => e = .returned (.int .i64 ((2 ^ a : Nat) : Int)) ∧ w = w' := by
  rcases (show a = 0 ∨ a = 1 ∨ a = 2 ∨ a = 3 ∨ a = 4 ∨ a = 5 ∨ a = 6 ∨ a = 7 by omega) with rfl | rfl | rfl | rfl | rfl | rfl | rfl | rfl
  all_goals
    go_enter Tryz.func132, Tryz.ntmps132
    go_wp2
    go_ret
    exact ⟨rfl, rfl⟩
end Go.Proofs.YthncbnalnfbpnaaGreatDoor
end

section
namespace Go.Proofs.YthncbnalnfbpnaaGreatDoor
open Go.ChangeShapes Go.WideShapes Go.RowKit Go.Maps

theorem storeL_d (o c : Int) (a : Nat) (v : V) (s : List Int) (x : Int) (hs : v.stk = s ++ [x]) (ha : a < 8) (hl : s.length ≤ 900) : Does 78 (o, a, c) v { v with stk := s, loc := v.loc.set a x } := by
  intro w F b L mp h
  have G := Chg.below (F := F) (x := b) (below_alloc w (.cells #[.int .i64 o, .int .i64 (a : Int), .int .i64 c] 70)).drew
  have h0 := (h.alloc (.cells #[.int .i64 o, .int .i64 (a : Int), .int .i64 c] 70)).drew
  have q1 : (w.alloc (.cells #[.int .i64 o, .int .i64 (a : Int), .int .i64 c] 70)).drew.cell? ⟨w.heap.size, 1, none⟩ = some (.int .i64 (a : Int)) := by simp
  have hn : ¬ F w.heap.size := fun e => absurd (h.lt _ e) (by omega)
  have hnb : w.heap.size ≠ b := fun e => hn (e ▸ h.fb)
  have T := Lib.hid (fun W (F : Nat → Prop) (hW : Mac W F b L v) => take_any W F b L v s x hW hs (by omega))
  obtain ⟨y, hy⟩ : ∃ y, v.loc.getD a 0 = y := ⟨_, rfl⟩
  have HY := Lib.hid hy
  have HS := Lib.hid (fun W (F : Nat → Prop) (hW : Mac W F b L { v with stk := s }) => hW.setLoc ha x)
  have ha2 : (a : Int) < 8 := by omega
  have ha3 : (0 : Int) ≤ (a : Int) := by omega
  clear h hs hy
  go_enter Tryz.func78, Tryz.ntmps78
  go_wp2
  go_region_held3 (fun W => W.cell? ⟨w.heap.size, 1, none⟩ = some (.int .i64 (a : Int))) (first | exact q1 | exact k1 | exact k3) (first | (go_at_call 126; refine (T.out _ _ h0).mono ?_; rintro e w1 ⟨rfl, h1, g1⟩; have k1 := g1.cell q1 hn hnb; have k2 := h1.cL ha HY.out; have z2 := h1.fz (14 + a); have k3 := cell_set_ne (i := 14 + a) (u := .int .i64 x) k1 hnb))
  exact ⟨rfl, _, results_none rfl _ _ _, rfl, _, HS.out _ _ h1, (G.trans g1).trans (chg_set h1.fb)⟩

theorem storeR_d (o c : Int) (a : Nat) (v : V) (s : List Int) (x : Int) (hs : v.stk = s ++ [x]) (ha : a < 8) (hl : s.length ≤ 900) : Does 80 (o, a, c) v { v with stk := s, ret := v.ret.set a x } := by
  intro w F b L mp h
  have G := Chg.below (F := F) (x := b) (below_alloc w (.cells #[.int .i64 o, .int .i64 (a : Int), .int .i64 c] 70)).drew
  have h0 := (h.alloc (.cells #[.int .i64 o, .int .i64 (a : Int), .int .i64 c] 70)).drew
  have q1 : (w.alloc (.cells #[.int .i64 o, .int .i64 (a : Int), .int .i64 c] 70)).drew.cell? ⟨w.heap.size, 1, none⟩ = some (.int .i64 (a : Int)) := by simp
  have hn : ¬ F w.heap.size := fun e => absurd (h.lt _ e) (by omega)
  have hnb : w.heap.size ≠ b := fun e => hn (e ▸ h.fb)
  have T := Lib.hid (fun W (F : Nat → Prop) (hW : Mac W F b L v) => take_any W F b L v s x hW hs (by omega))
  obtain ⟨y, hy⟩ : ∃ y, v.ret.getD a 0 = y := ⟨_, rfl⟩
  have HY := Lib.hid hy
  have HS := Lib.hid (fun W (F : Nat → Prop) (hW : Mac W F b L { v with stk := s }) => hW.setRet ha x)
  have ha2 : (a : Int) < 8 := by omega
  have ha3 : (0 : Int) ≤ (a : Int) := by omega
  clear h hs hy
  go_enter Tryz.func80, Tryz.ntmps80
  go_wp2
  go_region_held3 (fun W => W.cell? ⟨w.heap.size, 1, none⟩ = some (.int .i64 (a : Int))) (first | exact q1 | exact k1 | exact k3) (first | (go_at_call 126; refine (T.out _ _ h0).mono ?_; rintro e w1 ⟨rfl, h1, g1⟩; have k1 := g1.cell q1 hn hnb; have k2 := h1.cR ha HY.out; have z2 := h1.fz (3 + a); have k3 := cell_set_ne (i := 3 + a) (u := .int .i64 x) k1 hnb))
  exact ⟨rfl, _, results_none rfl _ _ _, rfl, _, HS.out _ _ h1, (G.trans g1).trans (chg_set h1.fb)⟩

theorem Mac.cO {w : World} {F : Nat → Prop} {b : Nat} {L : List (Int × Int × Int)} {v : V} (h : Mac w F b L v) {a : Nat} {z : Bool × Int} (ha : a < 16) (hx : v.outs.getD a (false, 0) = z) : w.cell? ⟨b, 38 + a * 2, none⟩ = some (.bool z.1) ∧ w.cell? ⟨b, 38 + a * 2 + 1, none⟩ = some (.int .i64 z.2) := by
  obtain ⟨rv, bm, st, lp, h⟩ := h
  rw [h.cells.cell (i := 38 + a * 2) (by omega), h.cells.cell (i := 38 + a * 2 + 1) (by omega)]
  unfold mcell
  constructor
  · iterate 9 rw [if_neg (by omega)]
    rw [if_pos (by omega), if_pos (by omega), show (38 + a * 2 - 38) / 2 = a by omega, hx]
  · iterate 9 rw [if_neg (by omega)]
    rw [if_pos (by omega), if_neg (by omega), show (38 + a * 2 + 1 - 38) / 2 = a by omega, hx]
theorem writeOut_d (o c : Int) (a : Nat) (v : V) (s : List Int) (x : Int) (hs : v.stk = s ++ [x]) (ha : a < 16) (hl : s.length ≤ 900) : Does 82 (o, a, c) v { v with stk := s, outs := v.outs.set a (true, x) } := by
  intro w F b L mp h
  have G := Chg.below (F := F) (x := b) (below_alloc w (.cells #[.int .i64 o, .int .i64 (a : Int), .int .i64 c] 70)).drew
  have h0 := (h.alloc (.cells #[.int .i64 o, .int .i64 (a : Int), .int .i64 c] 70)).drew
  have q1 : (w.alloc (.cells #[.int .i64 o, .int .i64 (a : Int), .int .i64 c] 70)).drew.cell? ⟨w.heap.size, 1, none⟩ = some (.int .i64 (a : Int)) := by simp
  have hn : ¬ F w.heap.size := fun e => absurd (h.lt _ e) (by omega)
  have hnb : w.heap.size ≠ b := fun e => hn (e ▸ h.fb)
  have T := Lib.hid (fun W (F : Nat → Prop) (hW : Mac W F b L v) => take_any W F b L v s x hW hs (by omega))
  obtain ⟨y, hy⟩ : ∃ y, v.outs.getD a (false, 0) = y := ⟨_, rfl⟩
  have HY := Lib.hid hy
  have HS := Lib.hid (fun W (F : Nat → Prop) (hW : Mac W F b L { v with stk := s }) => hW.setOut ha x)
  have ha2 : (a : Int) < 16 := by omega
  have ha3 : (0 : Int) ≤ (a : Int) := by omega
  clear h hs hy
  go_enter Tryz.func82, Tryz.ntmps82
  go_wp2
  go_region_held3 (fun W => W.cell? ⟨w.heap.size, 1, none⟩ = some (.int .i64 (a : Int))) (first | exact q1 | exact k1 | exact k3) (first | (go_at_call 126; refine (T.out _ _ h0).mono ?_; rintro e w1 ⟨rfl, h1, g1⟩; have k1 := g1.cell q1 hn hnb; have k2 := (h1.cO ha HY.out).1; have k4 := (h1.cO ha HY.out).2; have z2 := h1.fz (38 + a * 2); have z4 := h1.fz (38 + a * 2 + 1); have k3 := cell_set_ne (i := 38 + a * 2 + 1) (u := .int .i64 x) (cell_set_ne (i := 38 + a * 2) (u := .bool true) k1 hnb) hnb))
  exact ⟨rfl, _, results_none rfl _ _ _, rfl, _, HS.out _ _ h1, ((G.trans g1).trans (chg_set h1.fb)).trans (chg_set h1.fb)⟩

theorem lock_d (o c : Int) (a : Nat) (v : V) (ha : a < 8) : Does 89 (o, a, c) v { v with held := bits .or .i64 v.held ((2 ^ a : Nat) : Int) } := by
  intro w F b L mp h
  have G := Chg.below (F := F) (x := b) (below_alloc w (.cells #[.int .i64 o, .int .i64 (a : Int), .int .i64 c] 70)).drew
  have h0 := (h.alloc (.cells #[.int .i64 o, .int .i64 (a : Int), .int .i64 c] 70)).drew
  have q1 : (w.alloc (.cells #[.int .i64 o, .int .i64 (a : Int), .int .i64 c] 70)).drew.cell? ⟨w.heap.size, 1, none⟩ = some (.int .i64 (a : Int)) := by simp
  have hn : ¬ F w.heap.size := fun e => absurd (h.lt _ e) (by omega)
  have hnb : w.heap.size ≠ b := fun e => hn (e ▸ h.fb)
  have q2 := h0.c71
  have z2 := h0.fz 71
  obtain ⟨y, hy⟩ : ∃ y, y = ((2 ^ a : Nat) : Int) := ⟨_, rfl⟩
  have T := fun W => bit87_any a ha W
  rw [← hy] at T
  have BT := Lib.hid T
  rw [← hy]
  have HS := Lib.hid (h0.setHeld (bits .or .i64 v.held y))
  have CB := Lib.hid (chg_set (F := F) (i := 71) (x := b) (w := (w.alloc (.cells #[.int .i64 o, .int .i64 (a : Int), .int .i64 c] 70)).drew) (u := .int .i64 (bits .or .i64 v.held y)) h0.fb)
  have k3 := cell_set_ne (i := 71) (u := .int .i64 (bits .or .i64 v.held y)) q1 hnb
  clear h h0 T hy
  go_enter Tryz.func89, Tryz.ntmps89
  go_wp2
  go_region_with (first | (go_at_call 132; refine (BT.out _).mono ?_; rintro e w1 ⟨rfl, rfl⟩))
  all_goals exact ⟨rfl, _, results_none rfl _ _ _, rfl, _, HS.out, G.trans CB.out⟩

theorem unlock_d (o c : Int) (a : Nat) (v : V) (ha : a < 8) : Does 90 (o, a, c) v { v with held := bits .andNot .i64 v.held ((2 ^ a : Nat) : Int) } := by
  intro w F b L mp h
  have G := Chg.below (F := F) (x := b) (below_alloc w (.cells #[.int .i64 o, .int .i64 (a : Int), .int .i64 c] 70)).drew
  have h0 := (h.alloc (.cells #[.int .i64 o, .int .i64 (a : Int), .int .i64 c] 70)).drew
  have q1 : (w.alloc (.cells #[.int .i64 o, .int .i64 (a : Int), .int .i64 c] 70)).drew.cell? ⟨w.heap.size, 1, none⟩ = some (.int .i64 (a : Int)) := by simp
  have hn : ¬ F w.heap.size := fun e => absurd (h.lt _ e) (by omega)
  have hnb : w.heap.size ≠ b := fun e => hn (e ▸ h.fb)
  have q2 := h0.c71
  have z2 := h0.fz 71
  obtain ⟨y, hy⟩ : ∃ y, y = ((2 ^ a : Nat) : Int) := ⟨_, rfl⟩
  have T := fun W => bit87_any a ha W
  rw [← hy] at T
  have BT := Lib.hid T
  rw [← hy]
  have HS := Lib.hid (h0.setHeld (bits .andNot .i64 v.held y))
  have CB := Lib.hid (chg_set (F := F) (i := 71) (x := b) (w := (w.alloc (.cells #[.int .i64 o, .int .i64 (a : Int), .int .i64 c] 70)).drew) (u := .int .i64 (bits .andNot .i64 v.held y)) h0.fb)
  have k3 := cell_set_ne (i := 71) (u := .int .i64 (bits .andNot .i64 v.held y)) q1 hnb
  clear h h0 T hy
  go_enter Tryz.func90, Tryz.ntmps90
  go_wp2
  go_region_with (first | (go_at_call 132; refine (BT.out _).mono ?_; rintro e w1 ⟨rfl, rfl⟩))
  all_goals exact ⟨rfl, _, results_none rfl _ _ _, rfl, _, HS.out, G.trans CB.out⟩

end Go.Proofs.YthncbnalnfbpnaaGreatDoor
end

section
namespace Go.Proofs.YthncbnalnfbpnaaGreatDoor
open Go.ChangeShapes Go.WideShapes Go.RowKit Go.Maps

theorem loop_info : (Tryz.prog.info? 166).map (fun i => (i.zero, i.size, i.bytes)) = some (some (.agg #[.int .i64 0, .int .i64 0]), 2, 16) := by kernel_rfl
/-- The loops' row is another one; the machine's cell is as it was. -/
theorem MacC.lpsIn {w w' : World} {F : Nat → Prop} {b bm : Nat} {rv st lp lp' : Value} {L : List (Int × Int × Int)} {v : V} {l : List (Nat × Int)} {F' : Nat → Prop} (h : MacC w F b rv bm st lp L v)
    (hs : w'.ownsRow 0 166 2 lp' l.length (lpC l)) (hk : ∀ i, F i → some i ≠ lp.ownBlock → w'.heap[i]? = w.heap[i]?)
    (hF : ∀ i, F i → F' i) (hF2 : ∀ k, lp'.ownBlock = some k → F' k) (hF3 : ∀ k, F' k → k < w'.heap.size) (hb' : ∀ k, lp'.ownBlock = some k → k ≠ b) :
    MacC (w'.setCell ⟨b, 70, none⟩ lp') F' b rv bm st lp' L { v with lps := l } := by
  have keep : ∀ i t cur, F i → w.heap[i]? = some (.cells cur t (0, 0)) → t ≠ 166 → w'.heap[i]? = w.heap[i]? := by
    intro i t cur hi hc ht
    refine hk i hi ?_
    intro e
    obtain ⟨cur2, hc2⟩ := own_type h.lps e.symm
    rw [hc] at hc2; simp at hc2; exact ht hc2.2
  obtain ⟨cb, hcb, hcn, hcf⟩ := h.cells
  have hb : w'.heap[b]? = w.heap[b]? := keep b _ _ h.fb hcb (by decide)
  have hmap : w'.heap[bm]? = w.heap[bm]? := by
    refine hk bm h.fm ?_
    intro e
    obtain ⟨cur2, hc2⟩ := own_type h.lps e.symm
    obtain ⟨es, c, hm⟩ := h.map.isMap
    rw [hm] at hc2; cases hc2
  exact {
    cells := ((h.cells.of_block hb).set 70 lp').congr (fun j hj => by
      unfold mcell
      by_cases e : j = 70
      · subst e; simp
      · rw [if_neg e]
        simp only [e, if_false])
    row := own_of_block h.row (fun g hg => by
      obtain ⟨cur, hc⟩ := own_type h.row hg
      rw [Go.Deep.blk_setCell_other _ _ _ _ (h.ne_row hg)]; exact keep g _ _ (h.fr g hg) hc (by decide))
    map := h.map.of_block (by rw [Go.Deep.blk_setCell_other _ _ _ _ h.ne_map]; exact hmap)
    lps := own_of_block hs (fun g hg => Go.Deep.blk_setCell_other _ _ _ _ (hb' g hg))
    stk := own_of_block h.stk (fun g hg => by
      obtain ⟨cur, hc⟩ := own_type h.stk hg
      rw [Go.Deep.blk_setCell_other _ _ _ _ (h.ne_stk hg)]; exact keep g _ _ (h.fs g hg) hc (by decide))
    fb := hF _ h.fb
    fm := hF _ h.fm
    fr := fun k hk => hF _ (h.fr k hk)
    fl := hF2
    fs := fun k hk => hF _ (h.fs k hk)
    lt := fun k hk => by have := hF3 k hk; simpa [World.setCell] using this
    rl := h.rl
    ll := h.ll
    il := h.il
    ol := h.ol }
/-- .. and with the very row, other content. -/
theorem MacC.lpsAt {w w' : World} {F : Nat → Prop} {b bm : Nat} {rv st lp : Value} {L : List (Int × Int × Int)} {v : V} {l : List (Nat × Int)} (h : MacC w F b rv bm st lp L v)
    (hs : w'.ownsRow 0 166 2 lp l.length (lpC l)) (hk : ∀ i, F i → some i ≠ lp.ownBlock → w'.heap[i]? = w.heap[i]?) (hsz : w.heap.size ≤ w'.heap.size) :
    MacC w' F b rv bm st lp L { v with lps := l } := by
  have keep : ∀ i t cur, F i → w.heap[i]? = some (.cells cur t (0, 0)) → t ≠ 166 → w'.heap[i]? = w.heap[i]? := by
    intro i t cur hi hc ht
    refine hk i hi ?_
    intro e
    obtain ⟨cur2, hc2⟩ := own_type h.lps e.symm
    rw [hc] at hc2; simp at hc2; exact ht hc2.2
  obtain ⟨cb, hcb, hcn, hcf⟩ := h.cells
  exact {
    cells := (h.cells.of_block (keep b _ _ h.fb hcb (by decide))).congr (fun j hj => by unfold mcell; rfl)
    row := own_of_block h.row (fun g hg => by
      obtain ⟨cur, hc⟩ := own_type h.row hg
      exact keep g _ _ (h.fr g hg) hc (by decide))
    map := h.map.of_block (by
      refine hk bm h.fm ?_
      intro e
      obtain ⟨cur2, hc2⟩ := own_type h.lps e.symm
      obtain ⟨es, c, hm⟩ := h.map.isMap
      rw [hm] at hc2; cases hc2)
    lps := hs
    stk := own_of_block h.stk (fun g hg => by
      obtain ⟨cur, hc⟩ := own_type h.stk hg
      exact keep g _ _ (h.fs g hg) hc (by decide))
    fb := h.fb
    fm := h.fm
    fr := h.fr
    fl := h.fl
    fs := h.fs
    lt := fun k hk => Nat.lt_of_lt_of_le (h.lt k hk) hsz
    rl := h.rl
    ll := h.ll
    il := h.il
    ol := h.ol }
theorem own_pop2 {w : World} {g cap m : Nat} {xs : List Value} {x y : Value} (h : w.ownsRow 0 166 2 (.slice (some ⟨g, 0, none⟩) (m + 1) cap) (m + 1) (xs ++ [x, y])) :
    w.ownsRow 0 166 2 (.slice (some ⟨g, 0, none⟩) m cap) m xs := by
  have hl := h.1
  simp at hl
  refine ⟨by omega, ?_⟩
  rcases h.2 with ⟨h1, h2⟩ | ⟨g', cap', cur, h1, h2, h3, h4, h5, h6, h7⟩
  · omega
  · simp only [Value.slice.injEq, Option.some.injEq, Addr.mk.injEq] at h1
    obtain ⟨⟨rfl, _, _⟩, _, rfl⟩ := h1
    refine Or.inr ⟨g, cap, cur, rfl, h2, h3, by omega, h5, h6, ?_⟩
    have := congrArg (List.take (m * 2)) h7
    rw [List.take_take] at this
    have e : min (m * 2) ((m + 1) * 2) = m * 2 := by omega
    rw [e] at this
    rw [this, List.take_append_of_le_length (by omega), List.take_of_length_le (by omega)]
theorem own_last2 {w : World} {v : Value} {m : Nat} {xs : List Value} {x y : Value} (h : w.ownsRow 0 166 2 v (m + 1) (xs ++ [x, y])) :
    ∃ g cap, v = .slice (some ⟨g, 0, none⟩) (m + 1) cap ∧ m + 1 ≤ cap ∧ w.cell? ⟨g, m * 2, none⟩ = some x ∧ w.cell? ⟨g, m * 2 + 1, none⟩ = some y := by
  have hl := h.1
  simp at hl
  rcases h.2 with ⟨_, h2⟩ | ⟨g, cap, cur, h1, h2, h3, h4, _, h6, h7⟩
  · omega
  · refine ⟨g, cap, h1, h4, ?_⟩
    subst h1
    rw [h.cellAt (m * 2) (by omega), h.cellAt (m * 2 + 1) (by omega), List.getElem?_append_right (by omega), List.getElem?_append_right (by omega)]
    have e1 : m * 2 - xs.length = 0 := by omega
    have e2 : m * 2 + 1 - xs.length = 1 := by omega
    rw [e1, e2]; simp
end Go.Proofs.YthncbnalnfbpnaaGreatDoor
end
