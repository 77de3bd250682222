/- What is proved here: contracts of ceil.rightUse, its test, slices.IndexFunc and ContainsFunc at it, and ceil.Right. Conditions: rows are not too long. -/
import Derived.Test.YthicoekoeffpaaaWi
namespace Go.Proofs.Ythicoekoeffpaaa
open Go.ChangeShapes Go.WideShapes Go.RowKit

/-- A block of cells, beside what was there. -/
def One (w : World) (b : Nat) (cs : List Value) (W : World) : Prop := Below w.heap.size w W ∧ ∀ j v, cs[j]? = some v → W.cell? ⟨b, j, none⟩ = some v
theorem One.keep {w W W' : World} {b : Nat} {cs : List Value} (h : One w b cs W) (hb : Below W.heap.size W W') : One w b cs W' := ⟨keep_below h.1 hb, fun j v hj => keep_cell hb (h.2 j v hj)⟩
theorem One.new (w : World) (cs : Array Value) (t : TypeId) : One w w.heap.size cs.toList (w.alloc (.cells cs t)) := ⟨below_alloc _ _, cells_new w cs t⟩
set_option maxHeartbeats 1000000 in
set_option maxRecDepth 100000 in
theorem rightUse_any (B pr : Int) (xa : Option Addr) (xn xc : Nat) (la : Option Addr) (ln lc : Nat) (u : UsP) (w : World) (hp : pr = u.pr) (hx : Row w xa xn u.bl) (hxn : xn ≤ 140737488355328) (hl : Row w la ln u.le) (hln : ln ≤ 140737488355328) (r : Bool) (hq : okU B u = r) :
    Calls Try.prog 25 #[.int .i64 B, .agg #[.int .i64 pr, .slice xa xn xc, .slice la ln lc]] w fun e w' => e = .returned (.bool r) ∧ Below w.heap.size w w' := by
  obtain ⟨x1, e1⟩ : ∃ x, inB pr 1 100 = x := ⟨_, rfl⟩
  obtain ⟨x3, e3⟩ : ∃ x, riseE (-1) B u.bl = x := ⟨_, rfl⟩
  obtain ⟨x4, e4⟩ : ∃ x, u.le.all lenE = x := ⟨_, rfl⟩
  have HS : Hid ((x1 && (decide (ln = xn) && (x3 && x4))) = r) := by
    show _ = _
    rw [← hq, ← e1, ← e3, ← e4, hp]; unfold okU; rw [hx.1, hl.1]
  have A1 := Lib.hid (fun W => inside_any pr 1 100 W)
  rw [e1] at A1
  have A3 := Lib.hid (fun W (h : Below w.heap.size w W) => rise_any xa xn xc u.bl B W (hx.below h) hxn x3 e3)
  have A4 := Lib.hid (fun W (h : Below w.heap.size w W) => rightLens_any la ln lc u.le W (hl.below h) hln x4 e4)
  have I1 := Lib.hid (One.new w #[.int .i64 pr, .slice xa xn xc, .slice la ln lc] 37)
  have d0 := I1.out.2 0 _ rfl
  have d1 := I1.out.2 1 _ rfl
  have d2 := I1.out.2 2 _ rfl
  clear hq hp hx hl e1 e3 e4
  cases x1
  · have HR : Hid (r = false) := HS.out.symm
    go_enter Try.func25, Try.ntmps25
    go_wp2_with (go_at_call 22; refine (A1.out _).mono ?_; rintro e w1 ⟨rfl, rfl⟩)
    go_ret
    exact ⟨by rw [HR.out]; rfl, I1.out.1⟩
  by_cases hlen : ln = xn
  · have HS2 : Hid ((x3 && x4) = r) := by have := HS.out; rw [decide_eq_true hlen] at this; exact this
    clear HS
    subst hlen
    cases x3
    · have HR : Hid (r = false) := HS2.out.symm
      go_enter Try.func25, Try.ntmps25
      go_wp2_with (first
        | (go_at_call 35; refine (A3.out _ I1.out.1).mono ?_; rintro e w2 ⟨rfl, hb2⟩; have J2 := I1.out.keep hb2)
        | (go_at_call 22; refine (A1.out _).mono ?_; rintro e w1 ⟨rfl, rfl⟩))
      go_ret
      exact ⟨by rw [HR.out]; rfl, J2.1⟩
    · have HR : Hid (x4 = r) := HS2.out
      go_enter Try.func25, Try.ntmps25
      go_wp2_with (first
        | (go_at_call 36; refine (A4.out _ J2.1).mono ?_; rintro e w3 ⟨rfl, hb3⟩; have J3 := J2.keep hb3)
        | (go_at_call 35; refine (A3.out _ I1.out.1).mono ?_; rintro e w2 ⟨rfl, hb2⟩; have J2 := I1.out.keep hb2; have d3 := J2.2 2 _ rfl)
        | (go_at_call 22; refine (A1.out _).mono ?_; rintro e w1 ⟨rfl, rfl⟩))
      go_ret
      exact ⟨by rw [HR.out]; simp, J3.1⟩
  · have hleni : ¬ (ln : Int) = (xn : Int) := by omega
    have HR : Hid (r = false) := by have := HS.out; rw [decide_eq_false hlen] at this; exact this.symm
    go_enter Try.func25, Try.ntmps25
    go_wp2_with (go_at_call 22; refine (A1.out _).mono ?_; rintro e w1 ⟨rfl, rfl⟩)
    go_ret
    exact ⟨by rw [HR.out]; rfl, I1.out.1⟩
set_option maxHeartbeats 1000000 in
set_option maxRecDepth 100000 in
theorem notUse_any (B pr : Int) (xa : Option Addr) (xn xc : Nat) (la : Option Addr) (ln lc : Nat) (u : UsP) (w : World) (g : Nat) (hg : w.cell? ⟨g, 0, none⟩ = some (.int .i64 B)) (hp : pr = u.pr) (hx : Row w xa xn u.bl) (hxn : xn ≤ 140737488355328) (hl : Row w la ln u.le) (hln : ln ≤ 140737488355328) (r : Bool) (hq : okU B u = r) :
    Calls Try.prog 24 #[.agg #[.int .i64 pr, .slice xa xn xc, .slice la ln lc], .pointer (some ⟨g, 0, none⟩)] w fun e w' => e = .returned (.bool (!r)) ∧ Below w.heap.size w w' := by
  have I1 := Lib.hid (One.new w #[.int .i64 pr, .slice xa xn xc, .slice la ln lc] 37)
  have C := Lib.hid (fun W (h : Below w.heap.size w W) => rightUse_any B pr xa xn xc la ln lc u W hp (hx.below h) hxn (hl.below h) hln r hq)
  have d0 := I1.out.2 0 _ rfl
  have d1 := I1.out.2 1 _ rfl
  have d2 := I1.out.2 2 _ rfl
  have hg' := keep_cell I1.out.1 hg
  clear hg hp hx hl hq
  go_enter Try.func24, Try.ntmps24
  go_wp2_with (go_at_call 25; refine (C.out _ I1.out.1).mono ?_; rintro e w1 ⟨rfl, hb⟩; have J := I1.out.keep hb)
  go_ret
  exact ⟨rfl, J.1⟩
set_option maxHeartbeats 1000000 in
set_option maxRecDepth 100000 in
theorem indexUse_any (B : Int) (a : Option Addr) (n c : Nat) (L : List UsP) (w : World) (g : Nat) (hg : w.cell? ⟨g, 0, none⟩ = some (.int .i64 B)) (hr : RowU w a n L) (hn : n ≤ 140737488355328) :
    Calls Try.prog 34 #[.slice a n c, .func (.func 24) #[] #[.pointer (some ⟨g, 0, none⟩)]] w fun e w' => ∃ i, e = .returned (.int .i64 i) ∧ (decide (0 ≤ i)) = (!L.all (okU B)) ∧ Below w.heap.size w w' := by
  have HL := Lib.hid hr.1
  obtain ⟨r, hq⟩ : ∃ r, L.all (okU B) = r := ⟨_, rfl⟩
  rw [hq]
  have HQ : Hid ((L.drop 0).all (okU B) = r) := hq
  have HG := Lib.hid hg
  clear hq hg
  go_enter Try.func34, Try.ntmps34
  go_wp2
  go_loopw [8] (fun i wr => ∃ k : Nat, k ≤ n ∧ i = .int .i64 k ∧ Hid ((L.drop k).all (okU B) = r) ∧ Below w.heap.size w wr) (fun i _ => n - (intOf i).toNat)
  case atStart => exact ⟨0, by omega, rfl, HQ, Below.refl _ _⟩
  case round =>
    obtain ⟨k, hk, rfl, HA, hbl⟩ := hrel
    by_cases hlt : k < n
    · obtain ⟨b1, o1, u, xa, xn, xc, la, ln, lc, rfl, hB1, hx, ⟨hX, hXm⟩, ⟨hE, hEm⟩, h0, h1, h2⟩ := hr.item hbl hlt
      have HE := Lib.hid (all_step (f := okU B) hx)
      clear hx
      have i1 : (0 : Int) ≤ (k : Int) := by omega
      have i2 : (k : Int) < (n : Int) := by omega
      obtain ⟨v, hv⟩ : ∃ v, okU B u = v := ⟨_, rfl⟩
      have CE := Lib.hid (notUse_any B u.pr xa xn xc la ln lc u wr g (keep_cell hbl HG.out) rfl (hX.below hbl) hXm (hE.below hbl) hEm v hv)
      have HV := Lib.hid hv
      clear hv hX hE
      cases v
      · have HR : Hid (r = false) := by have := HA.out; rw [HE.out, HV.out] at this; exact this.symm
        go_wp2_with (go_at_call 24; refine CE.out.mono ?_; rintro e w2 ⟨rfl, hb2⟩)
        go_ret
        exact ⟨_, rfl, by rw [HR.out]; simp, keep_below hbl hb2⟩
      · have HA2 : Hid ((L.drop (k + 1)).all (okU B) = r) := by have := HA.out; rw [HE.out, HV.out] at this; exact this
        go_wp2_with (go_at_call 24; refine CE.out.mono ?_; rintro e w2 ⟨rfl, hb2⟩)
        go_roundw
        case rel => exact ⟨k + 1, by omega, by go_num, HA2, keep_below hbl hb2⟩
        case measure => simp [intOf]; omega
    · have hkn : k = n := by omega
      subst hkn
      have HR : Hid (r = true) := by have := HA.out; rw [List.drop_of_length_le (by rw [HL.out]; exact Nat.le_refl _)] at this; exact this.symm
      go_wp2
      go_ret
      exact ⟨_, rfl, by rw [HR.out]; rfl, hbl⟩
theorem containsUse_any (B : Int) (a : Option Addr) (n c : Nat) (L : List UsP) (w : World) (g : Nat) (hg : w.cell? ⟨g, 0, none⟩ = some (.int .i64 B)) (hr : RowU w a n L) (hn : n ≤ 140737488355328) :
    Calls Try.prog 23 #[.slice a n c, .func (.func 24) #[] #[.pointer (some ⟨g, 0, none⟩)]] w fun e w' => e = .returned (.bool (!L.all (okU B))) ∧ Below w.heap.size w w' := by
  have C := Lib.hid (indexUse_any B a n c L w g hg hr hn)
  clear hr hn hg
  go_enter Try.func23, Try.ntmps23
  go_wp2_with (go_at_call 34; refine C.out.mono ?_; rintro e w1 ⟨i, rfl, hi, hb⟩)
  go_ret
  exact ⟨by rw [← hi]; rfl, hb⟩
set_option maxHeartbeats 1000000 in
set_option maxRecDepth 100000 in
theorem right_any (B : Int) (a : Option Addr) (n c : Nat) (L : List UsP) (w : World) (hr : RowU w a n L) (hn : n ≤ 140737488355328) (r : Bool) (hq : okL B L = r) :
    Calls Try.prog 12 #[.int .i64 B, .slice a n c] w fun e w' => e = .returned (.bool r) ∧ Below w.heap.size w w' := by
  have hmf : ∀ (fn : Fn) (first cap : Array Value) (w : World), (Instr.makeFunc fn first cap).run Try.prog w = .ok (.func fn first cap) w := fun _ _ _ _ => rfl
  obtain ⟨x1, e1⟩ : ∃ x, inB B 0 8 = x := ⟨_, rfl⟩
  obtain ⟨x3, e3⟩ : ∃ x, L.all (okU B) = x := ⟨_, rfl⟩
  have HS : Hid ((x1 && (decide (n ≤ 8) && x3)) = r) := by
    show _ = _
    rw [← hq, ← e1, ← e3]; unfold okL; rw [hr.1]
  have A1 := Lib.hid (fun W => inside_any B 0 8 W)
  rw [e1] at A1
  have I1 := Lib.hid (One.new w #[.int .i64 B] 3)
  have d0 := I1.out.2 0 _ rfl
  have A3 := Lib.hid (containsUse_any B a n c L _ w.heap.size d0 (hr.below I1.out.1) hn)
  rw [e3] at A3
  clear hq hr e1 e3
  cases x1
  · have HR : Hid (r = false) := HS.out.symm
    go_enter Try.func12, Try.ntmps12
    go_wp2_with (go_at_call 22; refine (A1.out _).mono ?_; rintro e w1 ⟨rfl, rfl⟩)
    go_ret
    exact ⟨by rw [HR.out]; rfl, I1.out.1⟩
  by_cases hlen : n ≤ 8
  · have hleni : ¬ (8 : Int) < (n : Int) := by omega
    have HR : Hid (x3 = r) := by have := HS.out; rw [decide_eq_true hlen] at this; exact this
    go_enter Try.func12, Try.ntmps12
    go_wp2_with (first
      | (go_at_call 23; refine A3.out.mono ?_; rintro e w2 ⟨rfl, hb2⟩; have J2 := I1.out.keep hb2)
      | (go_at_call 22; refine (A1.out _).mono ?_; rintro e w1 ⟨rfl, rfl⟩))
    go_ret
    exact ⟨by rw [HR.out]; simp, J2.1⟩
  · have hleni : (8 : Int) < (n : Int) := by omega
    have HR : Hid (r = false) := by have := HS.out; rw [decide_eq_false hlen] at this; exact this.symm
    go_enter Try.func12, Try.ntmps12
    go_wp2_with (go_at_call 22; refine (A1.out _).mono ?_; rintro e w1 ⟨rfl, rfl⟩)
    go_ret
    exact ⟨by rw [HR.out]; rfl, I1.out.1⟩
end Go.Proofs.Ythicoekoeffpaaa
