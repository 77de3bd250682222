/- What is proved here: what stands on the stack is of the kinds that are told. Conditions: those each theorem states. contracts of (*vm.Machine).given, Running, At, Held, Faults, Steps and vm.eventOf, of a machine and of what is none. Conditions: those each theorem states. the contract of (*vm.Machine).Step. Conditions: the machine runs; its place is in the row; the instruction's deed does what it should. the contract of (*vm.Machine).Step by the plain step; of a machine that does not run, or without blocks; of Start. Conditions: those each theorem states. -/
import Derived.Test.YthncbnalnfbpnaaGreatDoorGf
import Derived.Test.YthncbnalnfbpnaaGreatDoorGd
import Derived.LaidEqlPtr
section
namespace Go.Proofs.YthncbnalnfbpnaaGreatDoor

/-- Numbers are of kinds: where a truth stands there is 0 or 1. -/
def Typed (s : List UInt8) (l : List Int) : Prop := l.length = s.length ∧ ∀ (k : Nat) (x : Int), l[k]? = some x → s[k]? = some 98 → x = 0 ∨ x = 1
theorem Typed.nil : Typed [] [] := ⟨rfl, fun k x h => by simp at h⟩
theorem Typed.one {c : UInt8} {x : Int} (h : c = 98 → x = 0 ∨ x = 1) : Typed [c] [x] := by
  refine ⟨rfl, fun k y h1 h2 => ?_⟩
  rcases k with _ | k
  · simp at h1 h2; subst h1; exact h h2
  · simp at h1
theorem Typed.append {s t : List UInt8} {l m : List Int} (h : Typed s l) (k : Typed t m) : Typed (s ++ t) (l ++ m) := by
  refine ⟨by simp [h.1, k.1], fun i x h1 h2 => ?_⟩
  by_cases hi : i < l.length
  · rw [List.getElem?_append_left hi] at h1
    rw [List.getElem?_append_left (by rw [← h.1]; exact hi)] at h2
    exact h.2 i x h1 h2
  · rw [List.getElem?_append_right (by omega)] at h1
    rw [List.getElem?_append_right (by rw [← h.1]; omega), ← h.1] at h2
    exact k.2 _ x h1 h2
theorem Typed.take {s : List UInt8} {l : List Int} (h : Typed s l) (n : Nat) : Typed (s.take n) (l.take n) := by
  refine ⟨by simp [h.1], fun i x h1 h2 => ?_⟩
  rw [List.getElem?_take] at h1 h2
  by_cases hi : i < n
  · rw [if_pos hi] at h1 h2; exact h.2 i x h1 h2
  · rw [if_neg hi] at h1; cases h1
theorem Typed.left {s : List UInt8} {l d : List Int} (h : Typed s (l ++ d)) : Typed (s.take (s.length - d.length)) l := by
  have := h.take (s.length - d.length)
  have hl := h.1
  simp only [List.length_append] at hl
  rw [show s.length - d.length = l.length by omega] at this ⊢
  simpa using this
theorem Typed.right {s : List UInt8} {l d : List Int} (h : Typed s (l ++ d)) : Typed (s.drop (s.length - d.length)) d := by
  have hl := h.1
  simp only [List.length_append] at hl
  rw [show s.length - d.length = l.length by omega]
  refine ⟨by simp; omega, fun i x h1 h2 => ?_⟩
  rw [List.getElem?_drop] at h2
  exact h.2 (l.length + i) x (by rw [List.getElem?_append_right (by omega), show l.length + i - l.length = i by omega]; exact h1) h2
theorem b2i_truth (z : Bool) : b2i z = 0 ∨ b2i z = 1 := by cases z <;> simp [b2i]
/-- What an operation leaves is of the kinds that are told. -/
theorem deed_typed (o a c : Int) (ho : 1 ≤ o ∧ o ≤ 25) (v : V) (M : List Int) (s : List UInt8) (h : Typed s v.stk) (hE : bE o a s = 0) : Typed (bh o a s) (deed (o, a, c) v M).1.stk := by
  obtain ⟨hl, hf, _⟩ := bE_zero hE
  have hlen := h.1
  unfold bh
  -- nothing is taken
  have none_ : ∀ g : List UInt8, ∀ d : List Int, (tk o) = [] → Typed g d → Typed (s.take (s.length - (tk o).length) ++ g) (v.stk ++ d) := by
    intro g d e hg
    rw [e]; simpa using h.append hg
  have none0 : (tk o) = [] → Typed (s.take (s.length - (tk o).length) ++ []) v.stk := by
    intro e; rw [e]; simpa using h
  have one_ : (tk o).length = 1 → ∃ r x, v.stk = r ++ [x] ∧ Typed (s.take (s.length - (tk o).length)) r ∧ Typed (s.drop (s.length - (tk o).length)) [x] := by
    intro e
    obtain ⟨r, x, hr, _⟩ := one_of (l := v.stk) (by omega)
    rw [hr] at h
    exact ⟨r, x, hr, by rw [e]; exact h.left, by rw [e]; exact h.right⟩
  have two_ : (tk o).length = 2 → ∃ r x y, v.stk = r ++ [x, y] ∧ Typed (s.take (s.length - (tk o).length)) r ∧ Typed (s.drop (s.length - (tk o).length)) [x, y] := by
    intro e
    obtain ⟨r, x, y, hr, _⟩ := two_of (l := v.stk) (by omega)
    rw [hr] at h
    exact ⟨r, x, y, hr, by rw [e]; exact h.left, by rw [e]; exact h.right⟩
  have i1 : ∀ x : Int, Typed [105] [x] := fun x => Typed.one (fun e => absurd e (by decide))
  have b1 : ∀ z : Bool, Typed [98] [b2i z] := fun z => Typed.one (fun _ => b2i_truth z)
  rcases (show o = 1 ∨ o = 2 ∨ o = 3 ∨ o = 4 ∨ o = 5 ∨ o = 6 ∨ o = 7 ∨ o = 8 ∨ o = 9 ∨ o = 10 ∨ o = 11 ∨ o = 12 ∨ o = 13 ∨ o = 14 ∨ o = 15 ∨ o = 16 ∨ o = 17 ∨ o = 18 ∨ o = 19 ∨ o = 20 ∨ o = 21 ∨ o = 22 ∨ o = 23 ∨ o = 24 ∨ o = 25 by omega) with
    rfl | rfl | rfl | rfl | rfl | rfl | rfl | rfl | rfl | rfl | rfl | rfl | rfl | rfl | rfl | rfl | rfl | rfl | rfl | rfl | rfl | rfl | rfl | rfl | rfl
  · exact none_ _ _ rfl (i1 _)
  · obtain ⟨r, x, hr, t1, t2⟩ := one_ rfl
    show Typed (_ ++ []) v.pop.stk
    rw [(V.top_one hr).2, List.append_nil]; exact t1
  · obtain ⟨r, x, hr, t1, t2⟩ := one_ rfl
    show Typed (_ ++ (_ ++ _)) ((v.pop.lay v.top).lay v.top).stk
    rw [(V.top_one hr).1, (V.top_one hr).2]
    show Typed _ ((r ++ [x]) ++ [x])
    rw [List.append_assoc]; exact t1.append (t2.append t2)
  · obtain ⟨r, x, y, hr, t1, t2⟩ := two_ rfl
    show Typed (_ ++ (_ ++ _)) ((v.pop.pop.lay v.top).lay v.pop.top).stk
    rw [(V.top_two hr).1, (V.top_two hr).2.1, (V.top_two hr).2.2]
    show Typed _ ((r ++ [y]) ++ [x])
    rw [List.append_assoc]
    refine t1.append ?_
    obtain ⟨p, q, hd⟩ : ∃ p q, s.drop (s.length - (tk 4).length) = [p, q] := by
      have e2 : (s.drop (s.length - (tk 4).length)).length = 2 := by rw [← t2.1]; rfl
      match s.drop (s.length - (tk 4).length), e2 with
      | [p, q], _ => exact ⟨p, q, rfl⟩
    rw [hd] at t2 ⊢
    exact (Typed.one (c := q) (x := y) (fun e => t2.2 1 y rfl (by rw [e]; rfl))).append (Typed.one (c := p) (x := x) (fun e => t2.2 0 x rfl (by rw [e]; rfl)))
  · obtain ⟨r, x, y, hr, t1, t2⟩ := two_ rfl
    show Typed (_ ++ (if a = 11 ∨ a = 12 then [98] else [105])) (({ v.pop.pop with flt := _ } : V).lay (val a v.pop.top v.top)).stk
    rw [(V.top_two hr).1, (V.top_two hr).2.1, (V.top_two hr).2.2]
    refine t1.append ?_
    by_cases e : a = 11 ∨ a = 12
    · rw [if_pos e]
      refine Typed.one fun _ => ?_
      rcases e with rfl | rfl
      · rw [val11]; split <;> simp
      · rw [val12]; split <;> simp
    · rw [if_neg e]; exact i1 _
  · obtain ⟨r, x, hr, t1, t2⟩ := one_ rfl
    show Typed (_ ++ [105]) (v.pop.lay _).stk
    rw [(V.top_one hr).2]; exact t1.append (i1 _)
  · obtain ⟨r, x, hr, t1, t2⟩ := one_ rfl
    show Typed (_ ++ [98]) (v.pop.lay (b2i _)).stk
    rw [(V.top_one hr).2]; exact t1.append (b1 _)
  · obtain ⟨r, x, y, hr, t1, t2⟩ := two_ rfl
    show Typed (_ ++ [98]) (v.pop.pop.lay (b2i _)).stk
    rw [(V.top_two hr).2.2]; exact t1.append (b1 _)
  · obtain ⟨r, x, y, hr, t1, t2⟩ := two_ rfl
    show Typed (_ ++ [98]) (v.pop.pop.lay (b2i _)).stk
    rw [(V.top_two hr).2.2]; exact t1.append (b1 _)
  · obtain ⟨r, x, hr, t1, t2⟩ := one_ rfl
    show Typed (_ ++ [105]) v.stk
    rw [hr]; exact t1.append (i1 _)
  · exact none_ _ _ rfl (i1 _)
  · obtain ⟨r, x, hr, t1, t2⟩ := one_ rfl
    show Typed (_ ++ []) v.pop.stk
    rw [(V.top_one hr).2, List.append_nil]; exact t1
  · exact none_ _ _ rfl (i1 _)
  · obtain ⟨r, x, hr, t1, t2⟩ := one_ rfl
    show Typed (_ ++ []) v.pop.stk
    rw [(V.top_one hr).2, List.append_nil]; exact t1
  · exact none_ _ _ rfl (i1 _)
  · obtain ⟨r, x, hr, t1, t2⟩ := one_ rfl
    show Typed (_ ++ []) v.pop.stk
    rw [(V.top_one hr).2, List.append_nil]; exact t1
  · exact none_ _ _ rfl (i1 _)
  · obtain ⟨r, x, hr, t1, t2⟩ := one_ rfl
    show Typed (_ ++ []) v.pop.stk
    rw [(V.top_one hr).2, List.append_nil]; exact t1
  · exact none0 rfl
  · obtain ⟨r, x, hr, t1, t2⟩ := one_ rfl
    show Typed (_ ++ []) v.pop.stk
    rw [(V.top_one hr).2, List.append_nil]; exact t1
  · exact none0 rfl
  · have := none0 rfl
    show Typed _ (if _ then ({ v with lps := _, pl := _ } : V) else { v with lps := _ }).stk
    split <;> exact this
  · exact none0 rfl
  · exact none0 rfl
  · exact none0 rfl
end Go.Proofs.YthncbnalnfbpnaaGreatDoor
end

section
namespace Go.Proofs.YthncbnalnfbpnaaGreatDoor
open Go.ChangeShapes Go.WideShapes Go.RowKit Go.Maps

theorem some61 : (Tryz.prog.info? 102).isSome = true := by kernel_rfl
theorem eql_self (w : World) (b : Nat) : (binOp .eql 47 (.pointer (some ⟨b, 0, none⟩)) (.pointer (some ⟨b, 0, none⟩))).run Tryz.prog w = .ok (.bool true) w := by
  obtain ⟨j, hj⟩ := Option.isSome_iff_exists.1 some61
  exact run_eql_ptr_same w _ Tryz.underlying47 hj
theorem eql_none (w : World) (b : Nat) : (binOp .eql 47 (.pointer none) (.pointer (some ⟨b, 0, none⟩))).run Tryz.prog w = .ok (.bool false) w := by
  have h : ∀ d : Nat, (Op.equalIn (d + 1) 47 (.pointer none) (.pointer (some ⟨b, 0, none⟩))).run Tryz.prog w = .ok false w := fun d => by
    simp [Op.equalIn, run_underlying Tryz.underlying47]
  simp only [binOp]
  simp [Op.equal, Op.maxDepth, h 9999]
/-- No machine: nil, or one that New did not give. -/
def NoM (w : World) (p : Value) : Prop := p = .pointer none ∨ ∃ b, p = .pointer (some ⟨b, 0, none⟩) ∧ w.cell? ⟨b, 0, none⟩ = some (.pointer none)
theorem NoM.below {w w' : World} {p : Value} (h : NoM w p) (g : Below w.heap.size w w') : NoM w' p := by
  rcases h with h | ⟨b, h1, h2⟩
  · exact Or.inl h
  · exact Or.inr ⟨b, h1, keep_cell g h2⟩
set_option maxRecDepth 100000 in
theorem given_no (w : World) (p : Value) (h : NoM w p) : Calls Tryz.prog 38 #[p] w fun e w' => e = .returned (.bool false) ∧ w = w' := by
  rcases h with rfl | ⟨b, rfl, hb⟩
  · go_enter Tryz.func38, Tryz.ntmps38
    go_wp2
    go_ret
    exact ⟨rfl, rfl⟩
  · have hq := eql_none w b
    go_enter Tryz.func38, Tryz.ntmps38
    go_wp2
    go_ret
    exact ⟨rfl, rfl⟩
section
variable (w : World) (F : Nat → Prop) (b : Nat) (L : List (Int × Int × Int)) (v : V) (h : Mac w F b L v)
include h
set_option maxRecDepth 100000 in
theorem given_any : Calls Tryz.prog 38 #[.pointer (some ⟨b, 0, none⟩)] w fun e w' => e = .returned (.bool true) ∧ w = w' := by
  have c := h.self
  have hq := eql_self w b
  clear h
  go_enter Tryz.func38, Tryz.ntmps38
  go_wp2
  go_ret
  exact ⟨rfl, rfl⟩
theorem running_any : Calls Tryz.prog 19 #[.pointer (some ⟨b, 0, none⟩)] w fun e w' => e = .returned (.bool v.goes) ∧ w = w' := by
  have C := Lib.hid (given_any w F b L v h)
  have c := h.c11
  clear h
  go_enter Tryz.func19, Tryz.ntmps19
  go_wp2_with (go_at_call 38; refine C.out.mono ?_; rintro e w1 ⟨rfl, rfl⟩)
  go_ret
  exact ⟨rfl, rfl⟩
theorem held8_any : Calls Tryz.prog 21 #[.pointer (some ⟨b, 0, none⟩)] w fun e w' => e = .returned (.int .i64 v.held) ∧ w = w' := by
  have C := Lib.hid (given_any w F b L v h)
  have c := h.c71
  clear h
  go_enter Tryz.func21, Tryz.ntmps21
  go_wp2_with (go_at_call 38; refine C.out.mono ?_; rintro e w1 ⟨rfl, rfl⟩)
  go_ret
  exact ⟨rfl, rfl⟩
theorem steps_any : Calls Tryz.prog 20 #[.pointer (some ⟨b, 0, none⟩)] w fun e w' => e = .returned (.int .i64 v.stp) ∧ w = w' := by
  have C := Lib.hid (given_any w F b L v h)
  have c := h.c73
  clear h
  go_enter Tryz.func20, Tryz.ntmps20
  go_wp2_with (go_at_call 38; refine C.out.mono ?_; rintro e w1 ⟨rfl, rfl⟩)
  go_ret
  exact ⟨rfl, rfl⟩
end
section
variable (w : World) (p : Value) (h : NoM w p)
include h
theorem running_no : Calls Tryz.prog 19 #[p] w fun e w' => e = .returned (.bool false) ∧ w = w' := by
  have C := Lib.hid (given_no w p h)
  clear h
  go_enter Tryz.func19, Tryz.ntmps19
  go_wp2_with (go_at_call 38; refine C.out.mono ?_; rintro e w1 ⟨rfl, rfl⟩)
  go_ret
  exact ⟨rfl, rfl⟩
theorem held_no : Calls Tryz.prog 21 #[p] w fun e w' => e = .returned (.int .i64 0) ∧ w = w' := by
  have C := Lib.hid (given_no w p h)
  clear h
  go_enter Tryz.func21, Tryz.ntmps21
  go_wp2_with (go_at_call 38; refine C.out.mono ?_; rintro e w1 ⟨rfl, rfl⟩)
  go_ret
  exact ⟨rfl, rfl⟩
theorem steps_no : Calls Tryz.prog 20 #[p] w fun e w' => e = .returned (.int .i64 0) ∧ w = w' := by
  have C := Lib.hid (given_no w p h)
  clear h
  go_enter Tryz.func20, Tryz.ntmps20
  go_wp2_with (go_at_call 38; refine C.out.mono ?_; rintro e w1 ⟨rfl, rfl⟩)
  go_ret
  exact ⟨rfl, rfl⟩
theorem outs_no : Calls Tryz.prog 23 #[p] w fun e w' => e = .returned (.slice none 0 0) ∧ w = w' := by
  have C := Lib.hid (given_no w p h)
  clear h
  go_enter Tryz.func23, Tryz.ntmps23
  go_wp2_with (go_at_call 38; refine C.out.mono ?_; rintro e w1 ⟨rfl, rfl⟩)
  go_ret
  exact ⟨rfl, rfl⟩
theorem step_no (mp : Value) : Calls Tryz.prog 22 #[p, mp] w fun e w' => e = .returned (.tuple #[.agg #[.int .i64 0, .int .i64 0], .int .i64 15]) ∧ Below w.heap.size w w' := by
  have C := Lib.hid (fun W (hb : Below w.heap.size w W) => given_no W p (h.below hb))
  clear h
  have G := below_alloc w (.cells #[.int .i64 0, .int .i64 0] 61)
  go_enter Tryz.func22, Tryz.ntmps22
  go_wp2_with (go_at_call 38; refine (C.out _ G).mono ?_; rintro e w1 ⟨rfl, rfl⟩)
  exact bodyPost_ret (v := .tuple #[.agg #[.int .i64 0, .int .i64 0], .int .i64 15]) (by simp [results, Tryz.results22, go_sem]) rfl ⟨rfl, G⟩
theorem start_no (cs : Array Value) : Calls Tryz.prog 18 #[p, .agg cs] w fun e w' => e = .returned (.int .i64 15) ∧ Below w.heap.size w w' := by
  have C := Lib.hid (fun W (hb : Below w.heap.size w W) => given_no W p (h.below hb))
  clear h
  have G := below_alloc w (.cells cs 46)
  go_enter Tryz.func18, Tryz.ntmps18
  go_wp2_with (go_at_call 38; refine (C.out _ G).mono ?_; rintro e w1 ⟨rfl, rfl⟩)
  go_ret
  exact ⟨rfl, G⟩
end
/-- What is told of an instruction, as a value. -/
def evV (i : Int × Int × Int) : Value := .agg #[.int .i64 (if i.1 = 23 then 1 else if i.1 = 24 then 2 else if i.1 = 25 then 3 else 0), .int .i64 (if i.1 = 23 ∨ i.1 = 24 then i.2.1 else 0)]
theorem eventOf_any (o a c : Int) (w : World) : Calls Tryz.prog 39 #[.agg #[.int .i64 o, .int .i64 a, .int .i64 c]] w fun e w' => e = .returned (evV (o, a, c)) ∧ Below w.heap.size w w' := by
  have G := fun o => below_alloc w (.cells #[.int .i64 o, .int .i64 a, .int .i64 c] 70)
  by_cases h1 : o = 23
  · subst h1
    go_enter Tryz.func39, Tryz.ntmps39
    go_wp2
    exact bodyPost_ret (v := evV (23, a, c)) (by simp [results, Tryz.results39, go_sem, evV]) rfl ⟨rfl, ((Below.refl _ _).alloc (Nat.le_refl _) _).alloc (by simp) _⟩
  by_cases h2 : o = 24
  · subst h2
    go_enter Tryz.func39, Tryz.ntmps39
    go_wp2
    exact bodyPost_ret (v := evV (24, a, c)) (by simp [results, Tryz.results39, go_sem, evV]) rfl ⟨rfl, ((Below.refl _ _).alloc (Nat.le_refl _) _).alloc (by simp) _⟩
  by_cases h3 : o = 25
  · subst h3
    go_enter Tryz.func39, Tryz.ntmps39
    go_wp2
    exact bodyPost_ret (v := evV (25, a, c)) (by simp [results, Tryz.results39, go_sem, evV]) rfl ⟨rfl, ((Below.refl _ _).alloc (Nat.le_refl _) _).alloc (by simp) _⟩
  have e1 : (o == 23) = false := by simpa using h1
  have e2 : (o == 24) = false := by simpa using h2
  have e3 : (o == 25) = false := by simpa using h3
  have hv : evV (o, a, c) = .agg #[.int .i64 0, .int .i64 0] := by unfold evV; simp [h1, h2, h3]
  rw [hv]
  clear hv
  go_enter Tryz.func39, Tryz.ntmps39
  go_wp2
  exact bodyPost_ret (v := .agg #[.int .i64 0, .int .i64 0]) (by simp [results, Tryz.results39, go_sem]) rfl ⟨rfl, ((Below.refl _ _).alloc (Nat.le_refl _) _).alloc (by simp) _⟩
end Go.Proofs.YthncbnalnfbpnaaGreatDoor
end

section
namespace Go.Proofs.YthncbnalnfbpnaaGreatDoor
open Go.ChangeShapes Go.WideShapes Go.RowKit Go.Maps

theorem Chg.frozen {F F' : Nat → Prop} {x : Nat} {w w' : World} (h : Chg F F' x w w') {p : Addr} (hp : p.block < w.heap.size) (hf : ¬ F p.block) (hx : p.block ≠ x) : w'.frozen? p = w.frozen? p := World.frozen?_of_block (w := w) (h.same p.block hp hf hx)
/-- The state ahead of the deed. -/
def V.ahead (v : V) : V := { v with stp := IntKind.i64.wrap (v.stp + 1), pl := v.pl + 1 }
set_option maxRecDepth 100000 in
theorem enters (o : Int) (h1 : 1 ≤ o) (h2 : o ≤ 25) (args : Array Value) (w : World) : (callFunc (66 + o.toNat) args).run Tryz.prog w = .ok (.enter (66 + o.toNat) args) w := by
  rcases (show o = 1 ∨ o = 2 ∨ o = 3 ∨ o = 4 ∨ o = 5 ∨ o = 6 ∨ o = 7 ∨ o = 8 ∨ o = 9 ∨ o = 10 ∨ o = 11 ∨ o = 12 ∨ o = 13 ∨ o = 14 ∨ o = 15 ∨ o = 16 ∨ o = 17 ∨ o = 18 ∨ o = 19 ∨ o = 20 ∨ o = 21 ∨ o = 22 ∨ o = 23 ∨ o = 24 ∨ o = 25 by omega) with
    rfl | rfl | rfl | rfl | rfl | rfl | rfl | rfl | rfl | rfl | rfl | rfl | rfl | rfl | rfl | rfl | rfl | rfl | rfl | rfl | rfl | rfl | rfl | rfl | rfl
  all_goals rfl
set_option maxRecDepth 100000 in
set_option maxHeartbeats 2000000 in
theorem step_gen (w : World) (F : Nat → Prop) (b mb : Nat) (L : List (Int × Int × Int)) (v v' : V) (M M' : List Int) (o a c kd bl : Int) (fn : Nat) (h : Mac w F b L v) (hm : MemAt w mb M) (hF : ¬ F mb) (hgo : v.goes = true) (hpl : v.pl < L.length) (hL : L.length ≤ 200)
    (ho : at_ L v.pl = (o, a, c)) (ho1 : 1 ≤ o) (ho2 : o ≤ 25) (hfn : 66 + o.toNat = fn) (hcf : ∀ (args : Array Value) (W : World), (callFunc fn args).run Tryz.prog W = .ok (.enter fn args) W) (hD : DoesM fn (o, a, c) v.ahead v' M M') (he : evV (o, a, c) = .agg #[.int .i64 kd, .int .i64 bl]) :
    Calls Tryz.prog 22 #[.pointer (some ⟨b, 0, none⟩), .pointer (some ⟨mb, 0, none⟩)] w fun e w' => e = .returned (.tuple #[.agg #[.int .i64 kd, .int .i64 bl], .int .i64 0]) ∧ ∃ F', Mac w' F' b L v' ∧ MemAt w' mb M' ∧ ¬ F' mb ∧ Chg F F' mb w w' := by
  have hb := h.size
  have hmb := hm.lt
  have hE : ¬ F w.heap.size := fun e => absurd (h.lt _ e) (by omega)
  have hE1 : ¬ F (w.heap.size + 1) := fun e => absurd (h.lt _ e) (by omega)
  have hEm : w.heap.size ≠ mb := by omega
  have hE1m : w.heap.size + 1 ≠ mb := by omega
  have hbE : b ≠ w.heap.size := by omega
  have hbE1 : b ≠ w.heap.size + 1 := by omega
  -- the worlds
  obtain ⟨W0, hW0⟩ : ∃ W0, W0 = (w.alloc (.cells #[.int .i64 0, .int .i64 0] 61)) := ⟨_, rfl⟩
  have B0 : Below w.heap.size w W0 := by rw [hW0]; exact below_alloc _ _
  have s0 : W0.heap.size = w.heap.size + 1 := by rw [hW0]; simp
  have h0 := h.below B0
  have m0 := hm.below B0
  have G0 := Lib.hid (given_any W0 F b L v h0)
  have c11 := h0.c11
  rw [hgo] at c11
  have c12 := h0.c12
  have c73 := h0.c73
  have z12 := h0.fz 12
  have z73 := h0.fz 73
  have hh := h
  obtain ⟨rv, bm, st, lp, hc⟩ := hh
  have c1 := keep_cell B0 hc.c1
  have c2 := keep_cell B0 hc.c2
  obtain ⟨ra, rc, rfl, hrow⟩ := RowI.own hc.row
  obtain ⟨rb, off, o', x', y', rfl, hrb, hat, d0', d1', d2'⟩ := hrow.at_ hpl
  have d0 := keep_cell B0 d0'
  have d1 := keep_cell B0 d1'
  have d2 := keep_cell B0 d2'
  have hat2 : (o', x', y') = (o, a, c) := by
    have : at_ L v.pl = (o', x', y') := by unfold at_; rw [List.getD_eq_getElem?_getD, hat]; rfl
    rw [← this]; exact ho
  simp only [Prod.mk.injEq] at hat2
  obtain ⟨rfl, rfl, rfl⟩ := hat2
  have i1 : (0 : Int) ≤ (v.pl : Int) := by omega
  have i2 : (v.pl : Int) < (L.length : Int) := by omega
  have e1 : IntKind.i64.wrap ((v.pl : Int) + 1) = (v.pl : Int) + 1 := by rw [IntKind.wrap_i64]; omega
  obtain ⟨sn, hsn⟩ : ∃ sn, sn = IntKind.i64.wrap (v.stp + 1) := ⟨_, rfl⟩
  have e2 : IntKind.i64.wrap (v.stp + 1) = sn := hsn.symm
  subst hW0
  have HL := Lib.hid hL
  clear hc d0' d1' d2' hrow hat ho hsn hL
  generalize L.length = N at i2 hpl c1
  go_enter Tryz.func22, Tryz.ntmps22
  go_wp2_with (go_at_call 38; refine G0.out.mono ?_; rintro e w1 ⟨rfl, rfl⟩)
  go_region
  have B1 : Below w.heap.size w ((w.alloc (.cells #[.int .i64 0, .int .i64 0] 61)).alloc (.cells #[.int .i64 o', .int .i64 x', .int .i64 y'] 70)).drew := (((Below.refl _ _).alloc (Nat.le_refl _) _).alloc (by simp) _).drew
  have s1 : (((w.alloc (.cells #[.int .i64 0, .int .i64 0] 61)).alloc (.cells #[.int .i64 o', .int .i64 x', .int .i64 y'] 70)).drew).heap.size = w.heap.size + 2 := by simp [World.drew]
  have p0 : (((w.alloc (.cells #[.int .i64 0, .int .i64 0] 61)).alloc (.cells #[.int .i64 o', .int .i64 x', .int .i64 y'] 70)).drew).heap[w.heap.size]? = some (.cells #[.int .i64 0, .int .i64 0] 61 (0, 0)) := by
    show ((w.alloc (.cells #[.int .i64 0, .int .i64 0] 61)).alloc (.cells #[.int .i64 o', .int .i64 x', .int .i64 y'] 70)).heap[w.heap.size]? = _
    rw [Go.Deep.blk_alloc_lt _ _ _ (by simp)]; exact new_block _ _
  have p1 : (((w.alloc (.cells #[.int .i64 0, .int .i64 0] 61)).alloc (.cells #[.int .i64 o', .int .i64 x', .int .i64 y'] 70)).drew).heap[w.heap.size + 1]? = some (.cells #[.int .i64 o', .int .i64 x', .int .i64 y'] 70 (0, 0)) := by
    have := new_block (w.alloc (.cells #[.int .i64 0, .int .i64 0] 61)) (.cells #[.int .i64 o', .int .i64 x', .int .i64 y'] 70)
    rw [s0] at this; exact this
  clear c11 c12 c73 z12 z73 c1 c2 d0 d1 d2 G0 h0 m0 B0
  generalize ((w.alloc (.cells #[.int .i64 0, .int .i64 0] 61)).alloc (.cells #[.int .i64 o', .int .i64 x', .int .i64 y'] 70)).drew = W1 at B1 s1 p0 p1 ⊢
  have h1 := h.below B1
  have m1 := hm.below B1
  have c12 := h1.c12
  have c73 := h1.c73
  have z12 := h1.fz 12
  have z73 := h1.fz 73
  have h2 : Mac ((W1.setCell ⟨b, 73, none⟩ (.int .i64 sn)).setCell ⟨b, 12, none⟩ (.int .i64 ((v.pl : Int) + 1))) F b L v.ahead := by
    have := (h1.setStp sn).setPl (v.pl + 1)
    unfold V.ahead; rw [e2]; exact this
  have hmbb : mb ≠ b := fun e => hF (e ▸ h.fb)
  have C2 : Chg F F b W1 ((W1.setCell ⟨b, 73, none⟩ (.int .i64 sn)).setCell ⟨b, 12, none⟩ (.int .i64 ((v.pl : Int) + 1))) := (chg_set h1.fb).trans (chg_set h1.fb)
  have m2 := m1.chg C2 hF hmbb
  have r0 := (C2.same w.heap.size (by omega) hE (Ne.symm hbE)).trans p0
  have r1 := (C2.same (w.heap.size + 1) (by omega) hE1 (Ne.symm hbE1)).trans p1
  have hb1 := h1.fb
  have CC := ((Chg.below (F := F) (x := b) B1).trans C2)
  have s2 : ((W1.setCell ⟨b, 73, none⟩ (.int .i64 sn)).setCell ⟨b, 12, none⟩ (.int .i64 ((v.pl : Int) + 1))).heap.size = w.heap.size + 2 := by simp [World.setCell]; omega
  have hm9 := hm.lt
  clear h1 m1 C2 p0 p1 hm
  go_wp2
  clear c12 c73 z12 z73 B1 s1
  generalize (W1.setCell ⟨b, 73, none⟩ (.int .i64 sn)).setCell ⟨b, 12, none⟩ (.int .i64 ((v.pl : Int) + 1)) = W2 at h2 m2 r0 r1 CC s2 ⊢
  have D := Lib.hid (hD W2.drew F b mb L h2.drew (m2.below (Below.refl _ _).drew) hF)
  obtain ⟨rv2, bm2, st2, lp2, hc2⟩ := h2
  have c2 := hc2.c2
  have hlook := hc2.hm.drew
  obtain ⟨rv3, bm3, st3, lp3, hc3⟩ := hlook
  have hb23 : bm3 = bm2 := by
    have a1 : W2.cell? ⟨b, 2, none⟩ = some (.map (some bm3)) := hc3.c2
    rw [c2] at a1; simpa using a1.symm
  subst hb23
  have hl := hc3.map.look ho1 ho2
  rw [hfn] at hl
  have k0 := (Lib.cell_of_heap r1 0).trans (rfl : _ = some (Value.int .i64 o'))
  have k1 := (Lib.cell_of_heap r1 1).trans (rfl : _ = some (Value.int .i64 x'))
  have k2 := (Lib.cell_of_heap r1 2).trans (rfl : _ = some (Value.int .i64 y'))
  have EV := fun W => eventOf_any o' x' y' W
  rw [he] at EV
  have EV := Lib.hid EV
  have FIN : Hid (∀ F3 w3 w4, Mac w3 F3 b L v' → MemAt w3 mb M' → ¬ F3 mb → Chg F F3 mb W2.drew w3 → Below w3.heap.size w3 w4 →
      Mac ((w4.setCell ⟨w.heap.size, 0, none⟩ (.int .i64 kd)).setCell ⟨w.heap.size, 1, none⟩ (.int .i64 bl)) F3 b L v' ∧ MemAt ((w4.setCell ⟨w.heap.size, 0, none⟩ (.int .i64 kd)).setCell ⟨w.heap.size, 1, none⟩ (.int .i64 bl)) mb M' ∧ ¬ F3 mb ∧
      Chg F F3 mb w ((w4.setCell ⟨w.heap.size, 0, none⟩ (.int .i64 kd)).setCell ⟨w.heap.size, 1, none⟩ (.int .i64 bl))) := by
    intro F3 w3 w4 h3 m3 hF3 g3 b4
    have h4 := h3.below b4
    have m4 := m3.below b4
    have hs3 : w.heap.size + 2 ≤ w3.heap.size := by have := g3.size; have e : W2.drew.heap.size = W2.heap.size := rfl; omega
    have hE3 : ¬ F3 w.heap.size := fun e => (g3.foot _ e).elim hE (by have e : W2.drew.heap.size = W2.heap.size := rfl; omega)
    have ks : ∀ k, k ≠ w.heap.size → ((w4.setCell ⟨w.heap.size, 0, none⟩ (.int .i64 kd)).setCell ⟨w.heap.size, 1, none⟩ (.int .i64 bl)).heap[k]? = w4.heap[k]? := fun k hk => by
      rw [Go.Deep.blk_setCell_other _ _ _ _ hk, Go.Deep.blk_setCell_other _ _ _ _ hk]
    have sz : ((w4.setCell ⟨w.heap.size, 0, none⟩ (.int .i64 kd)).setCell ⟨w.heap.size, 1, none⟩ (.int .i64 bl)).heap.size = w4.heap.size := by simp [World.setCell]
    refine ⟨h4.blocks (by omega) (fun i hi => ks i (by intro e; subst e; exact hE3 hi)), m4.of_block (ks mb (Ne.symm hEm)), hF3, ?_⟩
    have A : Chg F F3 mb w w4 := ((CC.wide hc2.fb).trans ((Chg.below (Below.refl _ W2).drew).trans g3)).trans (Chg.below b4)
    exact ⟨A.os, A.tape, A.output, by have := A.size; omega, fun k hk hf hx => (ks k (by omega)).trans (A.same k hk hf hx), A.foot⟩
  have S3 : Hid (∀ F3 w3, Chg F F3 mb W2.drew w3 → w3.heap[w.heap.size]? = some (.cells #[.int .i64 0, .int .i64 0] 61 (0, 0)) ∧ w3.heap[w.heap.size + 1]? = some (.cells #[.int .i64 o', .int .i64 x', .int .i64 y'] 70 (0, 0)) ∧ w.heap.size + 2 ≤ w3.heap.size) := by
    intro F3 w3 g3
    have e : W2.drew.heap.size = W2.heap.size := rfl
    exact ⟨(g3.same _ (by omega) hE hEm).trans r0, (g3.same _ (by omega) hE1 hE1m).trans r1, by have := g3.size; omega⟩
  clear hc2 hc3 hD he hfn
  go_region_with (first | (guard_target =~ Calls _ _ _ _ _; refine D.out.mono ?_; rintro e w3 ⟨rfl, F3, h3, m3, hF3, g3⟩))
  all_goals
    obtain ⟨q0, q1, hs3⟩ := S3.out F3 w3 g3
    have k0 := (Lib.cell_of_heap q1 0).trans (rfl : _ = some (Value.int .i64 o'))
    have k1 := (Lib.cell_of_heap q1 1).trans (rfl : _ = some (Value.int .i64 x'))
    have k2 := (Lib.cell_of_heap q1 2).trans (rfl : _ = some (Value.int .i64 y'))
    clear q1 r0 r1 hl c2 CC m2
    go_wp2_with (go_at_call 39; refine (EV.out _).mono ?_; rintro e w4 ⟨rfl, b4⟩; have t0 := (b4.block w.heap.size (by omega)).trans q0; have y0 := (Lib.cell_of_heap t0 0).trans (rfl : _ = some (Value.int .i64 0)); have y1 := (Lib.cell_of_heap t0 1).trans (rfl : _ = some (Value.int .i64 0)); have y2 := Lib.frozen_of_heap t0 0; have y3 := Lib.frozen_of_heap t0 1)
    have fin := FIN.out F3 w3 w4 h3 m3 hF3 g3 b4
    exact bodyPost_ret (v := .tuple #[.agg #[.int .i64 kd, .int .i64 bl], .int .i64 0]) (by simp [results, Tryz.results22, go_sem, y0, y1]) rfl ⟨rfl, F3, fin⟩
end Go.Proofs.YthncbnalnfbpnaaGreatDoor
end

section
namespace Go.Proofs.YthncbnalnfbpnaaGreatDoor
open Go.ChangeShapes Go.WideShapes Go.RowKit Go.Maps

theorem evV_two (i : Int × Int × Int) : evV i = .agg #[.int .i64 (evt i).1, .int .i64 (evt i).2] := by
  unfold evV evt
  by_cases h1 : i.1 = 23
  · simp [h1]
  · by_cases h2 : i.1 = 24
    · simp [h2]
    · by_cases h3 : i.1 = 25
      · simp [h3]
      · simp [h1, h2, h3]
/-- A step that can be done. -/
structure Can (L : List (Int × Int × Int)) (v : V) : Prop where
  goes : v.goes = true
  pl : v.pl < L.length
  len : L.length ≤ 200
  right : right (at_ L v.pl) = true
  pre : Pre (at_ L v.pl).1 v.ahead
theorem step_any (w : World) (F : Nat → Prop) (b mb : Nat) (L : List (Int × Int × Int)) (v : V) (M : List Int) (h : Mac w F b L v) (hm : MemAt w mb M) (hF : ¬ F mb) (hc : Can L v) :
    Calls Tryz.prog 22 #[.pointer (some ⟨b, 0, none⟩), .pointer (some ⟨mb, 0, none⟩)] w fun e w' => e = .returned (.tuple #[.agg #[.int .i64 (evt (at_ L v.pl)).1, .int .i64 (evt (at_ L v.pl)).2], .int .i64 0]) ∧
      ∃ F', Mac w' F' b L (stp L v M).1 ∧ MemAt w' mb (stp L v M).2 ∧ ¬ F' mb ∧ Chg F F' mb w w' := by
  rcases hi : at_ L v.pl with ⟨o, a, c⟩
  have hr := hc.right
  have hp := hc.pre
  rw [hi] at hr hp
  have hk := right_kn hr
  have hD := deed_any o a c hr v.ahead hp M
  have := step_gen w F b mb L v (stp L v M).1 M (stp L v M).2 o a c (evt (o, a, c)).1 (evt (o, a, c)).2 (66 + o.toNat) h hm hF hc.goes hc.pl hc.len hi hk.1 hk.2 rfl (enters o hk.1 hk.2)
    (by unfold stp; rw [hi]; exact hD) (evV_two _)
  exact this
theorem step_idle (w : World) (F : Nat → Prop) (b : Nat) (L : List (Int × Int × Int)) (v : V) (h : Mac w F b L v) (hg : v.goes = false) (mp : Value) :
    Calls Tryz.prog 22 #[.pointer (some ⟨b, 0, none⟩), mp] w fun e w' => e = .returned (.tuple #[.agg #[.int .i64 0, .int .i64 0], .int .i64 16]) ∧ Below w.heap.size w w' := by
  have G := below_alloc w (.cells #[.int .i64 0, .int .i64 0] 61)
  have h0 := h.below G
  have C := Lib.hid (given_any _ F b L v h0)
  have c := h0.c11
  rw [hg] at c
  clear h h0
  go_enter Tryz.func22, Tryz.ntmps22
  go_wp2_with (go_at_call 38; refine C.out.mono ?_; rintro e w1 ⟨rfl, rfl⟩)
  exact bodyPost_ret (v := .tuple #[.agg #[.int .i64 0, .int .i64 0], .int .i64 16]) (by simp [results, Tryz.results22, go_sem]) rfl ⟨rfl, G⟩
theorem step_nomem (w : World) (F : Nat → Prop) (b : Nat) (L : List (Int × Int × Int)) (v : V) (h : Mac w F b L v) (hg : v.goes = true) :
    Calls Tryz.prog 22 #[.pointer (some ⟨b, 0, none⟩), .pointer none] w fun e w' => e = .returned (.tuple #[.agg #[.int .i64 0, .int .i64 0], .int .i64 15]) ∧ Below w.heap.size w w' := by
  have G := below_alloc w (.cells #[.int .i64 0, .int .i64 0] 61)
  have h0 := h.below G
  have C := Lib.hid (given_any _ F b L v h0)
  have c := h0.c11
  rw [hg] at c
  clear h h0
  go_enter Tryz.func22, Tryz.ntmps22
  go_wp2_with (go_at_call 38; refine C.out.mono ?_; rintro e w1 ⟨rfl, rfl⟩)
  exact bodyPost_ret (v := .tuple #[.agg #[.int .i64 0, .int .i64 0], .int .i64 15]) (by simp [results, Tryz.results22, go_sem]) rfl ⟨rfl, G⟩
/-- Many cells are set. -/
theorem rowIs_setCells {b t n : Nat} : ∀ (vs : List Value) (o : Nat) (w : World) (f : Nat → Value), w.rowIs b t n f → (w.setCells b o vs).rowIs b t n (fun j => if o ≤ j ∧ j < o + vs.length then vs.getD (j - o) undef else f j)
  | [], o, w, f, h => h.congr fun i _ => by rw [if_neg (by simp)]
  | x :: r, o, w, f, h => by
    rw [World.setCells]
    refine (rowIs_setCells r (o + 1) _ _ (h.set o x)).congr fun i _ => ?_
    by_cases e : i = o
    · subst e
      rw [if_neg (by omega), if_pos rfl, if_pos (by simp)]
      simp
    · by_cases e2 : o + 1 ≤ i ∧ i < o + 1 + r.length
      · rw [if_pos e2, if_pos (by simp; omega), show i - o = (i - (o + 1)) + 1 by omega]
        simp
      · rw [if_neg e2, if_neg e, if_neg (by simp; omega)]
theorem setCells_other {b k : Nat} (hk : k ≠ b) : ∀ (vs : List Value) (o : Nat) (w : World), (w.setCells b o vs).heap[k]? = w.heap[k]?
  | [], _, _ => rfl
  | x :: r, o, w => by rw [World.setCells, setCells_other hk r, Go.Deep.blk_setCell_other _ _ _ _ hk]
theorem setCells_size {b : Nat} : ∀ (vs : List Value) (o : Nat) (w : World), (w.setCells b o vs).heap.size = w.heap.size
  | [], _, _ => rfl
  | x :: r, o, w => by rw [World.setCells, setCells_size r]; simp [World.setCell]
theorem setCells_os {b : Nat} : ∀ (vs : List Value) (o : Nat) (w : World), (w.setCells b o vs).os = w.os ∧ (w.setCells b o vs).tape = w.tape ∧ (w.setCells b o vs).output = w.output
  | [], _, _ => ⟨rfl, rfl, rfl⟩
  | x :: r, o, w => by rw [World.setCells]; exact setCells_os r _ _
theorem chg_cells {F : Nat → Prop} {b o x : Nat} {w : World} {vs : List Value} (hb : F b) : Chg F F x w (w.setCells b o vs) :=
  ⟨(setCells_os vs o w).1, (setCells_os vs o w).2.1, (setCells_os vs o w).2.2, Nat.le_of_eq (setCells_size vs o w).symm, fun k _ hf _ => setCells_other (by intro e; subst e; exact hf hb) vs o w, fun _ h => Or.inl h⟩
end Go.Proofs.YthncbnalnfbpnaaGreatDoor
end
