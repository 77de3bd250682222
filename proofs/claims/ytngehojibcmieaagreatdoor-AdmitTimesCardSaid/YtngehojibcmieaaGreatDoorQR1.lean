/- What is proved here: plain facts on what is wrong with tasks of images, how many slots they take, and how long they lock. Conditions: those each theorem states. contracts of slices.Equal, Index and Contains at slices of ints. Conditions: rows are not too long. a law for a region whose operations may come in any order, some of them left out, some of them calls: what is told of each one's value, and of the world, holds at the end. Conditions: those the theorem states. a law for a region whose operations may come in any order, some of them left out, some of them calls, where what is told of a value hangs on the world and lasts as the world grows. -/
import Derived.Test.YtngehojibcmieaaGreatDoorQGi
import Derived.Test.YtngehojibcmieaaGreatDoorQGp
import Derived.Test.YtngehojibcmieaaGreatDoorQGk
import Derived.Test.YtngehojibcmieaaGreatDoorQGe
import Derived.BigFrame
set_option maxRecDepth 100000
set_option maxHeartbeats 8000000
section
namespace Go.Proofs.YtngehojibcmieaaGreatDoor
def bynE (m : ImP) (ou : List Int) (i : Int × Int × Int) : Bool :=
 if i.1 = 15 then decide (m.inp ≤ i.2.1) else if i.1 = 16 then !ou.contains i.2.1
 else if i.1 = 17 ∨ i.1 = 18 then decide (((m.blocks.getD i.2.1.toNat []).length : Int) ≤ i.2.2) else false
def wlE (t : TkP) : Int := if lks t.co t.co.length = t.bl then 0 else 11
def wpE (m : ImP) (t : TkP) : Int := if t.co.any (bynE m t.ou) = true then 12 else 0
def wrE (m : ImP) (t : TkP) : Int := if cE true t.co = 0 then (if wlE t = 0 then wpE m t else wlE t) else cE true t.co
def tk0 : TkP := ⟨0, 0, 0, 0, [], [], []⟩
def tkAt (m : ImP) (i : Int) : TkP := m.tasks.getD i.toNat tk0
def taskE (m : ImP) (i : Int) : Int :=
 if imE m = true then (if 0 ≤ i ∧ i < (m.tasks.length : Int) then wrE m (tkAt m i) else 14) else 12
def allG (m : ImP) (k : Int) : List TkP → Int × Int
 | [] => (-1, 0)
 | t :: l => if wrE m t = 0 then allG m (k + 1) l else (k, wrE m t)
def allE (m : ImP) : Int × Int := if imE m = true then allG m 0 m.tasks else (-1, 12)
def slW (m : ImP) (i : Int) : Int := if taskE m i = 0 then m.sw + m.la + cW true (tkAt m i).co + m.cm + m.sw else 0
def lkA (m : ImP) (i : Int) : List Int := if taskE m i = 0 then (sA (tkAt m i).co).map (·.2) else []
theorem wrE_zero {m : ImP} {t : TkP} (h : wrE m t = 0) : cE true t.co = 0 ∧ lks t.co t.co.length = t.bl ∧ t.co.any (bynE m t.ou) = false := by
 unfold wrE wlE wpE at h
 by_cases h1 : cE true t.co = 0
 ·rw [if_pos h1] at h
  by_cases h2 : lks t.co t.co.length = t.bl
  ·rw [if_pos h2, if_pos rfl] at h
   refine ⟨h1, h2, ?_⟩
   cases h3 : t.co.any (bynE m t.ou)
   ·rfl
   ·rw [h3] at h; simp at h
  ·rw [if_neg h2] at h; simp at h
 ·rw [if_neg h1] at h; exact absurd h h1
theorem taskE_zero {m : ImP} {i : Int} (h : taskE m i = 0) : imE m = true ∧ 0 ≤ i ∧ i < (m.tasks.length : Int) ∧ wrE m (tkAt m i) = 0 := by
 unfold taskE at h
 cases h1 : imE m
 ·rw [h1] at h; simp at h
 ·rw [if_pos h1] at h
  by_cases h2 : 0 ≤ i ∧ i < (m.tasks.length : Int)
  ·rw [if_pos h2] at h; exact ⟨rfl, h2.1, h2.2, h⟩
  ·rw [if_neg h2] at h; simp at h
theorem taskE_in {m : ImP} {i : Int} (h1 : imE m = true) (h2 : 0 ≤ i) (h3 : i < (m.tasks.length : Int)) : taskE m i = wrE m (tkAt m i) := by
 unfold taskE; rw [if_pos h1, if_pos ⟨h2, h3⟩]
theorem imE_parts {m : ImP} (h : imE m = true) : numE m = true ∧ m.safe.length ≤ 16 ∧ blocksE m.blocks = true ∧ tasksE m = true := by
 unfold imE at h
 simp only [Bool.and_eq_true, decide_eq_true_eq] at h
 exact h
theorem tasksE_parts {m : ImP} (h : tasksE m = true) : 1 ≤ m.tasks.length ∧ m.tasks.length ≤ 8 ∧ (∀ t ∈ m.tasks, tkE m.blocks.length m.safe.length t = true) ∧ apE [] (outsT m.tasks) = true := by
 unfold tasksE at h
 simp only [Bool.and_eq_true, List.all_eq_true] at h
 have := inB_iff.1 h.1
 exact ⟨by omega, by omega, h.2.1, h.2.2⟩
theorem numE_parts {m : ImP} (h : numE m = true) : (0 ≤ m.sw ∧ m.sw ≤ 100) ∧ (1 ≤ m.la ∧ m.la ≤ 100) ∧ (1 ≤ m.cm ∧ m.cm ≤ 100) ∧ 0 ≤ m.inp ∧ m.inp ≤ 16 := by
 unfold numE at h
 simp only [Bool.and_eq_true] at h
 exact ⟨inB_iff.1 h.1, inB_iff.1 h.2.1, inB_iff.1 h.2.2.1, inB_iff.1 h.2.2.2⟩
theorem tkE_parts {nb ns : Int} {t : TkP} (h : tkE nb ns t = true) : tkNumE t = true ∧ riseE (-1) nb t.bl = true ∧ riseE (-1) ns t.ou = true ∧ codeE t.co = true := by
 unfold tkE at h
 simp only [Bool.and_eq_true] at h
 exact h
theorem tkAt_mem {m : ImP} {i : Int} (h2 : 0 ≤ i) (h3 : i < (m.tasks.length : Int)) : tkAt m i ∈ m.tasks ∧ m.tasks[i.toNat]? = some (tkAt m i) := by
 unfold tkAt
 have hk : i.toNat < m.tasks.length := by omega
 rw [List.getD_eq_getElem?_getD, List.getElem?_eq_getElem hk]
 exact ⟨List.getElem_mem hk, rfl⟩
theorem block_there {m : ImP} {t : TkP} (hm : imE m = true) (ht : t ∈ m.tasks) (hc : cE true t.co = 0) (hl : lks t.co t.co.length = t.bl) {p : Nat} (hp : p < t.co.length) (ho : (at_ t.co p).1 = 17 ∨ (at_ t.co p).1 = 18) :
  0 ≤ (at_ t.co p).2.1 ∧ (at_ t.co p).2.1 < (m.blocks.length : Int) := by
 have h1 := (rE_zero (cE_zero hc).1).1
 obtain ⟨hw, hb⟩ := lE_zero h1
 have h2 := held_get hb hp ho
 unfold lkd at h2
 obtain ⟨q, hq, h3⟩ := List.any_eq_true.1 h2
 simp only [Bool.and_eq_true, beq_iff_eq] at h3
 have h4 : (at_ t.co p).2.1 ∈ t.bl := by
  rw [← hl, mem_lks (Nat.le_refl _)]
  have := sk_lt hq
  exact ⟨q, by omega, h3.1, h3.2⟩
 have h5 := (tkE_parts ((tasksE_parts (imE_parts hm).2.2.2).2.2.1 t ht)).2.1
 have := riseE_mem h5 _ h4
 omega
theorem locked_facts {m : ImP} {i : Int} (h : taskE m i = 0) :
  (lkA m i).length = (tkAt m i).bl.length ∧ 1 + m.la + m.cm ≤ slW m i ∧
  (∀ k, k < (lkA m i).length → 1 ≤ (lkA m i).getD k 0 ∧ (lkA m i).getD k 0 < slW m i) ∧
  ∀ k, 0 < k → k < (lkA m i).length → (lkA m i).getD k 0 < (lkA m i).getD (k - 1) 0 := by
 obtain ⟨h1, h2, h3, h4⟩ := taskE_zero h
 obtain ⟨c1, c2, c3⟩ := wrE_zero h4
 obtain ⟨n1, n2, n3, n4⟩ := numE_parts (imE_parts h1).1
 have hS := secs_all c1 (tkAt m i).co.length (Nat.le_refl _)
 have hE : lkA m i = (sec (tkAt m i).co (tkAt m i).co.length).map (·.2) := by unfold lkA sA; rw [if_pos h, if_pos c1]
 have hW : slW m i = m.sw + m.la + ((ub true (tkAt m i).co 0 + 1 : Nat) : Int) + m.cm + m.sw := by unfold slW cW; rw [if_pos h, if_pos c1]
 have hl : (lkA m i).length = (sec (tkAt m i).co (tkAt m i).co.length).length := by rw [hE, List.length_map]
 have hg : ∀ k, k < (lkA m i).length → (lkA m i).getD k 0 = ((sec (tkAt m i).co (tkAt m i).co.length).getD k (0, 0)).2 := by
  intro k hk
  rw [hl] at hk
  rw [hE, List.getD_eq_getElem?_getD, List.getD_eq_getElem?_getD, List.getElem?_map, List.getElem?_eq_getElem hk]; rfl
 refine ⟨?_, ?_, fun k hk => ?_, fun k h0 hk => ?_⟩
 ·rw [hl, sec_lks (Nat.le_refl _), c2]
 ·rw [hW]; omega
 ·rw [hg k hk, hW]
  have := hS.one k (by omega)
  omega
 ·rw [hg k hk, hg (k - 1) (by omega)]
  have := hS.two k h0 (by omega)
  omega
theorem locked_zero {m : ImP} {i : Int} (h : taskE m i ≠ 0) : lkA m i = [] ∧ slW m i = 0 := by
 unfold lkA slW; rw [if_neg h, if_neg h]; exact ⟨rfl, rfl⟩
/-! ### Other times. -/
theorem bynE_congr {m m' : ImP} (h1 : m'.inp = m.inp) (h2 : m'.blocks = m.blocks) (ou : List Int) : bynE m' ou = bynE m ou := by
 funext i; unfold bynE; rw [h1, h2]
theorem wrE_congr {m m' : ImP} (h1 : m'.inp = m.inp) (h2 : m'.blocks = m.blocks) (t : TkP) : wrE m' t = wrE m t := by
 unfold wrE wpE; rw [bynE_congr h1 h2]
/-! ### One task alone. -/
/-! ### More inputs, blocks and outputs. -/
/-! ### A task of End alone. -/
end Go.Proofs.YtngehojibcmieaaGreatDoor
end
section
namespace Go.Proofs.YtngehojibcmieaaGreatDoor
open Go.ChangeShapes Go.WideShapes Go.RowKit
theorem itake_same {l m : List Int} {q : Nat} {x : Int} (h1 : l[q]? = some x) (h2 : m[q]? = some x) (h : l.take q = m.take q) : l.take (q + 1) = m.take (q + 1) := by
 rw [take_cat h1, take_cat h2, h]
theorem irow_ne {l m : List Int} {q : Nat} {x y : Int} (h1 : l[q]? = some x) (h2 : m[q]? = some y) (h : x ≠ y) : decide (l = m) = false := by
 rw [decide_eq_false_iff_not]
 rintro rfl
 rw [h1] at h2
 exact h (Option.some.inj h2)
theorem equalI_any (a b : Option Addr) (n m c d : Nat) (L M : List Int) (w : World) (ha : Row w a n L) (hb : Row w b m M) (hn : n ≤ 140737488355328) (hm : m ≤ 140737488355328) :
  Calls Tryz.prog 60 #[.slice a n c, .slice b m d] w fun e w' => e = .returned (.bool (decide (L = M))) ∧ Below w.heap.size w w' := by
 obtain ⟨R, hR⟩ : ∃ R, R = decide (L = M) := ⟨_, rfl⟩
 rw [← hR]
 have HR := Lib.hid hR
 clear hR
 by_cases hnm : n ≠ m
 ·have HQ : Hid (decide (L = M) = false) := by
   show _ = _
   rw [decide_eq_false_iff_not]
   rintro rfl
   exact hnm (ha.1.trans hb.1.symm)
  have e1 : (n == m) = false := by rw [beq_eq_false_iff_ne]; exact hnm
  have e2 : ((n : Int) == (m : Int)) = false := by rw [beq_eq_false_iff_ne]; omega
  have e3 : (n != m) = true := by simpa using hnm
  have e4 : ((n : Int) != (m : Int)) = true := by simpa [bne] using e2
  clear ha hb hnm
  go_enter Tryz.func60, Tryz.ntmps60
  go_wp2
  go_ret
  exact ⟨by rw [HR.out, HQ.out]; rfl, Below.refl _ _⟩
 obtain rfl : n = m := by omega
 clear hnm
 have HL := Lib.hid ha.1
 have HM := Lib.hid hb.1
 go_enter Tryz.func60, Tryz.ntmps60
 go_wp2
 go_loopw [13] (fun i wr => ∃ k : Nat, k ≤ n ∧ i = .int .i64 k ∧ Hid (L.take k = M.take k) ∧ Below w.heap.size w wr) (fun i _ => n - (intOf i).toNat)
 case atStart => exact ⟨0, by omega, rfl, rfl, Below.refl _ _⟩
 case round =>
  obtain ⟨k, hk, rfl, HT, hbl⟩ := hrel
  by_cases hlt : k < n
  ·obtain ⟨b1, o1, p1, rfl, hB1, hx, hc1⟩ := (ha.below hbl).item hlt
   obtain ⟨b2, o2, q1, rfl, hB2, hy, hd1⟩ := (hb.below hbl).item hlt
   have HX := Lib.hid hx
   have HY := Lib.hid hy
   clear hx hy
   by_cases g1 : p1 = q1
   ·subst g1
    have HT2 := Lib.hid (itake_same HX.out HY.out HT.out)
    clear HX HY HT
    go_wp2
    go_quiet (fail)
    go_wp2
    go_roundw
    case rel => exact ⟨k + 1, by omega, by go_num, HT2, hbl.trans ⟨rfl, rfl, rfl, Nat.le_refl _, fun _ _ => rfl⟩⟩
    case measure => simp [intOf]; omega
   ·have HQ := Lib.hid (irow_ne HX.out HY.out g1)
    have e1 : (p1 == q1) = false := by rw [beq_eq_false_iff_ne]; exact g1
    clear HX HY HT g1
    go_wp2
    go_quiet (fail)
    go_wp2
    go_ret
    exact ⟨by rw [HR.out, HQ.out]; rfl, hbl.trans ⟨rfl, rfl, rfl, Nat.le_refl _, fun _ _ => rfl⟩⟩
  ·have HQ : Hid (decide (L = M) = true) := by
    show _ = _
    rw [decide_eq_true_iff]
    have := HT.out
    rw [List.take_of_length_le (by rw [← HL.out]; omega), List.take_of_length_le (by rw [← HM.out]; omega)] at this
    exact this
   go_wp2
   go_ret
   exact ⟨by rw [HR.out, HQ.out]; rfl, hbl⟩
theorem contains_drop {l : List Int} {k : Nat} {y x : Int} (h : l[k]? = some y) : (l.drop k).contains x = ((x == y) || (l.drop (k + 1)).contains x) := by
 rw [take_cons_drop h, List.contains_cons]
theorem indexI_any (a : Option Addr) (n c : Nat) (L : List Int) (x : Int) (w : World) (hr : Row w a n L) (hn : n ≤ 140737488355328) :
  Calls Tryz.prog 158 #[.slice a n c, .int .i64 x] w fun e w' => ∃ i : Int, e = .returned (.int .i64 i) ∧ decide (0 ≤ i) = L.contains x ∧ Below w.heap.size w w' := by
 have HL := Lib.hid hr.1
 go_enter Tryz.func158, Tryz.ntmps158
 go_wp2
 go_loopw [8] (fun i wr => ∃ k : Nat, k ≤ n ∧ i = .int .i64 k ∧ Hid (L.contains x = (L.drop k).contains x) ∧ Below w.heap.size w wr) (fun i _ => n - (intOf i).toNat)
 case atStart => exact ⟨0, by omega, rfl, rfl, Below.refl _ _⟩
 case round =>
  obtain ⟨k, hk, rfl, HA, hbl⟩ := hrel
  by_cases hlt : k < n
  ·obtain ⟨b1, o1, y, rfl, hB1, hx, hc1⟩ := (hr.below hbl).item hlt
   have HX := Lib.hid (contains_drop (x := x) hx)
   clear hx
   by_cases e : x = y
   ·have HQ : Hid (L.contains x = true) := by show _ = _; rw [HA.out, HX.out, e]; simp
    have e1 : (x == y) = true := by simpa using e
    clear HA HX e
    go_wp2
    go_ret
    exact ⟨_, rfl, by rw [HQ.out]; simp, hbl⟩
   ·have e1 : (x == y) = false := by simpa using e
    have HQ : Hid (L.contains x = (L.drop (k + 1)).contains x) := by
     show _ = _
     rw [HA.out, HX.out, e1, Bool.false_or]
    clear HA HX e
    go_wp2
    go_roundw
    case rel => exact ⟨k + 1, by omega, by go_num, HQ, hbl⟩
    case measure => simp [intOf]; omega
  ·obtain rfl : k = n := by omega
   have HR : Hid (L.contains x = false) := by show _ = _; rw [HA.out, List.drop_of_length_le (by rw [HL.out]; exact Nat.le_refl _)]; rfl
   go_wp2
   go_ret
   exact ⟨_, rfl, by rw [HR.out]; rfl, hbl⟩
theorem containsI_any (a : Option Addr) (n c : Nat) (L : List Int) (x : Int) (w : World) (hr : Row w a n L) (hn : n ≤ 140737488355328) (r : Bool) (hq : L.contains x = r) :
  Calls Tryz.prog 114 #[.slice a n c, .int .i64 x] w fun e w' => e = .returned (.bool r) ∧ Below w.heap.size w w' := by
 have C := Lib.hid (indexI_any a n c L x w hr hn)
 have HQ := Lib.hid hq
 clear hr hn hq
 go_enter Tryz.func114, Tryz.ntmps114
 go_wp2_with (refine C.out.mono ?_; rintro e w2 ⟨i, rfl, hi0, hb2⟩; have hi := Lib.hid hi0; clear hi0)
 go_ret
 exact ⟨by rw [← HQ.out, ← hi.out]; rfl, hb2⟩
theorem act_ext {a a' : Act} (hd : a.defers = a'.defers) (hs : a.tmps.size = a'.tmps.size) (h : ∀ k, k < a.tmps.size → a.eval (.tmp k) = a'.eval (.tmp k)) : a = a' := by
 obtain ⟨t, d⟩ := a
 obtain ⟨t', d'⟩ := a'
 simp only at hd hs
 subst hd
 congr 1
 apply Array.ext hs
 intro i h1 h2
 have := h i h1
 unfold Act.eval at this
 simpa [h1, h2] using this
theorem wpAny_inv2 {P : Program} {md : Region.Mode} {ops : Array Oper} {Q : Exit → Act → World → Prop} (I : Array Bool → Act → World → Prop)
  (hdep : ∀ (i : Nat) o, ops[i]? = some o → ∀ e ∈ o.after, e.on < i)
  (hend : ∀ listed a w, (∀ i : Nat, listed.getD i true = true) → I listed a w → Q .normal a w)
  (hstep : ∀ (listed : Array Bool) a w (i : Nat) o, ops[i]? = some o → listed.getD i true = false → (∀ e ∈ o.after, Region.binds md e = true → listed.getD e.on false = true) → I listed a w →
   (if Region.wanted o (yielded ops a.tmps) = true then o.wp P a w (I (listed.setIfInBounds i true)) Q else I (listed.setIfInBounds i true) (a.put o.dst undef) w)) :
  ∀ (fuel : Nat) (listed : Array Bool) (a : Act) (w : World), listed.size = ops.size → unlB listed ≤ fuel → I listed a w → wpAny P md ops Q fuel listed a w := by
 have hall : ∀ listed : Array Bool, listed.size = ops.size → Region.ready md ops listed = [] → ∀ i : Nat, listed.getD i true = true := by
  intro listed hsz hr i
  induction i using Nat.strongRecOn with
  | ind i ih =>
   cases h : listed.getD i true
   ·exfalso
    have hi : i < listed.size := by
     rcases Nat.lt_or_ge i listed.size with h' | h'
     ·exact h'
     ·simp [Array.getElem?_eq_none h'] at h
    obtain ⟨o, ho⟩ : ∃ o, ops[i]? = some o := ⟨ops[i]'(by omega), by simp [← hsz, hi]⟩
    have : i ∈ Region.ready md ops listed := mem_ready.2 ⟨h, o, ho, fun e he _ => by
     have h1 := hdep i o ho e he
     have h2 := ih e.on h1
     have h3 : e.on < listed.size := by omega
     simpa [h3] using h2⟩
    rw [hr] at this; simp at this
   ·rfl
 intro fuel
 induction fuel with
 | zero =>
  intro listed a w hsz hu hI
  have ha := unlB_zero (Nat.le_zero.1 hu)
  refine ⟨?_, hend listed a w ha hI⟩
  cases hr : Region.ready md ops listed with
  | nil => rfl
  | cons x r =>
   have := (mem_ready.1 (show x ∈ Region.ready md ops listed by rw [hr]; simp)).1
   rw [ha x] at this; cases this
 | succ fuel ih =>
  intro listed a w hsz hu hI
  refine ⟨fun hr => hend listed a w (hall listed hsz hr) hI, fun i hi => ?_⟩
  obtain ⟨h0, o, ho, hd⟩ := mem_ready.1 hi
  have hw := hstep listed a w i o ho h0 hd hI
  have hle : unlB (listed.setIfInBounds i true) ≤ fuel := by have := unlB_set h0; omega
  unfold wpOp
  rw [ho]
  simp only
  cases hwt : Region.wanted o (yielded ops a.tmps)
  ·rw [hwt] at hw
   simp only [Bool.false_eq_true, if_false] at hw ⊢
   exact ih _ _ w (by simpa using hsz) hle hw
  ·rw [hwt] at hw
   simp only [if_true] at hw ⊢
   exact Or.inl (Oper.wp_mono (fun a' w' h => ih _ a' w' (by simpa using hsz) hle h) hw)
def Gives (P : Program) (o : Oper) (ρ : Operand → Value) (w : World) (R : Value → World → Prop) : Prop :=
 (∃ v w', (execOp ρ o).run P w = .ok (.value v) w' ∧ R v w') ∨ (∃ f args, (execOp ρ o).run P w = .ok (.enter f args) w ∧ Calls P f args w fun e w' => ∃ v, e = .returned v ∧ R v w')
theorem Gives.val {P : Program} {o : Oper} {ρ : Operand → Value} {w w' : World} {R : Value → World → Prop} {v : Value} (h : (execOp ρ o).run P w = .ok (.value v) w') (r : R v w') : Gives P o ρ w R := Or.inl ⟨v, w', h, r⟩
theorem Gives.enter {P : Program} {o : Oper} {ρ : Operand → Value} {w : World} {R : Value → World → Prop} {f : FuncId} {args : Array Value} (h : (execOp ρ o).run P w = .ok (.enter f args) w) (c : Calls P f args w fun e w' => ∃ v, e = .returned v ∧ R v w') : Gives P o ρ w R := Or.inr ⟨f, args, h, c⟩
theorem Gives.wp {P : Program} {o : Oper} {a : Act} {w : World} {R : Value → World → Prop} {K : Act → World → Prop} {Q : Exit → Act → World → Prop} (h : Gives P o a.eval w R) (hK : ∀ v w', R v w' → K (a.put o.dst v) w') : o.wp P a w K Q := by
 unfold Oper.wp
 rcases h with ⟨v, w', h1, h2⟩ | ⟨f, args, h1, h2⟩
 ·rw [h1]; exact hK v w' h2
 ·rw [h1, Oper.upon_enter]
  refine h2.mono fun e w' he => ?_
  obtain ⟨v, rfl, hr⟩ := he
  exact hK v w' hr
theorem eval_at {a : Act} {k : Nat} (h : k < a.tmps.size) : a.tmps[k]? = some (a.eval (.tmp k)) := by
 unfold Act.eval
 simp [h]
theorem eval_put_other {a : Act} {d k : Nat} (v : Value) (h : d ≠ k) : (a.put (some d) v).eval (.tmp k) = a.eval (.tmp k) := by
 unfold Act.eval Act.put
 simp [h]
theorem eval_put_same {a : Act} {d : Nat} (v : Value) (h : d < a.tmps.size) : (a.put (some d) v).eval (.tmp d) = v := by
 unfold Act.eval Act.put
 simp [h]
theorem act_mix {a a' : Act} {l : List Value} (lo n : Nat) (hl : a.tmps = l.toArray) (hs : a'.tmps.size = a.tmps.size) (hd : a'.defers = a.defers) (hn : lo + n ≤ l.length)
  (ho : ∀ k, (k < lo ∨ lo + n ≤ k) → a'.eval (.tmp k) = a.eval (.tmp k)) :
  ∃ us : List Value, us.length = n ∧ (∀ i, i < n → us.getD i undef = a'.eval (.tmp (lo + i))) ∧ a' = { tmps := (l.take lo ++ (us ++ l.drop (lo + n))).toArray, defers := a.defers } := by
 have hsl : a'.tmps.size = l.length := by rw [hs, hl]; simp
 refine ⟨(List.range n).map fun i => a'.eval (.tmp (lo + i)), by simp, fun i hi => by simp [hi], ?_⟩
 refine act_ext hd (by rw [hsl]; simp; omega) fun k hk => ?_
 have hk2 : k < l.length := by omega
 have e0 : ∀ (z : List Value) (b : Act), b.tmps = z.toArray → b.eval (.tmp k) = z.getD k undef := by
  intro z b hb; unfold Act.eval; rw [hb]; simp [List.getD_eq_getElem?_getD]
 refine Eq.trans ?_ (e0 (l.take lo ++ (((List.range n).map fun i => a'.eval (.tmp (lo + i))) ++ l.drop (lo + n))) { tmps := (l.take lo ++ (((List.range n).map fun i => a'.eval (.tmp (lo + i))) ++ l.drop (lo + n))).toArray, defers := a.defers } rfl).symm
 rw [List.getD_eq_getElem?_getD]
 by_cases h1 : k < lo
 ·rw [ho k (Or.inl h1), e0 l a hl, List.getElem?_append, if_pos (by rw [List.length_take]; omega), List.getElem?_take, if_pos h1, List.getD_eq_getElem?_getD]
 ·rw [List.getElem?_append, if_neg (by rw [List.length_take]; omega), List.length_take, Nat.min_eq_left (by omega)]
  by_cases h2 : k < lo + n
  ·rw [List.getElem?_append, if_pos (by rw [List.length_map, List.length_range]; omega), List.getElem?_map, List.getElem?_range (by omega)]
   show _ = a'.eval (.tmp (lo + (k - lo)))
   rw [show lo + (k - lo) = k by omega]
  ·rw [ho k (Or.inr (by omega)), e0 l a hl, List.getElem?_append, if_neg (by rw [List.length_map, List.length_range]; omega), List.length_map, List.length_range, List.getElem?_drop, List.getD_eq_getElem?_getD]
   rw [show lo + n + (k - lo - n) = k by omega]
theorem eval_out {a : Act} {k : Nat} (h : a.tmps.size ≤ k) : a.eval (.tmp k) = undef := by
 unfold Act.eval
 simp [h]
theorem wq {P : Program} {o : Oper} {a : Act} {W : World} {u : Value} {K : Act → World → Prop} {Q : Exit → Act → World → Prop} (h : (execOp a.eval o).run P W = .ok (.value u) W) (hK : K (a.put o.dst u) W) : o.wp P a W K Q := by
 unfold Oper.wp
 rw [h]; exact hK
structure RegW (T n : Nat) (dst : Nat → Nat) (ok : Nat → Value → World → Prop) (S : World → Prop) (a0 : Act) (listed : Array Bool) (a : Act) (w : World) : Prop where
 size : a.tmps.size = T
 defs : a.defers = a0.defers
 lsz : listed.size = n
 vals : ∀ i, i < n → listed.getD i true = true → ok i (a.eval (.tmp (dst i))) w
 oth : ∀ k, (∀ i, i < n → dst i ≠ k) → a.eval (.tmp k) = a0.eval (.tmp k)
 s : S w
theorem region_w {P : Program} {id : Nat} {ops : Array Oper} {Q : Exit → Act → World → Prop} {a : Act} {w : World} (T n : Nat) (dst : Nat → Nat) (dep : Nat → List Nat) (ok : Nat → Value → World → Prop) (S : World → Prop) (rel : Nat → World → World → Prop)
  (hm : P.follows .mixedOrders = true) (hn : ops.size = n) (hinj : ∀ i j, i < n → j < n → dst i = dst j → i = j) (hT : a.tmps.size = T)
  (hg : ∀ (i : Nat) o, ops[i]? = some o → ((o.dst = some (dst i) ∧ dst i < T) ∨ (o.dst = none ∧ T ≤ dst i ∧ ∀ v v' W, ok i v W → ok i v' W)) ∧ (∀ d ∈ dep i, d < i ∧ ∃ e ∈ o.after, e.on = d ∧ Region.binds .any e = true) ∧ ∀ e ∈ o.after, e.on < i)
  (hst : ∀ (i j : Nat) v W W', i < n → j < n → j ≠ i → rel i W W' → ok j v W → ok j v W')
  (hx : ∀ (i : Nat) o, ops[i]? = some o → ∀ (a' : Act) W, S W → (∀ k, (∀ i, i < n → dst i ≠ k) → a'.eval (.tmp k) = a.eval (.tmp k)) → (∀ j ∈ dep i, ok j (a'.eval (.tmp (dst j))) W) →
   (o.guard = none ∧ ∀ K : Act → World → Prop, (∀ v W', ok i v W' → S W' → rel i W W' → K (a'.put o.dst v) W') → o.wp P a' W K Q) ∨
   (∃ j b c, o.guard = some (j, b) ∧ j ∈ dep i ∧ dst j < T ∧ a'.eval (.tmp (dst j)) = .bool c ∧ (c = b → ∀ K : Act → World → Prop, (∀ v W', ok i v W' → S W' → rel i W W' → K (a'.put o.dst v) W') → o.wp P a' W K Q) ∧ (c ≠ b → ok i undef W)))
  (hS : S w.drew)
  (hQ : ∀ a' w', a'.tmps.size = T → a'.defers = a.defers → (∀ k, (∀ i, i < n → dst i ≠ k) → a'.eval (.tmp k) = a.eval (.tmp k)) → (∀ i, i < n → ok i (a'.eval (.tmp (dst i))) w') → S w' → Q .normal a' w') :
  (Code.region id ops true).wp P Q a w := by
 refine wp_region_any hm (wpAny_inv2 (I := RegW T n dst ok S a) ?_ ?_ ?_ ops.size _ a _ (by simp) ?_ ?_)
 ·intro i o ho e he
  exact (hg i o ho).2.2 e he
 ·intro listed a' w' hall h
  exact hQ a' w' h.size h.defs h.oth (fun i hi => h.vals i hi (hall i)) h.s
 ·intro listed a' w' i o ho hl hdeps h
  obtain ⟨g1, g2, g3⟩ := hg i o ho
  have hi : i < n := by rw [← hn]; exact (Array.getElem?_eq_some_iff.1 ho).1
  have hd : ∀ j ∈ dep i, ok j (a'.eval (.tmp (dst j))) w' := by
   intro j hj
   obtain ⟨hji, e, he, h1, h2⟩ := g2 j hj
   exact h.vals j (by omega) (by rw [← h1]; exact listed_true (hdeps e he h2))
  have put : ∀ v w'', ok i v w'' → S w'' → (∀ j, j < n → j ≠ i → ∀ u, ok j u w' → ok j u w'') → RegW T n dst ok S a (listed.setIfInBounds i true) (a'.put o.dst v) w'' := by
   intro v w'' e1 e2 e3
   refine ⟨by rw [size_put]; exact h.size, by rw [defs_put]; exact h.defs, by simpa using h.lsz, ?_, ?_, e2⟩
   ·intro j hj hjl
    rcases g1 with ⟨q1, q2⟩ | ⟨q1, _, q3⟩
    ·rw [q1]
     by_cases e : j = i
     ·subst e; rw [eval_put_same _ (by rw [h.size]; exact q2)]; exact e1
     ·rw [eval_put_other _ (fun e5 => e (hinj i j hi hj e5).symm)]; exact e3 j hj e _ (h.vals j hj (listed_of hjl e))
    ·rw [q1]
     by_cases e : j = i
     ·subst e; exact q3 _ _ _ e1
     ·exact e3 j hj e _ (h.vals j hj (listed_of hjl e))
   ·intro k hk
    rcases g1 with ⟨q1, _⟩ | ⟨q1, _⟩
    ·rw [q1, eval_put_other _ (hk i hi)]; exact h.oth k hk
    ·rw [q1]; exact h.oth k hk
  rcases hx i o ho a' w' h.s h.oth hd with ⟨x1, x2⟩ | ⟨j, b, c, x1, x2, xT, x3, x4, x5⟩
  ·have hwant : Region.wanted o (yielded ops a'.tmps) = true := by unfold Region.wanted; rw [x1]
   rw [if_pos hwant]
   exact x2 _ fun v W' h1 h2 h3 => put v W' h1 h2 fun j hj hji u hu => hst i j u w' W' hi hj hji h3 hu
  ·obtain ⟨hji, _⟩ := g2 j x2
   obtain ⟨oj, hoj⟩ : ∃ oj, ops[j]? = some oj := ⟨ops[j]'(by omega), by simp⟩
   have gj : oj.dst = some (dst j) := by
    rcases (hg j oj hoj).1 with ⟨q1, _⟩ | ⟨_, q2, _⟩
    ·exact q1
    ·omega
   have hy : yielded ops a'.tmps j = some c := by
    unfold yielded
    rw [hoj]
    simp only [Option.bind_some, gj]
    rw [eval_at (by rw [h.size]; exact xT), x3]
   have hwant : Region.wanted o (yielded ops a'.tmps) = (some c == some b) := by unfold Region.wanted; rw [x1]; simp only [hy]
   by_cases e : c = b
   ·rw [if_pos (by rw [hwant, e]; simp)]
    exact x4 e _ fun v W' h1 h2 h3 => put v W' h1 h2 fun j hj hji u hu => hst i j u w' W' hi hj hji h3 hu
   ·rw [if_neg (by rw [hwant]; simpa using e)]
    exact put _ _ (x5 e) h.s fun _ _ _ _ hu => hu
 ·unfold unlB
  have := List.countP_le_length (p := fun x => !x) (l := (Array.replicate ops.size false).toList)
  simpa using this
 ·refine ⟨hT, rfl, by simp [hn], ?_, fun _ _ => rfl, hS⟩
  intro i hi hl; simp [hn, hi] at hl
end Go.Proofs.YtngehojibcmieaaGreatDoor
end
