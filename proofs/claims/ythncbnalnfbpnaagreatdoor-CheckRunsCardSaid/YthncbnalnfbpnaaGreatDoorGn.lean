/- What is proved here: the contract of vm.New. Condition: the table of names holds what its initialiser lays ('Nms'). the contract of vm.New. Condition: the table of names holds what its initialiser lays ('Nms'). contracts of (*vm.Machine).Retained and Stack. Conditions: the stack is not too long. what the model's index of an array of pairs tells; the outputs' cells. Conditions: those each theorem states. the contract of (*vm.Machine).Outs. Conditions: none but that it is a machine. -/
import Derived.Test.YthncbnalnfbpnaaGreatDoorGi
import Derived.Test.YthncbnalnfbpnaaGreatDoorGj
import Derived.Test.YthncbnalnfbpnaaGreatDoorGt
import Derived.Test.YthncbnalnfbpnaaGreatDoorGm
import Derived.Deep.RegionHeld3
section
namespace Go.Proofs.YthncbnalnfbpnaaGreatDoor
open Go.ChangeShapes Go.WideShapes Go.RowKit Go.Maps

/-- The cells of a machine that is made. -/
def zeroM (rv : Value) (i : Nat) : Value := if i = 0 then .pointer none else if i = 2 then .map none else mcell 0 rv undef (.slice none 0 0) (.slice none 0 0) fresh i
def newC (rv : Value) : List Value := (List.range 74).map (zeroM rv)
theorem run_new (a : Option Addr) (n c : Nat) (w : World) : (Instr.build 102 #[(1, .slice a n c)]).run Tryz.prog w = .ok (.agg (newC (.slice a n c)).toArray) w := by kernel_rfl
theorem newC_len (rv : Value) : (newC rv).length = 74 := by simp [newC]
theorem newC_at (rv : Value) {i : Nat} (h : i < 74) : (newC rv).toArray[i]? = some (zeroM rv i) := by
  rw [List.getElem?_toArray]; unfold newC
  rw [List.getElem?_map, List.getElem?_range h]; rfl
theorem zeroM_set (b bm : Nat) (rv : Value) (i : Nat) : (if i = 2 then Value.map (some bm) else if i = 0 then .pointer (some ⟨b, 0, none⟩) else zeroM rv i) = mcell b rv (.map (some bm)) (.slice none 0 0) (.slice none 0 0) fresh i := by
  by_cases e2 : i = 2
  · subst e2; rfl
  by_cases e0 : i = 0
  · subst e0; rfl
  rw [if_neg e2, if_neg e0]
  unfold zeroM
  rw [if_neg e0, if_neg e2]
  unfold mcell
  rw [if_neg e0]
  by_cases e1 : i = 1
  · subst e1; rfl
  rw [if_neg e1, if_neg e2, if_neg e0, if_neg e1, if_neg e2]
theorem own_base {w : World} {base e size n : Nat} {v : Value} {xs : List Value} (h : w.ownsRow base e size v n xs) : w.ownsRow 0 e size v n xs := by
  refine ⟨h.1, ?_⟩
  rcases h.2 with h2 | ⟨g, cap, cur, h1, _, h3⟩
  · exact Or.inl h2
  · exact Or.inr ⟨g, cap, cur, h1, Nat.zero_le _, h3⟩
/-- What New answers. -/
def GotM (L : List (Int × Int × Int)) (w : World) (e : Ending) (w' : World) : Prop :=
  Below w.heap.size w w' ∧
  ((lE L ≠ 0 ∧ e = .returned (.tuple #[.pointer none, .int .i64 (lE L)])) ∨
   (lE L = 0 ∧ tE L ≠ 0 ∧ e = .returned (.tuple #[.pointer none, .int .i64 (tE L)])) ∨
   (lE L = 0 ∧ tE L = 0 ∧ ∃ b F, e = .returned (.tuple #[.pointer (some ⟨b, 0, none⟩), .int .i64 0]) ∧ Mac w' F b L fresh ∧ ∀ k, F k → w.heap.size ≤ k))
theorem settled {w w' : World} {b bm : Nat} {rv : Value} {L : List (Int × Int × Int)} {base : Nat} (hr : w.ownsRow base 70 3 rv L.length (cellsI L)) (hbz : b < w.heap.size) (hne : ∀ g, rv.ownBlock = some g → g ≠ b)
    (h1 : w.heap.size ≤ bm) (h2 : bm < w'.heap.size) (h3 : Dmap w' bm b 25)
    (h4 : w'.rowIs b 102 74 (fun j => if j = 2 then .map (some bm) else if j = 0 then .pointer (some ⟨b, 0, none⟩) else zeroM rv j)) (h5 : w.grownBy w' (some b)) :
    Mac w' (fun k => k = b ∨ k = bm ∨ rv.ownBlock = some k) b L fresh := by
  refine ⟨rv, bm, .slice none 0 0, .slice none 0 0, {
    cells := h4.congr fun i _ => zeroM_set b bm rv i
    row := own_of_block (own_base hr) fun g hg => h5.block g (hr.lt g hg).2 (by intro e; cases e; exact hne _ hg rfl)
    map := h3
    stk := World.ownsRow_nil _ _ _ _
    lps := World.ownsRow_nil _ _ _ _
    fb := Or.inl rfl
    fm := Or.inr (Or.inl rfl)
    fr := fun k hk => Or.inr (Or.inr hk)
    fs := fun k hk => by cases hk
    fl := fun k hk => by cases hk
    lt := ?_
    rl := rfl
    ll := rfl
    il := rfl
    ol := rfl }⟩
  rintro k (rfl | rfl | hk)
  · exact Nat.lt_of_lt_of_le hbz h5.size
  · exact h2
  · exact Nat.lt_of_lt_of_le (hr.lt k hk).2 h5.size
end Go.Proofs.YthncbnalnfbpnaaGreatDoor
end

section
namespace Go.Proofs.YthncbnalnfbpnaaGreatDoor
open Go.ChangeShapes Go.WideShapes Go.RowKit Go.Maps

theorem new_cells (a : Option Addr) (n c : Nat) : Tryz.zeroCells102.setIfInBounds 1 (Value.slice a n c) = (newC (.slice a n c)).toArray := by kernel_rfl
theorem new_row (w : World) (a : Option Addr) (n c : Nat) : (w.alloc (.cells (Tryz.zeroCells102.setIfInBounds 1 (Value.slice a n c)) 102)).rowIs w.heap.size 102 74 (zeroM (.slice a n c)) := by
  rw [new_cells]
  have h := World.rowIs_alloc w (newC (.slice a n c)).toArray 102 (zeroM (.slice a n c)) (fun i hi => newC_at _ (by rw [List.size_toArray, newC_len] at hi; exact hi))
  have e : (newC (.slice a n c)).toArray.size = 74 := by rw [List.size_toArray, newC_len]
  rw [e] at h
  exact h
set_option maxHeartbeats 1000000 in
set_option maxRecDepth 100000 in
theorem new_any (a : Option Addr) (n c : Nat) (L : List (Int × Int × Int)) (w : World) (hr : RowI w a n L) (hN : Nms w) :
    Calls Tryz.prog 17 #[.slice a n c] w (GotM L w) := by
  have C1 := locks_any a n c L w hr hN
  by_cases h1 : lE L = 0
  · have C2 := fun W (hb : Below w.heap.size w W) => stacks_any a n c L W (hr.below hb) (hN.below hb)
    rw [h1] at C1
    by_cases h2 : tE L = 0
    · rw [h2] at C2
      have hl := can_len (mE_zero (wE_zero (lE_zero h1).1).1).1
      obtain ⟨rb, off, rfl, _⟩ := hr.2 (by rw [hr.1]; omega)
      have C3 := fun W (hb : Below w.heap.size w W) => cloneI_any W rb off n c L (hr.below hb) (by rw [hr.1]; omega)
      have C1 := Lib.hid C1
      have C2 := Lib.hid C2
      have C3 := Lib.hid C3
      have HN := Lib.hid hr.1
      have H1 := Lib.hid h1
      have H2 := Lib.hid h2
      clear h1 h2 hr hN hl
      go_enter Tryz.func17, Tryz.ntmps17
      go_wp2_with (first | (go_at_call 34; refine C1.out.mono ?_; rintro e w1 ⟨a1, n1, c1, rfl, r1, b1⟩; clear r1) | (go_at_call 35; refine (C2.out _ b1).mono ?_; rintro e w2 ⟨a2, n2, c2, rfl, r2, b2⟩; clear r2) | (go_at_call 36; refine (C3.out _ (keep_below b1 b2)).mono ?_; rintro e w3 ⟨v', rfl, o3, b3⟩; have hv : ∃ a c, v' = .slice a n c := (by rcases o3.2 with ⟨h1, h2⟩ | ⟨g, cap, cur, h1, _⟩ <;> first | exact ⟨none, 0, by rw [h1, h2]⟩ | exact ⟨_, _, h1⟩); obtain ⟨a3, c3, rfl⟩ := hv) | (go_at_call 37; refine (settle_any _ _ _ (new_row w3 a3 n c3)).mono ?_; rintro e w4 ⟨rfl, bm, s1, s2, s3, s4, s5⟩))
      go_ret2
      have bw := keep_below b1 (keep_below b2 b3)
      have bw4 : Below w.heap.size w w4 := (bw.alloc bw.size _).grown s5 (by simp; have := bw.size; omega) (fun k hk => by cases hk; exact bw.size)
      refine ⟨bw4, Or.inr (Or.inr ⟨H1.out, H2.out, w3.heap.size, _, rfl, settled (base := w2.heap.size) ?_ (by simp) ?_ s1 s2 s3 s4 s5, ?_⟩)⟩
      · rw [← HN.out]; exact o3.alloc _
      · intro g hg; have := (o3.lt g hg).2; omega
      · have q1 := (keep_below b1 b2).size
        have q2 := b3.size
        have q3 : w3.heap.size + 1 ≤ bm := by simpa using s1
        rintro k (rfl | rfl | hk)
        · omega
        · omega
        · have := (o3.lt k hk).1; omega
    · have C1 := Lib.hid C1
      have C2 := Lib.hid C2
      have H1 := Lib.hid h1
      have H2 := Lib.hid h2
      obtain ⟨x, hx⟩ : ∃ x, x = tE L := ⟨_, rfl⟩
      rw [← hx] at C2 H2 h2
      have e1 : (x != 0) = true := by simpa using h2
      have e2 : (x == 0) = false := by simpa using h2
      have HX := Lib.hid hx
      clear h1 h2 hr hN hx
      go_enter Tryz.func17, Tryz.ntmps17
      go_wp2_with (first | (go_at_call 34; refine C1.out.mono ?_; rintro e w1 ⟨a1, n1, c1, rfl, r1, b1⟩; clear r1) | (go_at_call 35; refine (C2.out _ b1).mono ?_; rintro e w2 ⟨a2, n2, c2, rfl, r2, b2⟩; clear r2))
      go_ret2
      exact ⟨keep_below b1 b2, Or.inr (Or.inl ⟨H1.out, HX.out ▸ H2.out, by rw [← HX.out]; rfl⟩)⟩
  · have C1 := Lib.hid C1
    have H1 := Lib.hid h1
    obtain ⟨x, hx⟩ : ∃ x, x = lE L := ⟨_, rfl⟩
    rw [← hx] at C1 H1 h1
    have e1 : (x != 0) = true := by simpa using h1
    have e2 : (x == 0) = false := by simpa using h1
    have HX := Lib.hid hx
    clear h1 hr hN hx
    go_enter Tryz.func17, Tryz.ntmps17
    go_wp2_with (first | (go_at_call 34; refine C1.out.mono ?_; rintro e w1 ⟨a1, n1, c1, rfl, r1, b1⟩; clear r1))
    go_ret2
    exact ⟨b1, Or.inl ⟨HX.out ▸ H1.out, by rw [← HX.out]; rfl⟩⟩
end Go.Proofs.YthncbnalnfbpnaaGreatDoor
end

section
namespace Go.Proofs.YthncbnalnfbpnaaGreatDoor
open Go.ChangeShapes Go.WideShapes Go.RowKit Go.Maps

end Go.Proofs.YthncbnalnfbpnaaGreatDoor
end

section
namespace Go.Proofs.YthncbnalnfbpnaaGreatDoor
open Go.ChangeShapes Go.WideShapes Go.RowKit Go.Maps

theorem sz55 : (Tryz.prog.info? 96).map (·.size) = some 2 := by kernel_rfl
theorem idx56 (cs : List Value) (k : Nat) (hk : k < 16) (a b : Value) (h0 : cs[k * 2]? = some a) (h1 : cs[k * 2 + 1]? = some b) (w : World) : (Instr.index 97 (.agg cs.toArray) (.int .i64 (k : Int))).run Tryz.prog w = .ok (.agg #[a, b]) w := by
  obtain ⟨i, hi, hs⟩ := Option.map_eq_some_iff.1 sz55
  have e : List.take 2 (List.drop (k * 2) cs) = [a, b] := by
    obtain ⟨l0, g0⟩ := List.getElem?_eq_some_iff.1 h0
    obtain ⟨l1, g1⟩ := List.getElem?_eq_some_iff.1 h1
    rw [List.drop_eq_getElem_cons l0, List.drop_eq_getElem_cons l1, g0, g1]; rfl
  simp [Instr.index, part, asIntOf, run_underlying Tryz.underlying97, sizeOf, typeInfo, hi, hs, isAgg, run_underlying Tryz.underlying96, hk, e]
/-- The cells of outputs, as an array. -/
def outC (v : V) : List Value := (List.range 32).map fun j => mcell 0 undef undef undef undef v (38 + j)
theorem outC_at (v : V) (b : Nat) (rv dm st lp : Value) (j : Nat) (h : j < 32) : (outC v)[j]? = some (mcell b rv dm st lp v (38 + j)) := by
  unfold outC
  rw [List.getElem?_map, List.getElem?_range h]
  simp only [Option.map_some, Option.some.injEq]
  unfold mcell
  iterate 9 rw [if_neg (by omega)]
  rw [if_pos (by omega)]
  conv => rhs
          rw [if_neg (by omega), if_neg (by omega), if_neg (by omega), if_neg (by omega), if_neg (by omega), if_neg (by omega), if_neg (by omega), if_neg (by omega), if_neg (by omega), if_pos (by omega)]
theorem outC_pair (v : V) (k : Nat) (h : k < 16) : (outC v)[k * 2]? = some (.bool (v.outs.getD k (false, 0)).1) ∧ (outC v)[k * 2 + 1]? = some (.int .i64 (v.outs.getD k (false, 0)).2) := by
  rw [outC_at v 0 undef undef undef undef _ (by omega), outC_at v 0 undef undef undef undef _ (by omega)]
  unfold mcell
  constructor
  · iterate 9 rw [if_neg (by omega)]
    rw [if_pos (by omega), if_pos (by omega), show (38 + k * 2 - 38) / 2 = k by omega]
  · iterate 9 rw [if_neg (by omega)]
    rw [if_pos (by omega), if_neg (by omega), show (38 + (k * 2 + 1) - 38) / 2 = k by omega]
theorem outC_len (v : V) : (outC v).length = 32 := by simp [outC]
theorem ln56 : (Tryz.prog.info? 97).map (·.size) = some 32 := by kernel_rfl
/-- The outputs as far as a port. -/
def outTo (v : V) (k : Nat) : List (Int × Int) := outsOf (v.outs.take k) 0
theorem outsOf_append (a b : List (Bool × Int)) : ∀ p, outsOf (a ++ b) p = outsOf a p ++ outsOf b (p + a.length) := by
  induction a with
  | nil => intro p; simp [outsOf]
  | cons x a ih =>
    intro p
    simp only [List.cons_append, outsOf, ih, List.length_cons]
    rw [show p + 1 + a.length = p + (a.length + 1) by omega]
    split <;> simp
theorem outTo_succ {v : V} {k : Nat} (h : k < v.outs.length) : outTo v (k + 1) = if (v.outs.getD k (false, 0)).1 = true then outTo v k ++ [((k : Int), (v.outs.getD k (false, 0)).2)] else outTo v k := by
  unfold outTo
  have e : v.outs.take (k + 1) = v.outs.take k ++ [v.outs.getD k (false, 0)] := by
    rw [List.take_succ_eq_append_getElem h]; simp [h]
  rw [e, outsOf_append]
  have hl : (v.outs.take k).length = k := by simp; omega
  rw [hl, Nat.zero_add]
  simp only [outsOf]
  split <;> simp
theorem outsOf_len : ∀ (l : List (Bool × Int)) (p : Nat), (outsOf l p).length ≤ l.length
  | [], _ => Nat.le_refl _
  | x :: l, p => by
    have := outsOf_len l (p + 1)
    simp only [outsOf]
    split <;> simp <;> omega
theorem outTo_len (v : V) (k : Nat) : (outTo v k).length ≤ k := Nat.le_trans (outsOf_len _ _) (by simp; omega)
/-- The cells of told outputs. -/
def ouC (l : List (Int × Int)) : List Value := l.flatMap fun x => [.int .i64 x.1, .int .i64 x.2]
theorem ouC_snoc (l : List (Int × Int)) (x y : Int) : ouC (l ++ [(x, y)]) = ouC l ++ [.int .i64 x, .int .i64 y] := by simp [ouC]
theorem ouC_len (l : List (Int × Int)) : (ouC l).length = l.length * 2 := by
  induction l with
  | nil => rfl
  | cons x l ih => simp only [ouC, List.flatMap_cons, List.length_append, List.length_cons, List.length_nil] at ih ⊢; omega
end Go.Proofs.YthncbnalnfbpnaaGreatDoor
end

section
namespace Go.Proofs.YthncbnalnfbpnaaGreatDoor
open Go.ChangeShapes Go.WideShapes Go.RowKit Go.Maps

theorem out_info : (Tryz.prog.info? 67).map (fun i => (i.zero, i.size, i.bytes)) = some (some (.agg #[.int .i64 0, .int .i64 0]), 2, 16) := by kernel_rfl
set_option maxHeartbeats 1000000 in
set_option maxRecDepth 100000 in
theorem outs_any (w : World) (F : Nat → Prop) (b : Nat) (L : List (Int × Int × Int)) (v : V) (h : Mac w F b L v) :
    Calls Tryz.prog 23 #[.pointer (some ⟨b, 0, none⟩)] w fun e w' => ∃ x, e = .returned x ∧ w'.ownsRow w.heap.size 67 2 x (outTo v 16).length (ouC (outTo v 16)) ∧ Below w.heap.size w w' := by
  have C := Lib.hid (given_any _ F b L v h)
  have hol := h.lens.2.2.2
  obtain ⟨rv, bm, st, lp, hc⟩ := h
  have hrg : w.rangeAt b 38 (outC v) := by
    intro j u hj
    have hj2 : j < 32 := by have := (List.getElem?_eq_some_iff.1 hj).1; rw [outC_len] at this; exact this
    rw [outC_at v b rv (.map (some bm)) st lp j hj2] at hj
    rw [hc.cells.cell (i := 38 + j) (by omega)]; exact hj
  have hi56 : (Tryz.prog.info? 97).map (·.size) = some (outC v).length := by rw [outC_len]; exact ln56
  obtain ⟨OC, hOC⟩ : ∃ OC, OC = outC v := ⟨_, rfl⟩
  have hx := fun k (hk : k < 16) => outC_pair v k hk
  rw [← hOC] at hrg hi56 hx
  have HX := Lib.hid hx
  obtain ⟨i0, hi, hz0, hz1, hz2⟩ := parts_info out_info
  clear hc hx hOC
  have HOL := Lib.hid hol
  clear hol
  go_enter Tryz.func23, Tryz.ntmps23
  go_wp2_with (first | (go_at_call 38; refine C.out.mono ?_; rintro e w1 ⟨rfl, rfl⟩) | (refine wpList_load_mid rfl 97 _ rfl b 38 rfl OC _ hrg Tryz.underlying97 rfl hi56 ?_))
  go_loopw [3, 14] (fun x i wr => ∃ k : Nat, k ≤ 16 ∧ i = .int .i64 k ∧ wr.ownsRow w.heap.size 67 2 x (outTo v k).length (ouC (outTo v k)) ∧ Below w.heap.size w wr) (fun _ i _ => 16 - (intOf i).toNat)
  case atStart => exact ⟨0, by omega, rfl, World.ownsRow_nil _ _ _ _, Below.refl _ _⟩
  case round =>
    obtain ⟨k, hk1, rfl, hown, hbl⟩ := hrel
    have hbs := hbl.size
    by_cases hlt : k < 16
    · obtain ⟨z, hz⟩ : ∃ z, z = v.outs.getD k (false, 0) := ⟨_, rfl⟩
      have hs := outTo_succ (v := v) (k := k) (by rw [HOL.out]; exact hlt)
      have hp := HX.out k hlt
      rw [← hz] at hs hp
      obtain ⟨zb, zi⟩ := z
      have hix := fun W => idx56 OC k hlt _ _ hp.1 hp.2 W
      have hlt2 : (k : Int) < 16 := by omega
      have hge : (0 : Int) ≤ (k : Int) := by omega
      have G1 := hbl.alloc hbs (.cells #[.bool zb, .int .i64 zi] 96)
      have hO := hown.alloc (.cells #[.bool zb, .int .i64 zi] 96)
      have hll := outTo_len v k
      cases zb
      · rw [if_neg (by simp)] at hs
        have HS := Lib.hid hs
        clear hs hp hz hown hrg
        go_wp2
        go_roundw
        case rel => exact ⟨k + 1, by omega, by go_num, by rw [HS.out]; exact hO, G1⟩
        case measure => simp [intOf]; omega
      · rw [if_pos rfl] at hs
        have HS := Lib.hid hs
        have gO := hO.alloc (.cells #[.int .i64 (k : Int), .int .i64 zi] 67)
        clear hs hp hz hown hrg
        go_wp2_with (at_builtin; refine wpList_append_own_at _ rfl _ _ 64 rfl w.heap.size 67 i0 (.agg #[.int .i64 0, .int .i64 0]) 2 16 Tryz.underlying64 hi hz0 hz1 hz2 rfl (by decide) _ _ _ rfl gO ⟨wr.heap.size + 1, 0, none⟩ 1 1 [.int .i64 (k : Int), .int .i64 zi] rfl rfl ?c1 ?c2 ?c3 ?c4 ?c5 ?_)
        case c2 => exact ⟨rfl, rfl⟩
        case c3 => unfold maxLen; omega
        case c4 => omega
        case c5 => omega
        · intro v' w5 hown' hg _ _
          have hb5 : Below w.heap.size w w5 := (G1.alloc (by simp; omega) _).grown hg (by simp; omega) (fun g hg => (gO.lt g hg).1)
          have hO5 : w5.ownsRow w.heap.size 67 2 v' (outTo v (k + 1)).length (ouC (outTo v (k + 1))) := by
            rw [HS.out, ouC_snoc, List.length_append]; exact hown'
          clear hown' hg gO hO G1 hbl
          go_wp2
          go_roundw
          case rel => exact ⟨k + 1, by omega, by go_num, hO5, hb5⟩
          case measure => simp [intOf]; omega
    · obtain rfl : k = 16 := by omega
      clear hrg
      go_wp2
      go_ret
      exact ⟨_, rfl, hown, hbl⟩
end Go.Proofs.YthncbnalnfbpnaaGreatDoor
end
