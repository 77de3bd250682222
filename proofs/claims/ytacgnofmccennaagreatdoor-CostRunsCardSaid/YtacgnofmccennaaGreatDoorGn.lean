/- What is proved here: the contract of vm.New. Condition: the table of names holds what its initialiser lays ('Nms'). the contract of vm.New. Condition: the table of names holds what its initialiser lays ('Nms'). -/
import Derived.Test.YtacgnofmccennaaGreatDoorGi
import Derived.Test.YtacgnofmccennaaGreatDoorGj
import Derived.Test.YtacgnofmccennaaGreatDoorGt
import Derived.Test.YtacgnofmccennaaGreatDoorGm
section
namespace Go.Proofs.YtacgnofmccennaaGreatDoor
open Go.ChangeShapes Go.WideShapes Go.RowKit Go.Maps

/-- The cells of a machine that is made. -/
def zeroM (rv : Value) (i : Nat) : Value := if i = 0 then .pointer none else if i = 2 then .map none else mcell 0 rv undef (.slice none 0 0) (.slice none 0 0) fresh i
def newC (rv : Value) : List Value := (List.range 74).map (zeroM rv)
theorem run_new (a : Option Addr) (n c : Nat) (w : World) : (Instr.build 70 #[(1, .slice a n c)]).run Tryz.prog w = .ok (.agg (newC (.slice a n c)).toArray) w := by kernel_rfl
theorem newC_len (rv : Value) : (newC rv).length = 74 := by simp [newC]
theorem newC_at (rv : Value) {i : Nat} (h : i < 74) : (newC rv).toArray[i]? = some (zeroM rv i) := by
  rw [List.getElem?_toArray]; unfold newC
  rw [List.getElem?_map, List.getElem?_range h]; rfl
theorem zeroM_set (b bm : Nat) (rv : Value) (i : Nat) : (if i = 2 then Value.map (some bm) else if i = 0 then .pointer (some ⟨b, 0, none⟩) else zeroM rv i) = mcell b rv (.map (some bm)) (.slice none 0 0) (.slice none 0 0) fresh i := by
  by_cases e2 : i = 2
  · subst e2; rfl
  by_cases e0 : i = 0
  · subst e0; rfl
  rw [if_neg e2, if_neg e0]
  unfold zeroM
  rw [if_neg e0, if_neg e2]
  unfold mcell
  rw [if_neg e0]
  by_cases e1 : i = 1
  · subst e1; rfl
  rw [if_neg e1, if_neg e2, if_neg e0, if_neg e1, if_neg e2]
theorem own_base {w : World} {base e size n : Nat} {v : Value} {xs : List Value} (h : w.ownsRow base e size v n xs) : w.ownsRow 0 e size v n xs := by
  refine ⟨h.1, ?_⟩
  rcases h.2 with h2 | ⟨g, cap, cur, h1, _, h3⟩
  · exact Or.inl h2
  · exact Or.inr ⟨g, cap, cur, h1, Nat.zero_le _, h3⟩
/-- What New answers. -/
def GotM (L : List (Int × Int × Int)) (w : World) (e : Ending) (w' : World) : Prop :=
  Below w.heap.size w w' ∧
  ((lE L ≠ 0 ∧ e = .returned (.tuple #[.pointer none, .int .i64 (lE L)])) ∨
   (lE L = 0 ∧ tE L ≠ 0 ∧ e = .returned (.tuple #[.pointer none, .int .i64 (tE L)])) ∨
   (lE L = 0 ∧ tE L = 0 ∧ ∃ b F, e = .returned (.tuple #[.pointer (some ⟨b, 0, none⟩), .int .i64 0]) ∧ Mac w' F b L fresh ∧ ∀ k, F k → w.heap.size ≤ k))
theorem settled {w w' : World} {b bm : Nat} {rv : Value} {L : List (Int × Int × Int)} {base : Nat} (hr : w.ownsRow base 51 3 rv L.length (cellsI L)) (hbz : b < w.heap.size) (hne : ∀ g, rv.ownBlock = some g → g ≠ b)
    (h1 : w.heap.size ≤ bm) (h2 : bm < w'.heap.size) (h3 : Dmap w' bm b 25)
    (h4 : w'.rowIs b 70 74 (fun j => if j = 2 then .map (some bm) else if j = 0 then .pointer (some ⟨b, 0, none⟩) else zeroM rv j)) (h5 : w.grownBy w' (some b)) :
    Mac w' (fun k => k = b ∨ k = bm ∨ rv.ownBlock = some k) b L fresh := by
  refine ⟨rv, bm, .slice none 0 0, .slice none 0 0, {
    cells := h4.congr fun i _ => zeroM_set b bm rv i
    row := own_of_block (own_base hr) fun g hg => h5.block g (hr.lt g hg).2 (by intro e; cases e; exact hne _ hg rfl)
    map := h3
    stk := World.ownsRow_nil _ _ _ _
    lps := World.ownsRow_nil _ _ _ _
    fb := Or.inl rfl
    fm := Or.inr (Or.inl rfl)
    fr := fun k hk => Or.inr (Or.inr hk)
    fs := fun k hk => by cases hk
    fl := fun k hk => by cases hk
    lt := ?_
    rl := rfl
    ll := rfl
    il := rfl
    ol := rfl }⟩
  rintro k (rfl | rfl | hk)
  · exact Nat.lt_of_lt_of_le hbz h5.size
  · exact h2
  · exact Nat.lt_of_lt_of_le (hr.lt k hk).2 h5.size
end Go.Proofs.YtacgnofmccennaaGreatDoor
end

section
namespace Go.Proofs.YtacgnofmccennaaGreatDoor
open Go.ChangeShapes Go.WideShapes Go.RowKit Go.Maps

theorem new_cells (a : Option Addr) (n c : Nat) : Tryz.zeroCells70.setIfInBounds 1 (Value.slice a n c) = (newC (.slice a n c)).toArray := by kernel_rfl
theorem new_row (w : World) (a : Option Addr) (n c : Nat) : (w.alloc (.cells (Tryz.zeroCells70.setIfInBounds 1 (Value.slice a n c)) 70)).rowIs w.heap.size 70 74 (zeroM (.slice a n c)) := by
  rw [new_cells]
  have h := World.rowIs_alloc w (newC (.slice a n c)).toArray 70 (zeroM (.slice a n c)) (fun i hi => newC_at _ (by rw [List.size_toArray, newC_len] at hi; exact hi))
  have e : (newC (.slice a n c)).toArray.size = 74 := by rw [List.size_toArray, newC_len]
  rw [e] at h
  exact h
set_option maxHeartbeats 1000000 in
set_option maxRecDepth 100000 in
theorem new_any (a : Option Addr) (n c : Nat) (L : List (Int × Int × Int)) (w : World) (hr : RowI w a n L) (hN : Nms w) :
    Calls Tryz.prog 5 #[.slice a n c] w (GotM L w) := by
  have C1 := locks_any a n c L w hr hN
  by_cases h1 : lE L = 0
  · have C2 := fun W (hb : Below w.heap.size w W) => stacks_any a n c L W (hr.below hb) (hN.below hb)
    rw [h1] at C1
    by_cases h2 : tE L = 0
    · rw [h2] at C2
      have hl := can_len (mE_zero (wE_zero (lE_zero h1).1).1).1
      obtain ⟨rb, off, rfl, _⟩ := hr.2 (by rw [hr.1]; omega)
      have C3 := fun W (hb : Below w.heap.size w W) => cloneI_any W rb off n c L (hr.below hb) (by rw [hr.1]; omega)
      have C1 := Lib.hid C1
      have C2 := Lib.hid C2
      have C3 := Lib.hid C3
      have HN := Lib.hid hr.1
      have H1 := Lib.hid h1
      have H2 := Lib.hid h2
      clear h1 h2 hr hN hl
      go_enter Tryz.func5, Tryz.ntmps5
      go_wp2_with (first | (go_at_call 16; refine C1.out.mono ?_; rintro e w1 ⟨a1, n1, c1, rfl, r1, b1⟩; clear r1) | (go_at_call 17; refine (C2.out _ b1).mono ?_; rintro e w2 ⟨a2, n2, c2, rfl, r2, b2⟩; clear r2) | (go_at_call 18; refine (C3.out _ (keep_below b1 b2)).mono ?_; rintro e w3 ⟨v', rfl, o3, b3⟩; have hv : ∃ a c, v' = .slice a n c := (by rcases o3.2 with ⟨h1, h2⟩ | ⟨g, cap, cur, h1, _⟩ <;> first | exact ⟨none, 0, by rw [h1, h2]⟩ | exact ⟨_, _, h1⟩); obtain ⟨a3, c3, rfl⟩ := hv) | (go_at_call 19; refine (settle_any _ _ _ (new_row w3 a3 n c3)).mono ?_; rintro e w4 ⟨rfl, bm, s1, s2, s3, s4, s5⟩))
      go_ret2
      have bw := keep_below b1 (keep_below b2 b3)
      have bw4 : Below w.heap.size w w4 := (bw.alloc bw.size _).grown s5 (by simp; have := bw.size; omega) (fun k hk => by cases hk; exact bw.size)
      refine ⟨bw4, Or.inr (Or.inr ⟨H1.out, H2.out, w3.heap.size, _, rfl, settled (base := w2.heap.size) ?_ (by simp) ?_ s1 s2 s3 s4 s5, ?_⟩)⟩
      · rw [← HN.out]; exact o3.alloc _
      · intro g hg; have := (o3.lt g hg).2; omega
      · have q1 := (keep_below b1 b2).size
        have q2 := b3.size
        have q3 : w3.heap.size + 1 ≤ bm := by simpa using s1
        rintro k (rfl | rfl | hk)
        · omega
        · omega
        · have := (o3.lt k hk).1; omega
    · have C1 := Lib.hid C1
      have C2 := Lib.hid C2
      have H1 := Lib.hid h1
      have H2 := Lib.hid h2
      obtain ⟨x, hx⟩ : ∃ x, x = tE L := ⟨_, rfl⟩
      rw [← hx] at C2 H2 h2
      have e1 : (x != 0) = true := by simpa using h2
      have e2 : (x == 0) = false := by simpa using h2
      have HX := Lib.hid hx
      clear h1 h2 hr hN hx
      go_enter Tryz.func5, Tryz.ntmps5
      go_wp2_with (first | (go_at_call 16; refine C1.out.mono ?_; rintro e w1 ⟨a1, n1, c1, rfl, r1, b1⟩; clear r1) | (go_at_call 17; refine (C2.out _ b1).mono ?_; rintro e w2 ⟨a2, n2, c2, rfl, r2, b2⟩; clear r2))
      go_ret2
      exact ⟨keep_below b1 b2, Or.inr (Or.inl ⟨H1.out, HX.out ▸ H2.out, by rw [← HX.out]; rfl⟩)⟩
  · have C1 := Lib.hid C1
    have H1 := Lib.hid h1
    obtain ⟨x, hx⟩ : ∃ x, x = lE L := ⟨_, rfl⟩
    rw [← hx] at C1 H1 h1
    have e1 : (x != 0) = true := by simpa using h1
    have e2 : (x == 0) = false := by simpa using h1
    have HX := Lib.hid hx
    clear h1 hr hN hx
    go_enter Tryz.func5, Tryz.ntmps5
    go_wp2_with (first | (go_at_call 16; refine C1.out.mono ?_; rintro e w1 ⟨a1, n1, c1, rfl, r1, b1⟩; clear r1))
    go_ret2
    exact ⟨b1, Or.inl ⟨HX.out ▸ H1.out, by rw [← HX.out]; rfl⟩⟩
end Go.Proofs.YtacgnofmccennaaGreatDoor
end
