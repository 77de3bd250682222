/- What is proved here: contracts of (*vm.Machine).next and open. Conditions: those each theorem states. contracts of (*vm.Machine).get and put; what the blocks are in memory. Conditions: those each theorem states. the contract of each deed, by its operation. Conditions: the instruction is right; the stack has what it takes; a loop is open, if it is a Next. -/
import Derived.Test.YthncbnalnfbpnaaGreatDoorGe
import Derived.Deep.RegionLaw
import Derived.RegionTactic
import Derived.ChangeAlike
import Derived.WalkLawsBesides
section
namespace Go.Proofs.YthncbnalnfbpnaaGreatDoor
open Go.ChangeShapes Go.WideShapes Go.RowKit Go.Maps

theorem lpC_set (l : List (Nat × Int)) (f : Nat) (k k' : Int) : (lpC (l ++ [(f, k)])).set (l.length * 2 + 1) (.int .i64 k') = lpC (l ++ [(f, k')]) := by
  rw [lpC_snoc, lpC_snoc, List.set_append_right _ _ (by rw [lpC_len]; omega), lpC_len, show l.length * 2 + 1 - l.length * 2 = 1 by omega]
  rfl
theorem next_d (o a c : Int) (v : V) (l : List (Nat × Int)) (f : Nat) (k : Int) (hs : v.lps = l ++ [(f, k)]) (hk : 1 ≤ k ∧ k ≤ 1000) (hl : l.length ≤ 900) :
    Does 88 (o, a, c) v (if 0 < k - 1 then { v with lps := l ++ [(f, k - 1)], pl := f } else { v with lps := l }) := by
  intro w F b L mp h
  have G := Chg.below (F := F) (x := b) (below_alloc w (.cells #[.int .i64 o, .int .i64 a, .int .i64 c] 70))
  have h0 := h.alloc (.cells #[.int .i64 o, .int .i64 a, .int .i64 c] 70)
  clear h
  generalize hW : w.alloc (.cells #[.int .i64 o, .int .i64 a, .int .i64 c] 70) = W at G h0
  obtain ⟨rv, bm, st, lp, h0⟩ := h0
  have hS := h0.lps
  rw [hs, lpC_snoc] at hS
  simp only [List.length_append, List.length_cons, List.length_nil, Nat.zero_add] at hS
  obtain ⟨g, cap, rfl, hcap, hg1, hg2⟩ := own_last2 hS
  obtain ⟨m, hm⟩ : ∃ m, m = l.length := ⟨_, rfl⟩
  rw [← hm] at hS hcap hg1 hg2 hl
  have hgb : g ≠ b := h0.ne_lps rfl
  have c70 := h0.c70
  rw [← hm] at h0
  rw [← hm] at c70
  have z70 := h0.fz 70
  have c12 := h0.c12
  have z12 := h0.fz 12
  have zg := hS.frozenAt (m * 2 + 1)
  have hS1 := hS.stored (m * 2 + 1) (.int .i64 (k - 1))
  have hset := lpC_set l f k (k - 1)
  rw [lpC_snoc, ← hm] at hset
  simp only [] at hset
  rw [hset] at hS1
  have A1 : MacC (W.setCell ⟨g, m * 2 + 1, none⟩ (.int .i64 (k - 1))) F b rv bm st (.slice (some ⟨g, 0, none⟩) (m + 1) cap) L { v with lps := l ++ [(f, k - 1)] } := by
    refine h0.lpsAt (l := l ++ [(f, k - 1)]) ?_ (fun i hi hne => Go.Deep.blk_setCell_other _ _ _ _ (by intro e; subst e; exact hne rfl)) (by simp [World.setCell])
    have := hS1.1
    rw [List.length_append, ← hm]; exact this
  have hgF : F g := h0.fl g rfl
  have C1 : Chg F F b W (W.setCell ⟨g, m * 2 + 1, none⟩ (.int .i64 (k - 1))) := chg_set hgF
  have d70 : (W.setCell ⟨g, m * 2 + 1, none⟩ (.int .i64 (k - 1))).cell? ⟨b, 70, none⟩ = some (.slice (some ⟨g, 0, none⟩) (m + 1) cap) := cell_set_ne c70 (Ne.symm hgb)
  have dg := A1.lps
  rw [show (l ++ [(f, k - 1)] : List (Nat × Int)) = l ++ [(f, k - 1)] from rfl] at dg
  have e1 : IntKind.i64.wrap ((m : Int) + 1 - 1) = (m : Int) := by rw [IntKind.wrap_i64]; omega
  have e2 : IntKind.i64.wrap (m : Int) = (m : Int) := by rw [IntKind.wrap_i64]; omega
  have e7 : IntKind.i64.wrap (k - 1) = k - 1 := by rw [IntKind.wrap_i64]; omega
  have e3 : (m : Int) < (m : Int) + 1 := by omega
  have e4 : m < m + 1 := by omega
  have e5 : m ≤ cap := by omega
  have e6 : (m : Int) ≤ (cap : Int) := by omega
  by_cases hp : 0 < k - 1
  · rw [if_pos hp]
    have A2 := Lib.hid (A1.hm.setPl f)
    have C2 := Lib.hid (G.trans (C1.trans (chg_set (i := 12) (u := .int .i64 (f : Int)) h0.fb)))
    have e8 : decide (0 < k - 1) = true := by simpa using hp
    clear A1 hS hS1 hset hs dg h0 hm hk
    go_enter Tryz.func88, Tryz.ntmps88
    go_wp2
    exact ⟨rfl, _, results_none rfl _ _ _, rfl, _, A2.out, C2.out⟩
  · rw [if_neg hp]
    have A2 := Lib.hid (A1.lpsIn (w' := W.setCell ⟨g, m * 2 + 1, none⟩ (.int .i64 (k - 1))) (lp' := .slice (some ⟨g, 0, none⟩) m cap) (l := l) (F' := F) (by
      have := hS1.1
      rw [lpC_snoc] at this
      rw [← hm]; exact own_pop2 this) (fun _ _ _ => rfl) (fun _ h => h) (fun i hi => A1.fl i hi) A1.lt (fun i hi => A1.ne_lps hi)).hm
    have C2 := Lib.hid (G.trans (C1.trans (chg_set (i := 70) (u := .slice (some ⟨g, 0, none⟩) m cap) h0.fb)))
    have e8 : decide (0 < k - 1) = false := by simpa using hp
    clear A1 hS hS1 hset hs dg h0 hm hk
    go_enter Tryz.func88, Tryz.ntmps88
    go_wp2
    exact ⟨rfl, _, results_none rfl _ _ _, rfl, _, A2.out, C2.out⟩
set_option maxHeartbeats 2000000 in
theorem open_d (o c : Int) (a : Int) (v : V) (hl : v.lps.length ≤ 900) : Does 87 (o, a, c) v { v with lps := v.lps ++ [(v.pl, a)] } := by
  intro w F b L mp h
  have G := Chg.below (F := F) (x := b) (below_alloc w (.cells #[.int .i64 o, .int .i64 a, .int .i64 c] 70))
  have hlt0 := h.size
  have h0 := h.alloc (.cells #[.int .i64 o, .int .i64 a, .int .i64 c] 70)
  have q1 : (w.alloc (.cells #[.int .i64 o, .int .i64 a, .int .i64 c] 70)).cell? ⟨w.heap.size, 1, none⟩ = some (.int .i64 a) := by simp
  clear h
  obtain ⟨rv, bm, st, lp, h0⟩ := h0
  obtain ⟨i0, hi, hz0, hz1, hz2⟩ := parts_info loop_info
  have c70 := h0.c70
  have z70 := h0.fz 70
  have c12 := h0.c12
  have gO : (((w.alloc (.cells #[.int .i64 o, .int .i64 a, .int .i64 c] 70)).alloc (.cells #[.int .i64 (v.pl : Int), .int .i64 a] 166)).drew).ownsRow 0 166 2 lp v.lps.length (lpC v.lps) :=
    own_of_block h0.lps (fun g hg => Go.Deep.blk_alloc_lt _ _ _ (h0.lt g (h0.fl g hg)))
  have hnews : ∀ j u, ([.int .i64 (v.pl : Int), .int .i64 a] : List Value)[j]? = some u → (((w.alloc (.cells #[.int .i64 o, .int .i64 a, .int .i64 c] 70)).alloc (.cells #[.int .i64 (v.pl : Int), .int .i64 a] 166)).drew).cell? ((⟨w.heap.size + 1, 0, none⟩ : Addr).add j) = some u := by
    intro j u hj
    have hs1 : (w.alloc (.cells #[.int .i64 o, .int .i64 a, .int .i64 c] 70)).heap.size = w.heap.size + 1 := by simp
    rw [← hs1]
    exact World.news_of_block (new_block (w.alloc (.cells #[.int .i64 o, .int .i64 a, .int .i64 c] 70)) (.cells #[.int .i64 (v.pl : Int), .int .i64 a] 166)) j u hj
  have hone : ∀ u ∈ ([.int .i64 (v.pl : Int), .int .i64 a] : List Value), u.oneCell' = true := by intro u hu; simp at hu; rcases hu with rfl | rfl <;> rfl
  have h63 : v.lps.length + 1 ≤ maxLen := by unfold maxLen; omega
  have hH : (((w.alloc (.cells #[.int .i64 o, .int .i64 a, .int .i64 c] 70)).alloc (.cells #[.int .i64 (v.pl : Int), .int .i64 a] 166)).drew).heap.size = w.heap.size + 2 := by simp [World.drew]
  have FX : Hid (∀ w2, (((w.alloc (.cells #[.int .i64 o, .int .i64 a, .int .i64 c] 70)).alloc (.cells #[.int .i64 (v.pl : Int), .int .i64 a] 166)).drew).grownBy w2 lp.ownBlock → w2.cell? ⟨b, 70, none⟩ = some lp ∧ w2.frozen? ⟨b, 70, none⟩ = false ∧ w2.heap[b]? = (w.alloc (.cells #[.int .i64 o, .int .i64 a, .int .i64 c] 70)).heap[b]?) := by
    intro w2 hg
    have hb5 : w2.heap[b]? = (w.alloc (.cells #[.int .i64 o, .int .i64 a, .int .i64 c] 70)).heap[b]? :=
      (hg.block b (by omega) (fun e => h0.ne_lps e.symm rfl)).trans (Go.Deep.blk_alloc_lt _ _ _ (h0.lt b h0.fb))
    exact ⟨(World.cell?_of_block hb5).trans c70, (World.frozen?_of_block hb5).trans z70, hb5⟩
  have FIN : Hid (∀ g cap w2, w2.ownsRow 0 166 2 (.slice (some ⟨g, 0, none⟩) (v.lps.length + 1) cap) (v.lps.length + 1) (lpC v.lps ++ [.int .i64 (v.pl : Int), .int .i64 a]) → (((w.alloc (.cells #[.int .i64 o, .int .i64 a, .int .i64 c] 70)).alloc (.cells #[.int .i64 (v.pl : Int), .int .i64 a] 166)).drew).grownBy w2 lp.ownBlock → (lp.ownBlock = some g ∨ g = w.heap.size + 2) → g < w2.heap.size →
      ∃ F', Mac (w2.setCell ⟨b, 70, none⟩ (.slice (some ⟨g, 0, none⟩) (v.lps.length + 1) cap)) F' b L { v with lps := v.lps ++ [(v.pl, a)] } ∧ Chg F F' b (w.alloc (.cells #[.int .i64 o, .int .i64 a, .int .i64 c] 70)) (w2.setCell ⟨b, 70, none⟩ (.slice (some ⟨g, 0, none⟩) (v.lps.length + 1) cap))) := by
    intro g cap w2 hown3 hgrow hat hltg
    have hsz := hgrow.size
    rw [hH] at hsz
    have hst : ∀ k, (Value.slice (some ⟨g, 0, none⟩) (v.lps.length + 1) cap).ownBlock = some k → lp.ownBlock = some k ∨ w.heap.size + 2 = k := fun k hk => by
      cases hk
      rcases hat with e | e
      · exact Or.inl e
      · exact Or.inr e.symm
    have hsz1 : (w.alloc (.cells #[.int .i64 o, .int .i64 a, .int .i64 c] 70)).heap.size = w.heap.size + 1 := by simp
    have A := (h0.lpsIn (w' := w2) (lp' := .slice (some ⟨g, 0, none⟩) (v.lps.length + 1) cap) (l := v.lps ++ [(v.pl, a)]) (F' := fun k => F k ∨ k = g) (by rw [lpC_snoc, List.length_append]; exact hown3)
      (fun i hi hne => (hgrow.block i (by have := h0.lt i hi; omega) hne).trans (Go.Deep.blk_alloc_lt _ _ _ (h0.lt i hi))) (fun _ h => Or.inl h) (fun k hk => by cases hk; exact Or.inr rfl)
      (by
        rintro k (hk | hk)
        · have := h0.lt k hk; omega
        · subst hk; exact hltg)
      (by
        intro k hk e
        rcases hst k hk with e2 | e2
        · exact h0.ne_lps e2 e
        · omega)).hm
    have C : Chg F (fun k => F k ∨ k = g) b (w.alloc (.cells #[.int .i64 o, .int .i64 a, .int .i64 c] 70)) (w2.setCell ⟨b, 70, none⟩ (.slice (some ⟨g, 0, none⟩) (v.lps.length + 1) cap)) := by
      refine ⟨hgrow.os, hgrow.tape, hgrow.output, by simp only [World.setCell, Array.size_modify]; omega, fun k hk hf hx => ?_, ?_⟩
      · rw [Go.Deep.blk_setCell_other _ _ _ _ hx]
        exact (hgrow.block k (by omega) (fun e => hf (h0.fl k e.symm))).trans (Go.Deep.blk_alloc_lt _ _ _ hk)
      · rintro k (hk | hk)
        · exact Or.inl hk
        · subst hk
          rcases hst k rfl with e | e
          · exact Or.inl (h0.fl k e)
          · exact Or.inr (by omega)
    exact ⟨_, A, C⟩
  clear h0
  go_enter Tryz.func87, Tryz.ntmps87
  go_wp2_with fail
  go_region_law (refine step_append_lies _ rfl (.tmp 11) (.tmp 20) 98 rfl 0 166 i0 (.agg #[.int .i64 0, .int .i64 0]) 2 16 Tryz.underlying98 hi hz0 hz1 hz2 rfl (by decide) lp v.lps.length (lpC v.lps) (by simp [Act.eval]) gO ⟨w.heap.size + 1, 0, none⟩ 1 1 [.int .i64 (v.pl : Int), .int .i64 a] (by simp [Act.eval]) rfl hnews hone (by omega) h63 (by omega) (by omega) _ hH ?_; intro g cap w2 hown3 hgrow hat hltg; obtain ⟨d70, y70, hb5⟩ := FX.out w2 hgrow)
  all_goals
    obtain ⟨F', A, C⟩ := FIN.out g cap w2 hown3 hgrow hat hltg
    exact ⟨rfl, _, results_none rfl _ _ _, rfl, _, A, G.trans C⟩
end Go.Proofs.YthncbnalnfbpnaaGreatDoor
end

section
namespace Go.Proofs.YthncbnalnfbpnaaGreatDoor
open Go.ChangeShapes Go.WideShapes Go.RowKit Go.Maps

/-- The blocks in memory. -/
def MemAt (w : World) (mb : Nat) (M : List Int) : Prop := M.length = 64 ∧ w.rowIs mb 58 64 (fun i => .int .i64 (M.getD i 0))
theorem MemAt.lt {w : World} {mb : Nat} {M : List Int} (h : MemAt w mb M) : mb < w.heap.size := h.2.lt
theorem MemAt.of_block {w w' : World} {mb : Nat} {M : List Int} (h : MemAt w mb M) (e : w'.heap[mb]? = w.heap[mb]?) : MemAt w' mb M := ⟨h.1, h.2.of_block e⟩
theorem MemAt.below {w w' : World} {mb : Nat} {M : List Int} (h : MemAt w mb M) (g : Below w.heap.size w w') : MemAt w' mb M := h.of_block (g.block mb h.lt)
theorem MemAt.chg {w w' : World} {mb : Nat} {M : List Int} {F F' : Nat → Prop} {x : Nat} (h : MemAt w mb M) (g : Chg F F' x w w') (hf : ¬ F mb) (hx : mb ≠ x) : MemAt w' mb M := h.of_block (g.same mb h.lt hf hx)
theorem MemAt.set {w : World} {mb : Nat} {M : List Int} (h : MemAt w mb M) {i : Nat} (hi : i < 64) (x : Int) : MemAt (w.setCell ⟨mb, i, none⟩ (.int .i64 x)) mb (M.set i x) := by
  refine ⟨by simpa using h.1, (h.2.set i (.int .i64 x)).congr fun j hj => ?_⟩
  have hl := h.1
  rw [getD_set]
  by_cases e : j = i
  · subst e; rw [if_pos rfl, if_pos ⟨rfl, by omega⟩]
  · rw [if_neg e, if_neg (fun h => e h.1)]
/-- A deed's contract, with the blocks. -/
def DoesM (f : Nat) (i : Int × Int × Int) (v v' : V) (M M' : List Int) : Prop := ∀ (w : World) (F : Nat → Prop) (b mb : Nat) (L : List (Int × Int × Int)), Mac w F b L v → MemAt w mb M → ¬ F mb →
  Calls Tryz.prog f #[.pointer (some ⟨b, 0, none⟩), .agg #[.int .i64 i.1, .int .i64 i.2.1, .int .i64 i.2.2], .pointer (some ⟨mb, 0, none⟩)] w fun e w' => e = .returned (.tuple #[]) ∧ ∃ F', Mac w' F' b L v' ∧ MemAt w' mb M' ∧ ¬ F' mb ∧ Chg F F' mb w w'
theorem Chg.out {F F' : Nat → Prop} {x : Nat} {w w' : World} (h : Chg F F' x w w') {k : Nat} (hk : k < w.heap.size) (hf : ¬ F k) : ¬ F' k := fun h2 => (h.foot k h2).elim hf (by omega)
theorem Does.mem {f : Nat} {i : Int × Int × Int} {v v' : V} (h : Does f i v v') (M : List Int) : DoesM f i v v' M M := by
  intro w F b mb L hM hm hF
  refine (h w F b L _ hM).mono ?_
  rintro e w' ⟨rfl, F', h1, h2⟩
  have hne : mb ≠ b := fun e => hF (e ▸ hM.fb)
  exact ⟨rfl, F', h1, hm.chg h2 hF hne, h2.out hm.lt hF, h2.wide hM.fb⟩
theorem get_d (o : Int) (a c : Nat) (v : V) (M : List Int) (x : Int) (ha : a < 8) (hc : c < 8) (hx : M.getD (a * 8 + c) 0 = x) (hl : v.stk.length ≤ 900) : DoesM 83 (o, a, c) v (v.lay x) M M := by
  intro w F b mb L h hm hF
  have G := Chg.below (F := F) (x := mb) (below_alloc w (.cells #[.int .i64 o, .int .i64 (a : Int), .int .i64 (c : Int)] 70)).drew
  have h0 := (h.alloc (.cells #[.int .i64 o, .int .i64 (a : Int), .int .i64 (c : Int)] 70)).drew
  have m0 := hm.below (below_alloc w (.cells #[.int .i64 o, .int .i64 (a : Int), .int .i64 (c : Int)] 70)).drew
  have q1 : (w.alloc (.cells #[.int .i64 o, .int .i64 (a : Int), .int .i64 (c : Int)] 70)).drew.cell? ⟨w.heap.size, 1, none⟩ = some (.int .i64 (a : Int)) := by simp
  have q2 : (w.alloc (.cells #[.int .i64 o, .int .i64 (a : Int), .int .i64 (c : Int)] 70)).drew.cell? ⟨w.heap.size, 2, none⟩ = some (.int .i64 (c : Int)) := by simp
  have q3 : (w.alloc (.cells #[.int .i64 o, .int .i64 (a : Int), .int .i64 (c : Int)] 70)).drew.cell? ⟨mb, a * 8 + c, none⟩ = some (.int .i64 x) := by
    rw [m0.2.cell (i := a * 8 + c) (by omega), hx]
  have hn : ¬ F w.heap.size := fun e => absurd (h.lt _ e) (by omega)
  have hnb : w.heap.size ≠ b := fun e => hn (e ▸ h.fb)
  have hmb : mb ≠ b := fun e => hF (e ▸ h.fb)
  have ha2 : (a : Int) < 8 := by omega
  have ha3 : (0 : Int) ≤ (a : Int) := by omega
  have hc2 : (c : Int) < 8 := by omega
  have hc3 : (0 : Int) ≤ (c : Int) := by omega
  have T := Lib.hid (fun W (F : Nat → Prop) (hW : Mac W F b L v) => lay_any W F b L v x hW (by omega))
  have FIN : Hid (∀ F1 w1, Mac w1 F1 b L { v with stk := v.stk ++ [x] } → Chg F F1 b (w.alloc (.cells #[.int .i64 o, .int .i64 (a : Int), .int .i64 (c : Int)] 70)).drew w1 → MemAt w1 mb M ∧ ¬ F1 mb ∧ Chg F F1 mb w w1) := by
    intro F1 w1 h1 g1
    exact ⟨m0.chg g1 hF hmb, g1.out m0.lt hF, G.trans (g1.wide h.fb)⟩
  clear h hx hm m0
  go_enter Tryz.func83, Tryz.ntmps83
  go_wp2
  go_region_held3 (fun W => W.cell? ⟨w.heap.size, 1, none⟩ = some (.int .i64 (a : Int)) ∧ W.cell? ⟨w.heap.size, 2, none⟩ = some (.int .i64 (c : Int)) ∧ W.cell? ⟨mb, a * 8 + c, none⟩ = some (.int .i64 x)) (first | exact ⟨q1, q2, q3⟩ | exact ⟨k1, k2, k3⟩) (first | (go_at_call 125; refine (T.out _ _ h0).mono ?_; rintro e w1 ⟨rfl, F1, h1, g1⟩; have k1 := g1.cell q1 hn hnb; have k2 := g1.cell q2 hn hnb; have k3 := g1.cell q3 hF hmb))
  obtain ⟨f1, f2, f3⟩ := FIN.out F1 w1 h1 g1
  exact ⟨rfl, _, results_none rfl _ _ _, rfl, _, h1, f1, f2, f3⟩
theorem put_d (o : Int) (a c : Nat) (v : V) (M : List Int) (s : List Int) (x : Int) (ha : a < 8) (hc : c < 8) (hs : v.stk = s ++ [x]) (hl : s.length ≤ 900) : DoesM 84 (o, a, c) v { v with stk := s } M (M.set (a * 8 + c) x) := by
  intro w F b mb L h hm hF
  have G := Chg.below (F := F) (x := mb) (below_alloc w (.cells #[.int .i64 o, .int .i64 (a : Int), .int .i64 (c : Int)] 70)).drew
  have h0 := (h.alloc (.cells #[.int .i64 o, .int .i64 (a : Int), .int .i64 (c : Int)] 70)).drew
  have m0 := hm.below (below_alloc w (.cells #[.int .i64 o, .int .i64 (a : Int), .int .i64 (c : Int)] 70)).drew
  have q1 : (w.alloc (.cells #[.int .i64 o, .int .i64 (a : Int), .int .i64 (c : Int)] 70)).drew.cell? ⟨w.heap.size, 1, none⟩ = some (.int .i64 (a : Int)) := by simp
  have q2 : (w.alloc (.cells #[.int .i64 o, .int .i64 (a : Int), .int .i64 (c : Int)] 70)).drew.cell? ⟨w.heap.size, 2, none⟩ = some (.int .i64 (c : Int)) := by simp
  have hn : ¬ F w.heap.size := fun e => absurd (h.lt _ e) (by omega)
  have hnb : w.heap.size ≠ b := fun e => hn (e ▸ h.fb)
  have hmb : mb ≠ b := fun e => hF (e ▸ h.fb)
  have hnm : w.heap.size ≠ mb := by have := hm.lt; omega
  have ha2 : (a : Int) < 8 := by omega
  have ha3 : (0 : Int) ≤ (a : Int) := by omega
  have hc2 : (c : Int) < 8 := by omega
  have hc3 : (0 : Int) ≤ (c : Int) := by omega
  have hi : a * 8 + c < 64 := by omega
  have T := Lib.hid (fun W (F : Nat → Prop) (hW : Mac W F b L v) => take_any W F b L v s x hW hs (by omega))
  have ME : Hid (∀ w1, Chg F F b (w.alloc (.cells #[.int .i64 o, .int .i64 (a : Int), .int .i64 (c : Int)] 70)).drew w1 → w1.cell? ⟨mb, a * 8 + c, none⟩ = some (.int .i64 (M.getD (a * 8 + c) 0)) ∧ w1.frozen? ⟨mb, a * 8 + c, none⟩ = false) := by
    intro w1 g1
    have m1 := m0.chg g1 hF hmb
    exact ⟨m1.2.cell hi, m1.2.frozen _⟩
  have FIN : Hid (∀ w1, Mac w1 F b L { v with stk := s } → Chg F F b (w.alloc (.cells #[.int .i64 o, .int .i64 (a : Int), .int .i64 (c : Int)] 70)).drew w1 → Mac (w1.setCell ⟨mb, a * 8 + c, none⟩ (.int .i64 x)) F b L { v with stk := s } ∧ MemAt (w1.setCell ⟨mb, a * 8 + c, none⟩ (.int .i64 x)) mb (M.set (a * 8 + c) x) ∧ Chg F F mb w (w1.setCell ⟨mb, a * 8 + c, none⟩ (.int .i64 x))) := by
    intro w1 h1 g1
    refine ⟨h1.blocks (by simp [World.setCell]) (fun i hi => Go.Deep.blk_setCell_other _ _ _ _ (by intro e; subst e; exact hF hi)), (m0.chg g1 hF hmb).set hi x, (G.trans (g1.wide h.fb)).trans ?_⟩
    exact ⟨rfl, rfl, rfl, by simp [World.setCell], fun k _ _ hk => Go.Deep.blk_setCell_other _ _ _ _ hk, fun _ h => Or.inl h⟩
  obtain ⟨y, hy⟩ : ∃ y, y = M.getD (a * 8 + c) 0 := ⟨_, rfl⟩
  rw [← hy] at ME
  clear h hs hm m0 hy
  go_enter Tryz.func84, Tryz.ntmps84
  go_wp2
  go_region_held3 (fun W => W.cell? ⟨w.heap.size, 1, none⟩ = some (.int .i64 (a : Int)) ∧ W.cell? ⟨w.heap.size, 2, none⟩ = some (.int .i64 (c : Int))) (first | exact ⟨q1, q2⟩ | exact ⟨k1, k2⟩ | exact ⟨k5, k6⟩) (first | (go_at_call 126; refine (T.out _ _ h0).mono ?_; rintro e w1 ⟨rfl, h1, g1⟩; have k1 := g1.cell q1 hn hnb; have k2 := g1.cell q2 hn hnb; have k3 := (ME.out w1 g1).1; have z3 := (ME.out w1 g1).2; have k5 := cell_set_ne (i := a * 8 + c) (u := .int .i64 x) k1 hnm; have k6 := cell_set_ne (i := a * 8 + c) (u := .int .i64 x) k2 hnm))
  obtain ⟨f1, f2, f3⟩ := FIN.out w1 h1 g1
  exact ⟨rfl, _, results_none rfl _ _ _, rfl, _, f1, f2, hF, f3⟩
end Go.Proofs.YthncbnalnfbpnaaGreatDoor
end

section
namespace Go.Proofs.YthncbnalnfbpnaaGreatDoor
open Go.ChangeShapes Go.WideShapes Go.RowKit Go.Maps

/-- What a deed asks of the state. -/
structure Pre (o : Int) (v : V) : Prop where
  stk : v.stk.length ≤ 900
  lps : v.lps.length ≤ 900
  pl : v.pl ≤ 1000
  tk : (tk o).length ≤ v.stk.length
  nxt : o = 22 → ∃ l f k, v.lps = l ++ [(f, k)] ∧ 1 ≤ k ∧ k ≤ 1000
theorem one_of {l : List Int} (h : 1 ≤ l.length) : ∃ s x, l = s ++ [x] ∧ s.length + 1 = l.length := by
  have hne : l ≠ [] := by intro e; subst e; simp at h
  exact ⟨l.dropLast, l.getLast hne, (List.dropLast_concat_getLast hne).symm, by simp; omega⟩
theorem two_of {l : List Int} (h : 2 ≤ l.length) : ∃ s x y, l = s ++ [x, y] ∧ s.length + 2 = l.length := by
  obtain ⟨s, y, rfl, h1⟩ := one_of (l := l) (by omega)
  obtain ⟨s2, x, rfl, h2⟩ := one_of (l := s) (by simp at h1; simp at h; omega)
  exact ⟨s2, x, y, by simp, by simp⟩
theorem V.top_one {v : V} {s : List Int} {x : Int} (h : v.stk = s ++ [x]) : v.top = x ∧ v.pop = { v with stk := s } := by
  unfold V.top V.pop; rw [h]; simp
theorem V.top_two {v : V} {s : List Int} {x y : Int} (h : v.stk = s ++ [x, y]) : v.top = y ∧ v.pop.top = x ∧ v.pop.pop = { v with stk := s } := by
  have e : s ++ [x, y] = (s ++ [x]) ++ [y] := by simp
  unfold V.top V.pop; rw [h, e]; simp
theorem deed_any (o a c : Int) (hr : right (o, a, c) = true) (v : V) (hp : Pre o v) (M : List Int) : DoesM (66 + o.toNat) (o, a, c) v (deed (o, a, c) v M).1 M (deed (o, a, c) v M).2 := by
  have hpt := right_parts hr
  simp only at hpt
  obtain ⟨hk, hA, hB⟩ := hpt
  rw [kn_iff] at hk
  have hl := hp.stk
  have ht := hp.tk
  have hlp := hp.lps
  have hpl := hp.pl
  have hn := hp.nxt
  have hc9 := rB_small hB
  rcases (show o = 1 ∨ o = 2 ∨ o = 3 ∨ o = 4 ∨ o = 5 ∨ o = 6 ∨ o = 7 ∨ o = 8 ∨ o = 9 ∨ o = 10 ∨ o = 11 ∨ o = 12 ∨ o = 13 ∨ o = 14 ∨ o = 15 ∨ o = 16 ∨ o = 17 ∨ o = 18 ∨ o = 19 ∨ o = 20 ∨ o = 21 ∨ o = 22 ∨ o = 23 ∨ o = 24 ∨ o = 25 by omega) with
    rfl | rfl | rfl | rfl | rfl | rfl | rfl | rfl | rfl | rfl | rfl | rfl | rfl | rfl | rfl | rfl | rfl | rfl | rfl | rfl | rfl | rfl | rfl | rfl | rfl
  · exact (push_d 1 a c v hl).mem M
  · obtain ⟨s, x, hs, hsl⟩ := one_of (l := v.stk) ht
    have := (drop_d 2 a c v s x hs (by omega)).mem M
    rw [← (V.top_one hs).2] at this; exact this
  · obtain ⟨s, x, hs, hsl⟩ := one_of (l := v.stk) ht
    have := (dup_d 3 a c v s x hs (by omega)).mem M
    have e : deed (3, a, c) v M = ({ v with stk := s ++ [x] ++ [x] }, M) := by
      show ((v.pop.lay v.top).lay v.top, M) = _
      rw [(V.top_one hs).1, (V.top_one hs).2]; rfl
    rw [e]; exact this
  · obtain ⟨s, x, y, hs, hsl⟩ := two_of (l := v.stk) ht
    have := (swap_d 4 a c v s x y hs (by omega)).mem M
    have e : deed (4, a, c) v M = ({ v with stk := s ++ [y] ++ [x] }, M) := by
      show ((v.pop.pop.lay v.top).lay v.pop.top, M) = _
      rw [(V.top_two hs).1, (V.top_two hs).2.1, (V.top_two hs).2.2]; rfl
    rw [e]; exact this
  · obtain ⟨s, x, y, hs, hsl⟩ := two_of (l := v.stk) ht
    have := (two_d 5 a c v s x y hs (by omega)).mem M
    have e : deed (5, a, c) v M = (twoV v s a x y, M) := by
      show (({ v.pop.pop with flt := if bad a v.top = true then IntKind.i64.wrap (v.flt + 1) else v.flt } : V).lay (val a v.pop.top v.top), M) = _
      rw [(V.top_two hs).1, (V.top_two hs).2.1, (V.top_two hs).2.2]; rfl
    rw [e]; exact this
  · obtain ⟨s, x, hs, hsl⟩ := one_of (l := v.stk) ht
    have := (neg_d 6 a c v s x hs (by omega)).mem M
    have e : deed (6, a, c) v M = ({ v with stk := s ++ [wrap64 (-x)] }, M) := by
      show (v.pop.lay (wrap64 (-v.top)), M) = _
      rw [(V.top_one hs).1, (V.top_one hs).2]; rfl
    rw [e]; exact this
  · obtain ⟨s, x, hs, hsl⟩ := one_of (l := v.stk) ht
    have := (not_d 7 a c v s x hs (by omega)).mem M
    have e : deed (7, a, c) v M = ({ v with stk := s ++ [b2i (x == 0)] }, M) := by
      show (v.pop.lay (b2i (v.top == 0)), M) = _
      rw [(V.top_one hs).1, (V.top_one hs).2]; rfl
    rw [e]; exact this
  · obtain ⟨s, x, y, hs, hsl⟩ := two_of (l := v.stk) ht
    have := (both_d 8 a c v s x y _ hs (by omega) rfl).mem M
    have e : deed (8, a, c) v M = ({ v with stk := s ++ [b2i (x == 1 && y == 1)] }, M) := by
      show (v.pop.pop.lay (b2i (v.pop.top == 1 && v.top == 1)), M) = _
      rw [(V.top_two hs).1, (V.top_two hs).2.1, (V.top_two hs).2.2]; rfl
    rw [e]; exact this
  · obtain ⟨s, x, y, hs, hsl⟩ := two_of (l := v.stk) ht
    have := (either_d 9 a c v s x y _ hs (by omega) rfl).mem M
    have e : deed (9, a, c) v M = ({ v with stk := s ++ [b2i (x == 1 || y == 1)] }, M) := by
      show (v.pop.pop.lay (b2i (v.pop.top == 1 || v.top == 1)), M) = _
      rw [(V.top_two hs).1, (V.top_two hs).2.1, (V.top_two hs).2.2]; rfl
    rw [e]; exact this
  · exact (cast_d 10 a c v).mem M
  · have hA2 : 0 ≤ a ∧ a < 8 := pl_iff.1 hA
    obtain ⟨n, rfl⟩ : ∃ n : Nat, a = n := ⟨a.toNat, by omega⟩
    exact (loadL_d 11 c n v _ (by omega) rfl hl).mem M
  · have hA2 : 0 ≤ a ∧ a < 8 := pl_iff.1 hA
    obtain ⟨n, rfl⟩ : ∃ n : Nat, a = n := ⟨a.toNat, by omega⟩
    obtain ⟨s, x, hs, hsl⟩ := one_of (l := v.stk) ht
    have := (storeL_d 12 c n v s x hs (by omega) (by omega)).mem M
    have e : deed (12, (n : Int), c) v M = ({ v with stk := s, loc := v.loc.set n x }, M) := by
      show (({ v.pop with loc := v.loc.set n v.top } : V), M) = _
      rw [(V.top_one hs).1, (V.top_one hs).2]
    rw [e]; exact this
  · have hA2 : 0 ≤ a ∧ a < 8 := pl_iff.1 hA
    obtain ⟨n, rfl⟩ : ∃ n : Nat, a = n := ⟨a.toNat, by omega⟩
    exact (loadR_d 13 c n v _ (by omega) rfl hl).mem M
  · have hA2 : 0 ≤ a ∧ a < 8 := pl_iff.1 hA
    obtain ⟨n, rfl⟩ : ∃ n : Nat, a = n := ⟨a.toNat, by omega⟩
    obtain ⟨s, x, hs, hsl⟩ := one_of (l := v.stk) ht
    have := (storeR_d 14 c n v s x hs (by omega) (by omega)).mem M
    have e : deed (14, (n : Int), c) v M = ({ v with stk := s, ret := v.ret.set n x }, M) := by
      show (({ v.pop with ret := v.ret.set n v.top } : V), M) = _
      rw [(V.top_one hs).1, (V.top_one hs).2]
    rw [e]; exact this
  · have hA2 : 0 ≤ a ∧ a < 16 := pl_iff.1 hA
    obtain ⟨n, rfl⟩ : ∃ n : Nat, a = n := ⟨a.toNat, by omega⟩
    exact (readIn_d 15 c n v _ (by omega) rfl hl).mem M
  · have hA2 : 0 ≤ a ∧ a < 16 := pl_iff.1 hA
    obtain ⟨n, rfl⟩ : ∃ n : Nat, a = n := ⟨a.toNat, by omega⟩
    obtain ⟨s, x, hs, hsl⟩ := one_of (l := v.stk) ht
    have := (writeOut_d 16 c n v s x hs (by omega) (by omega)).mem M
    have e : deed (16, (n : Int), c) v M = ({ v with stk := s, outs := v.outs.set n (true, x) }, M) := by
      show (({ v.pop with outs := v.outs.set n (true, v.top) } : V), M) = _
      rw [(V.top_one hs).1, (V.top_one hs).2]
    rw [e]; exact this
  · have hA2 : 0 ≤ a ∧ a < 8 := pl_iff.1 hA
    obtain ⟨n, rfl⟩ : ∃ n : Nat, a = n := ⟨a.toNat, by omega⟩
    obtain ⟨m, rfl⟩ : ∃ m : Nat, c = m := ⟨c.toNat, by omega⟩
    exact get_d 17 n m v M _ (by omega) (by omega) rfl hl
  · have hA2 : 0 ≤ a ∧ a < 8 := pl_iff.1 hA
    obtain ⟨n, rfl⟩ : ∃ n : Nat, a = n := ⟨a.toNat, by omega⟩
    obtain ⟨m, rfl⟩ : ∃ m : Nat, c = m := ⟨c.toNat, by omega⟩
    obtain ⟨s, x, hs, hsl⟩ := one_of (l := v.stk) ht
    have := put_d 18 n m v M s x (by omega) (by omega) hs (by omega)
    have e : deed (18, (n : Int), (m : Int)) v M = ({ v with stk := s }, M.set (n * 8 + m) x) := by
      show (v.pop, M.set (n * 8 + m) v.top) = _
      rw [(V.top_one hs).1, (V.top_one hs).2]
    rw [e]; exact this
  · have hA2 := rA_small hA (by decide)
    obtain ⟨n, rfl⟩ : ∃ n : Nat, a = n := ⟨a.toNat, by omega⟩
    exact (jump_d 19 c n v (by omega) hpl).mem M
  · have hA2 := rA_small hA (by decide)
    obtain ⟨n, rfl⟩ : ∃ n : Nat, a = n := ⟨a.toNat, by omega⟩
    obtain ⟨s, x, hs, hsl⟩ := one_of (l := v.stk) ht
    have := (branch_d 20 c n v s x hs (by omega) (by omega) hpl).mem M
    have e : deed (20, (n : Int), c) v M = ({ v with stk := s, pl := if x = 0 then v.pl + n else v.pl }, M) := by
      show (({ v.pop with pl := if v.top = 0 then v.pl + n else v.pl } : V), M) = _
      rw [(V.top_one hs).1, (V.top_one hs).2]
    rw [e]; exact this
  · exact (open_d 21 c a v hlp).mem M
  · obtain ⟨l, f, k, hs, hk1⟩ := hn rfl
    have := (next_d 22 a c v l f k hs hk1 (by rw [hs] at hlp; simp at hlp; omega)).mem M
    have e : deed (22, a, c) v M = (if 0 < k - 1 then { v with lps := l ++ [(f, k - 1)], pl := f } else { v with lps := l }, M) := by
      show (if 0 < (v.lps.getLastD (0, 0)).2 - 1 then ({ v with lps := v.lps.dropLast ++ [((v.lps.getLastD (0, 0)).1, (v.lps.getLastD (0, 0)).2 - 1)], pl := (v.lps.getLastD (0, 0)).1 } : V) else { v with lps := v.lps.dropLast }, M) = _
      rw [hs]; simp
    rw [e]; exact this
  · have hA2 : 0 ≤ a ∧ a < 8 := pl_iff.1 hA
    obtain ⟨n, rfl⟩ : ∃ n : Nat, a = n := ⟨a.toNat, by omega⟩
    exact (lock_d 23 c n v (by omega)).mem M
  · have hA2 : 0 ≤ a ∧ a < 8 := pl_iff.1 hA
    obtain ⟨n, rfl⟩ : ∃ n : Nat, a = n := ⟨a.toNat, by omega⟩
    exact (unlock_d 24 c n v (by omega)).mem M
  · exact (end_d 25 a c v).mem M
end Go.Proofs.YthncbnalnfbpnaaGreatDoor
end
