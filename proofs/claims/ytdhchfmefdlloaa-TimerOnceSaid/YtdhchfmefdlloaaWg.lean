/- What is proved here: the contract of the timer's Waiting. Conditions: the timer is one of ours, not too much waits. -/
import Derived.Test.YtdhchfmefdlloaaMo
import Derived.Test.YtdhchfmefdlloaaIo
import Derived.Test.YtdhchfmefdlloaaPw
namespace Go.Proofs.Ytdhchfmefdlloaa
open Go.ChangeShapes Go.WideShapes Go.RowKit Go.Maps

theorem TimI.someAt {F : Nat → Prop} {w : World} {b mb : Nat} {pv : Value} {M : Int → Option Value} {pz : List Int} {now : Int} {L : List Wt} {n : Nat} (h : TimI F w b mb pv M pz now L n) : ∀ x ∈ L, (M x.2).isSome = true := by
  intro x hx
  cases hM : M x.2 with
  | none => exact absurd (h.nothing x.2 hM) (due_nonempty hx rfl)
  | some v => rfl
/-- A slice that waits at a slot. -/
theorem TimI.sliceAt {F : Nat → Prop} {w : World} {b mb : Nat} {pv : Value} {M : Int → Option Value} {pz : List Int} {now : Int} {L : List Wt} {n : Nat} (h : TimI F w b mb pv M pz now L n) {s : Int} {va : Option Addr} {vn vc : Nat} (hM : M s = some (.slice va vn vc)) :
    vn = (dueL s L).length ∧ ∃ g, va = some ⟨g, 0, none⟩ ∧ F g ∧ g < w.heap.size ∧ w.ownsRow 0 48 2 (.slice (some ⟨g, 0, none⟩) vn vc) vn (duC (dueL s L)) := by
  have ho := h.row s _ hM
  rcases ho.2 with ⟨e, _⟩ | ⟨g, cap, cur, e, h3, h4, h5⟩
  · exact absurd e (h.pos s _ hM)
  · cases e
    exact ⟨rfl, g, rfl, h.inr s _ g hM rfl, (Array.getElem?_eq_some_iff.1 h4).1, ho⟩
set_option maxHeartbeats 4000000 in
set_option maxRecDepth 100000 in
theorem waiting_any {F : Nat → Prop} {w : World} {b : Nat} {pz : List Int} {now : Int} {L : List Wt} {n : Nat} (h : Tim F w b pz now L n) (hn : n ≤ 1000000000) :
    Calls Try.prog 18 #[.pointer (some ⟨b, 0, none⟩)] w
      fun e w' => ∃ (a' : Option Addr) (c' : Nat), e = .returned (.slice a' (waitL L).length c') ∧ RowP w' a' (waitL L).length (waitL L) ∧ (∀ g off, a' = some ⟨g, off, none⟩ → w.heap.size ≤ g) ∧ Below w.heap.size w w' := by
  obtain ⟨mb, pv, M, h⟩ := h
  obtain ⟨c0, c1, c2, c3, f2⟩ := h.cells
  have CG := Lib.hid (given_self b w h.cells.1)
  have hmpg := h.mpg
  have hmb := h.mpg.lt
  have hlen := h.len
  have hsome := Lib.hid h.someAt
  have HSL := Lib.hid (fun s va vn vc (hM : M s = some (.slice va vn vc)) => h.sliceAt hM)
  obtain ⟨i0, hi0, hz0, hz1, hz2⟩ := info_parts due_info
  clear h c0 c1 c2 f2
  go_enter Try.func18, Try.ntmps18
  go_wp2_with (first
    | (go_at_call 23; refine CG.out.mono ?_; rintro e w9 ⟨rfl, hw9⟩; have hw9 := hw9.symm; subst hw9)
    | (at_range; refine wpList_range_mp _ rfl _ 51 rfl 3 33 Try.underlying3 Try.underlying51 mb n M rfl hmpg ?_; intro w0 cnt0 hrg0 hcn0 hg0 hs0)
    | go_in)
  go_frame
  go_loopw [3] (fun s wr => ∃ (left : Int → Bool) (cnt : Nat) (v : Value) (l : List (Int × Int)), s = v ∧ RgG Try.prog 3 wr mb w.heap.size n M left cnt ∧ wr.ownsRow (w.heap.size + 1) 48 2 v l.length (duC l) ∧ Coll L left l ∧ Below w.heap.size w wr ∧ w.heap.size + 1 ≤ wr.heap.size)
    (fun _ wr => wr.rangeLeft mb w.heap.size)
  case atStart => exact ⟨_, cnt0, _, [], rfl, hrg0, World.ownsRow_nil _ _ _ _, Coll.start L _ hsome.out, (Below.refl _ _).grown hg0 (Nat.le_refl _) (fun j hj => by cases hj), by omega⟩
  case round =>
    obtain ⟨left, cnt, v, l, hs, hrg, hown, hcl, hbl, hsz⟩ := hrel
    have hs := hs.symm
    subst hs
    have HCL := Lib.hid hcl
    clear hcl
    go_wp2_with (first
      | (at_next; refine wpList_next_mp _ rfl _ rfl 3 Try.underlying3 mb w.heap.size n M left cnt rfl hrg ?_ ?_)
      | go_in)
    · intro hc0 hl0
      have HD : Hid (srt l = waitL L) := HCL.out.done hl0
      have hll : l.length ≤ n := Nat.le_trans HCL.out.len hlen
      have CI := Lib.hid (inOrder_any v l (w.heap.size + 1) wr hown (by omega))
      have HOW := Lib.hid hown
      clear hown hl0
      go_wp2_with (go_at_call 26; refine CI.out.mono ?_; rintro e w3 ⟨rfl, ho3, hg3⟩; have HO3 := Lib.hid ho3; have HG3 := Lib.hid hg3; clear ho3 hg3)
      go_ret
      obtain ⟨a', c', hv', hm', hR⟩ := RowP.own HO3.out
      rw [HD.out] at hm' hR
      exact ⟨a', c', (congrArg Ending.returned hv').trans (by rw [hm']), by rw [← hm']; exact hR, fun g off e => by have := (HO3.out.lt g (by rw [hv', e]; rfl)).1; omega, hbl.grown HG3.out (by omega) (fun j hj => by have := (HOW.out.lt j hj).1; omega)⟩
    · intro s0 va vn vc w1 cnt1 hws hls hMs hrg1 hlt1 hg1 hs1 hen
      obtain ⟨hvn, g, rfl, hFg, hgl, hrow⟩ := HSL.out s0 va vn vc hMs
      subst hvn
      generalize hD : dueL s0 L = D at hrow
      have HC2 := Lib.hid (HCL.out.step hls)
      rw [hD] at hen hMs
      have hbl1 : Below w.heap.size w w1 := hbl.grown hg1 hbl.size (fun j hj => by cases hj; exact Nat.le_refl _)
      have hrow1 : w1.ownsRow 0 48 2 (.slice (some ⟨g, 0, none⟩) D.length vc) D.length (duC D) := own_keep hrow hbl1
      have hown1 : w1.ownsRow (w.heap.size + 1) 48 2 v l.length (duC l) := hown.kept hg1 (by
        cases ho : v.ownBlock with
        | none => exact Or.inl rfl
        | some j => exact Or.inr (fun e => by cases e; have := (hown.lt w.heap.size ho).1; omega))
      have hlb : l.length + D.length ≤ n := by
        have := HC2.out.len
        rw [List.length_append, hD] at this
        omega
      have HOW := Lib.hid hown1
      have HRO := Lib.hid hrow1
      have HRG := Lib.hid hrg1
      have hm8 : w.heap.size + 1 ≤ w1.heap.size := by omega
      rw [hD] at HC2
      clear hD
      clear hs1 hown hrow hown1 hrow1 hMs hws hls hrg1 hmpg
      go_wp2_with (first
        | (at_builtin; refine wpList_append_own_at _ rfl _ _ 33 rfl (w.heap.size + 1) 48 i0 (.agg #[.int .i64 0, .int .i64 0]) 2 16 Try.underlying33 hi0 hz0 hz1 hz2 rfl (by decide) v l.length (duC l) rfl HOW.out ⟨g, 0, none⟩ D.length vc (duC D) rfl (duC_len D) (fun j u hj => HRO.out.cells (g := g) rfl j u hj) (duC_cell _) (by unfold maxLen; omega) (by omega) hm8 ?_; intro v' w2 ho2 hg2 _ hloc2; go_frame)
        | go_in)
      have hrb : v.ownBlock ≠ some mb ∧ v.ownBlock ≠ some w.heap.size := ⟨fun e => by have := (HOW.out.lt mb e).1; have := hmb; omega, fun e => by have := (HOW.out.lt _ e).1; omega⟩
      have HR2 := Lib.hid (HRG.out.at_block (hg2.block mb HRG.out.owns.lt (fun e => hrb.1 e.symm)) (hg2.block _ HRG.out.lt (fun e => hrb.2 e.symm)))
      go_roundw
      case rel =>
        exact ⟨_, cnt1, v', l ++ D, rfl, HR2.out, by rw [List.length_append, duC_append]; exact ho2, HC2.out, hbl1.grown hg2 hbl1.size (fun j hj => by have := (HOW.out.lt j hj).1; omega), Nat.le_trans hm8 hg2.size⟩
      case measure => rw [HR2.out.left_eq, hrg.left_eq]; exact hlt1
end Go.Proofs.Ytdhchfmefdlloaa
