/- What is proved here: the contract of strings.Cut at a byte. Conditions: the string is no longer than Go's. -/
import Derived.Test.YtofmlodfhdjjiaaDoorPr
import Derived.Test.YtofmlodfhdjjiaaDoorShelf
namespace Go.Proofs.YtofmlodfhdjjiaaDoor
open Go.ChangeShapes Go.WideShapes Go.RowKit

theorem below_drewN {B : Nat} {a w : World} (h : Below B a w) (n : Nat) : Below B a (w.drewN n) := ⟨h.os, h.tape, h.output, h.size, h.block⟩
theorem cut_index {c : UInt8} {l : List UInt8} : (Lib.indexByte l c = -1 ∧ cutB c l = (l, [], false)) ∨ ∃ k : Nat, Lib.indexByte l c = k ∧ k < l.length ∧ cutB c l = (l.take k, l.drop (k + 1), true) := by
  have hge := Lib.indexByte_ge l c
  by_cases h : Lib.indexByte l c = -1
  · refine Or.inl ⟨h, cutB_miss ?_⟩
    intro hm
    obtain ⟨k, hk⟩ := List.getElem?_of_mem hm
    exact Lib.indexByte_none h k hk
  · obtain ⟨k, hk⟩ : ∃ k : Nat, Lib.indexByte l c = k := ⟨(Lib.indexByte l c).toNat, by omega⟩
    obtain ⟨h1, h2⟩ := Lib.indexByte_some hk
    obtain ⟨hlt, he⟩ := List.getElem?_eq_some_iff.1 h1
    refine Or.inr ⟨k, hk, hlt, ?_⟩
    have hno : c ∉ l.take k := by
      intro hm
      obtain ⟨j, hj⟩ := List.getElem?_of_mem hm
      obtain ⟨hj1, hj2⟩ := List.getElem?_eq_some_iff.1 hj
      simp only [List.length_take] at hj1
      refine h2 j (by omega) ?_
      rw [List.getElem_take] at hj2
      rw [List.getElem?_eq_some_iff]; exact ⟨by omega, hj2⟩
    have hl : l = l.take k ++ c :: l.drop (k + 1) := by
      rw [← he, List.getElem_cons_drop, List.take_append_drop]
    have := cutB_hit (l.drop (k + 1)) hno
    rw [← hl] at this; exact this
set_option maxHeartbeats 1000000 in
theorem cut2_any (s : ByteArray) (c : UInt8) (hs : s.size ≤ maxLen) (w : World) :
    Calls Tryd.prog 53 #[.string s, .string ⟨#[c]⟩] w fun e w' => e = .returned (.tuple #[.string (bs (cutB c s.data.toList).1), .string (bs (cutB c s.data.toList).2.1), .bool (cutB c s.data.toList).2.2]) ∧ Below w.heap.size w w' := by
  have hc := fun W => Tryd.stringslite_Index_one s c W
  rcases cut_index (c := c) (l := s.data.toList) with ⟨h1, h2⟩ | ⟨k, h1, hk, h2⟩
  · rw [h1] at hc
    have C := Lib.hid hc
    rw [h2]
    have e : bs s.data.toList = s := bs_of s
    simp only [e]
    clear hc h1 h2
    go_enter Tryd.func53, Tryd.ntmps53
    go_wp2_with (go_at_call 64; refine (C.out _).mono ?_; rintro e w' ⟨rfl, rfl⟩)
    go_ret3
    exact ⟨rfl, Below.refl _ _⟩
  · rw [h1] at hc
    have C := Lib.hid hc
    rw [h2]
    have hlen : s.data.toList.length = s.size := by simp
    rw [hlen] at hk
    have e1 : bs (s.data.toList.take k) = s.extract 0 k := by
      rw [← take_of_extract, bs_of]
    have e2 : bs (s.data.toList.drop (k + 1)) = s.extract (k + 1) s.size := by
      rw [← extract_list, bs_of]
    simp only [e1, e2]
    unfold maxLen at hs
    have hw1 : IntKind.i64.wrap ((k : Int) + 1) = (k : Int) + 1 := IntWalk.i64_in _ (by omega)
    clear hc h1 h2 e1 e2 hlen
    go_enter Tryd.func53, Tryd.ntmps53
    go_wp2_with (go_at_call 64; refine (C.out _).mono ?_; rintro e w' ⟨rfl, rfl⟩)
    go_quiet (fail)
    all_goals go_wp2
    go_ret3
    exact ⟨rfl, below_drewN (Below.refl _ _) _⟩
theorem cut_any (s : ByteArray) (c : UInt8) (hs : s.size ≤ maxLen) (w : World) :
    Calls Tryd.prog 44 #[.string s, .string ⟨#[c]⟩] w fun e w' => e = .returned (.tuple #[.string (bs (cutB c s.data.toList).1), .string (bs (cutB c s.data.toList).2.1), .bool (cutB c s.data.toList).2.2]) ∧ Below w.heap.size w w' := by
  have C := Lib.hid (fun W => cut2_any s c hs W)
  go_enter Tryd.func44, Tryd.ntmps44
  go_wp2_with (go_at_call 53; refine (C.out _).mono ?_; rintro e w' ⟨rfl, hb⟩)
  go_ret3
  exact ⟨rfl, hb⟩
end Go.Proofs.YtofmlodfhdjjiaaDoor
