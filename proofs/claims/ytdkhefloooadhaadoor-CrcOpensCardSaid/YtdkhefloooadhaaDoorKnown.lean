/- What is proved here: the fixed calls of 'known' come out as asked. Condition: the table of half bytes holds what it is laid as. -/
import Derived.Test.YtdkhefloooadhaaDoorSeal
namespace Go.Proofs.YtdkhefloooadhaaDoor
open Go.ChangeShapes Go.WideShapes Go.RowKit

theorem open_at {s t : ByteArray} {e : Int} (hs : s.size ≤ 1000000) (h : opn s.data.toList = (t.data.toList, e)) (w : World) (hn : Hal w) :
    Calls Tryd.prog 11 #[.string s] w fun r w' => r = .returned (.tuple #[.string t, .int .i64 e]) ∧ Below w.heap.size w w' := by
  have := open_any s hs w hn
  rw [h, bs_of] at this; exact this
theorem of_at {s : ByteArray} {n : Int} (hs : s.size ≤ 1000000) (h : ((crc 0#16 s.data.toList).toNat : Int) = n) (w : World) (hn : Hal w) :
    Calls Tryd.prog 13 #[.string s] w fun r w' => r = .returned (.int .i64 n) ∧ w = w' := by
  have := of_any s (by unfold maxLen; omega) w hn
  rw [h] at this; exact this
theorem on_at {s : ByteArray} {m n : Int} (hs : s.size ≤ 1000000) (h : ((crc (sm m) s.data.toList).toNat : Int) = n) (w : World) (hn : Hal w) :
    Calls Tryd.prog 15 #[.int .i64 m, .string s] w fun r w' => r = .returned (.int .i64 n) ∧ w = w' := by
  have := on_any m s (by unfold maxLen; omega) w hn
  rw [h] at this; exact this
theorem sealed_at {s t : ByteArray} (hs : s.size ≤ 1000000) (h : s.data.toList ++ sb s.data.toList = t.data.toList) (w : World) (hn : Hal w) :
    Calls Tryd.prog 17 #[.string s] w fun r w' => r = .returned (.string t) ∧ Below w.heap.size w w' := by
  have := sealed_any s hs w hn
  rw [h, bs_of] at this; exact this

set_option maxHeartbeats 2000000 in
set_option maxRecDepth 100000 in
theorem known_any (w : World) (hn : Hal w) : Calls Tryd.prog 10 #[] w fun e w' => e = .returned (.bool true) ∧ Below w.heap.size w w' := by
  have g1 := Lib.hid (open_at (s := ⟨#[49, 50, 51, 52, 53, 54, 55, 56, 57, 49, 195]⟩) (t := ⟨#[49, 50, 51, 52, 53, 54, 55, 56, 57]⟩) (e := 0) (by decide) (by decide +kernel))
  have g2 := Lib.hid (open_at (s := ⟨#[49, 50, 51, 52, 53, 54, 55, 56, 57, 49, 194]⟩) (t := ⟨#[]⟩) (e := 5) (by decide) (by decide +kernel))
  have g3 := Lib.hid (open_at (s := ⟨#[49]⟩) (t := ⟨#[]⟩) (e := 2) (by decide) (by decide +kernel))
  have o1 := Lib.hid (of_at (s := ⟨#[49, 50, 51, 52, 53, 54, 55, 56, 57]⟩) (n := 12739) (by decide) (by decide +kernel))
  have o2 := Lib.hid (of_at (s := ⟨#[49, 50, 51, 52]⟩) (n := 55177) (by decide) (by decide +kernel))
  have o3 := Lib.hid (on_at (s := ⟨#[53, 54, 55, 56, 57]⟩) (m := 55177) (n := 12739) (by decide) (by decide +kernel))
  have s1 := Lib.hid (sealed_at (s := ⟨#[49, 50, 51, 52, 53, 54, 55, 56, 57]⟩) (t := ⟨#[49, 50, 51, 52, 53, 54, 55, 56, 57, 49, 195]⟩) (by decide) (by decide +kernel))
  have o4 := Lib.hid (of_at (s := ⟨#[]⟩) (n := 0) (by decide) (by decide +kernel))
  have G := Below.refl w.heap.size w
  go_enter Tryd.func10, Tryd.ntmps10
  go_wp2_with fail
  refine (g1.out _ hn).mono ?_; rintro e w1 ⟨rfl, hb⟩
  replace G := G.trans (hb.mono G.size); replace hn := hn.below hb; clear hb
  go_wp2_with fail
  refine (g2.out _ hn).mono ?_; rintro e w2 ⟨rfl, hb⟩
  replace G := G.trans (hb.mono G.size); replace hn := hn.below hb; clear hb
  go_wp2_with fail
  refine (g3.out _ hn).mono ?_; rintro e w3 ⟨rfl, hb⟩
  replace G := G.trans (hb.mono G.size); replace hn := hn.below hb; clear hb
  go_wp2_with fail
  refine (o1.out _ hn).mono ?_; rintro e w' ⟨rfl, rfl⟩
  go_wp2_with fail
  refine (o2.out _ hn).mono ?_; rintro e w' ⟨rfl, rfl⟩
  go_wp2_with fail
  refine (o3.out _ hn).mono ?_; rintro e w' ⟨rfl, rfl⟩
  go_wp2_with fail
  refine (s1.out _ hn).mono ?_; rintro e w4 ⟨rfl, hb⟩
  replace G := G.trans (hb.mono G.size); replace hn := hn.below hb; clear hb
  go_wp2_with fail
  refine (o4.out _ hn).mono ?_; rintro e w' ⟨rfl, rfl⟩
  go_wp2
  go_ret
  exact ⟨rfl, G⟩
end Go.Proofs.YtdkhefloooadhaaDoor
