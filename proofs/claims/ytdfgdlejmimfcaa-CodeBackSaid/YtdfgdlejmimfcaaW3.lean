/- What is proved here: the walk of the law CodeParts. Conditions: numbers fit 64 bits. -/
import Derived.Test.YtdfgdlejmimfcaaBack
namespace Go.Proofs.Ytdfgdlejmimfcaa
open Go.ChangeShapes Go.WideShapes Go.RowKit

theorem list_as {a : Option Addr} {n c : Nat} {l : List Int} (hF : FitsL l) (hn : n ≤ 1000000) : ∃ S : ByteArray, S.data.toList = encL l ∧ ∀ w, Row w a n l → Calls Try.prog 14 #[.slice a n c] w fun e w' => e = .returned (.string S) ∧ Below w.heap.size w w' :=
  ⟨bs (encL l), bs_data _, fun w hr => list_any a n c l w hr hF hn⟩
theorem encL_len {l : List Int} (hF : FitsL l) (hl : l.length ≤ 1000000) : (encL l).length ≤ 10 * (l.length + 1) := encK_len hl hF (Nat.le_refl _)

set_option maxHeartbeats 1000000 in
set_option maxRecDepth 100000 in
theorem parts_walk (s : ByteArray) (a : Option Addr) (n c : Nat) (l : List Int) (w : World) (hs : s.size ≤ maxLen) (hr : Row w a n l) (hF : FitsL l) :
    Calls Try.prog 8 #[.string s, .slice a n c] w fun e w' => e = .returned (.bool true) ∧ Below w.heap.size w w' := by
  replace hs : s.size ≤ 9223372036854775807 := hs
  have G := Below.refl w.heap.size w
  by_cases h1 : (100 : Int) < s.size
  · go_enter Try.func8, Try.ntmps8
    go_wp2_with (go_at_call 10; refine (known_any _).mono ?_; rintro e w' ⟨rfl, hg⟩; replace G := G.trans (hg.mono G.size); clear hg)
    go_ret
    exact ⟨rfl, G⟩
  by_cases h2 : n < 1
  · go_enter Try.func8, Try.ntmps8
    go_wp2_with (go_at_call 10; refine (known_any _).mono ?_; rintro e w' ⟨rfl, hg⟩; replace G := G.trans (hg.mono G.size); clear hg)
    go_ret
    exact ⟨rfl, G⟩
  by_cases h3 : 60 < n
  · go_enter Try.func8, Try.ntmps8
    go_wp2_with (go_at_call 10; refine (known_any _).mono ?_; rintro e w' ⟨rfl, hg⟩; replace G := G.trans (hg.mono G.size); clear hg)
    go_ret
    exact ⟨rfl, G⟩
  have hn1 : 1 ≤ n := by omega
  have hn2 : n ≤ 60 := by omega
  have hs2 : s.size ≤ 100 := by omega
  clear h1 h2 h3
  have hnl : n = l.length := hr.1
  obtain ⟨S, hS, cS⟩ := list_as (a := a) (n := n) (c := c) hF (by omega)
  have hSl : S.size = (encL l).length := by rw [Lib.size_eq, hS]
  have hlen := encL_len hF (by omega)
  have hSs : S.size ≤ 610 := by omega
  have hAF := all_fit hF
  have r1 : getL S.data.toList 0 n = (l, (S.size : Int), 0) := by
    have := getL_enc l hAF (by omega) [] [] n (by omega)
    simpa [hS, hSl] using this
  have r3 : getL S.data.toList 0 ((n : Int) - 1) = ([], 0, 4) := by
    have := getL_few l (by omega) [] [] ((n : Int) - 1) (by omega) (by omega)
    simpa [hS] using this
  have r2 : getL (s ++ S).data.toList s.size 100 = (l, (S.size : Int) + s.size, 0) := by
    have := getL_enc l hAF (by omega) s.data.toList [] 100 (by omega)
    rw [Int.add_comm]
    simpa [hS, hSl] using this
  have C1 := Lib.hid (getList_at (s := S) (p := 0) (m := n) (by omega) r1)
  have C2 := Lib.hid (getList_at (s := s ++ S) (p := s.size) (m := 100) (by simp; omega) r2)
  have C3 := Lib.hid (getList_at (s := S) (p := 0) (m := (n : Int) - 1) (by omega) r3)
  have CS := Lib.hid cS
  clear cS r1 r2 r3 hlen hSl hS hnl hAF
  go_enter Try.func8, Try.ntmps8
  go_wp2_with fail
  refine (CS.out _ hr).mono ?_; rintro e w1 ⟨rfl, hb⟩
  replace G := G.trans (hb.mono G.size); replace hr := hr.below hb; clear hb
  go_wp2_with fail
  refine (C1.out _).mono ?_; rintro e w2 ⟨a1, n1, c1, rfl, hR1, hb⟩
  replace G := G.trans (hb.mono G.size); replace hr := hr.below hb; clear hb
  go_wp2_with fail
  refine (C2.out _).mono ?_; rintro e w3 ⟨a2, n2, c2, rfl, hR2, hb⟩
  replace G := G.trans (hb.mono G.size); replace hr := hr.below hb; replace hR1 := hR1.below hb; clear hb
  go_wp2_with fail
  refine (C3.out _).mono ?_; rintro e w4 ⟨_, _, _, rfl, _, hb⟩
  replace G := G.trans (hb.mono G.size); replace hr := hr.below hb; replace hR1 := hR1.below hb; replace hR2 := hR2.below hb; clear hb
  go_wp2_with fail
  refine (same_any _ _ _ _ _ _ l _ hR1 hr (by have e1 := hR1.1; have e2 := hr.1; omega)).mono ?_; rintro e w5 ⟨rfl, hb⟩
  replace G := G.trans (hb.mono G.size); replace hr := hr.below hb; replace hR2 := hR2.below hb; clear hb
  go_wp2_with fail
  refine (same_any _ _ _ _ _ _ l _ hR2 hr (by have e1 := hR2.1; have e2 := hr.1; omega)).mono ?_; rintro e w6 ⟨rfl, hb⟩
  replace G := G.trans (hb.mono G.size); clear hb hr hR1 hR2
  go_wp2_with fail
  refine (known_any _).mono ?_; rintro e w7 ⟨rfl, hb⟩
  replace G := G.trans (hb.mono G.size); clear hb
  go_wp2
  go_ret
  exact ⟨rfl, G⟩
end Go.Proofs.Ytdfgdlejmimfcaa
