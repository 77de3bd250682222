/- What is proved here: the walk of the law CodePuts. Conditions: numbers fit 64 bits. -/
import Derived.Test.YtdfgdlejmimfcaaRefPut
namespace Go.Proofs.Ytdfgdlejmimfcaa
open Go.ChangeShapes Go.WideShapes Go.RowKit

set_option maxHeartbeats 1000000 in
set_option maxRecDepth 100000 in
theorem puts_walk (x : Int) (a : Option Addr) (n c : Nat) (l : List Int) (w : World) (hf : Fits x) (hr : Row w a n l) (hF : FitsL l) :
    Calls Try.prog 3 #[.int .i64 x, .slice a n c] w fun e w' => e = .returned (.bool true) ∧ Below w.heap.size w w' := by
  have G := Below.refl w.heap.size w
  by_cases h1 : 100 < n
  · go_enter Try.func3, Try.ntmps3
    go_wp2_with (go_at_call 10; refine (known_any _).mono ?_; rintro e w' ⟨rfl, hg⟩; replace G := G.trans (hg.mono G.size); clear hg)
    go_ret
    exact ⟨rfl, G⟩
  have hn : n ≤ 100 := by omega
  clear h1
  obtain ⟨S, hS⟩ : ∃ S, S = bs (enc (turn x)) := ⟨_, rfl⟩
  obtain ⟨T, hT⟩ : ∃ T, T = bs (encL l) := ⟨_, rfl⟩
  have c1 := fun W => put_any x hf W
  have c2 := fun W => putR_any x hf W
  have c3 := fun W hr => list_any a n c l W hr hF (by omega)
  have c4 := fun W hr => listR_any a n c l W hr hF (by omega)
  have hs1 : S.size ≤ sz x := by rw [hS, bs_size]; exact Nat.le_refl _
  have hs2 : sz x ≤ S.size := by rw [hS, bs_size]; exact Nat.le_refl _
  rw [← hS] at c1 c2
  rw [← hT] at c3 c4
  have C1 := Lib.hid c1
  have C2 := Lib.hid c2
  have C3 := Lib.hid c3
  have C4 := Lib.hid c4
  clear c1 c2 c3 c4 hS hT
  go_enter Try.func3, Try.ntmps3
  go_wp2_with (first
    | (go_at_call 11; refine (C1.out _).mono ?_; rintro e w' ⟨rfl, hb⟩; replace G := G.trans (hb.mono G.size); replace hr := hr.below hb; clear hb)
    | (go_at_call 12; refine (C2.out _).mono ?_; rintro e w' ⟨rfl, hb⟩; replace G := G.trans (hb.mono G.size); replace hr := hr.below hb; clear hb)
    | (go_at_call 13; refine (size_any _ hf _).mono ?_; rintro e w' ⟨rfl, rfl⟩)
    | (go_at_call 14; refine (C3.out _ hr).mono ?_; rintro e w' ⟨rfl, hb⟩; replace G := G.trans (hb.mono G.size); replace hr := hr.below hb; clear hb)
    | (go_at_call 15; refine (C4.out _ hr).mono ?_; rintro e w' ⟨rfl, hb⟩; replace G := G.trans (hb.mono G.size); replace hr := hr.below hb; clear hb)
    | (go_at_call 10; refine (known_any _).mono ?_; rintro e w' ⟨rfl, hb⟩; replace G := G.trans (hb.mono G.size); clear hb))
  go_ret
  exact ⟨rfl, G⟩
end Go.Proofs.Ytdfgdlejmimfcaa
