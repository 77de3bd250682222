/- What is proved here: the walk of NestTells. Condition: the table of names holds what its initialiser lays ('Nms'). -/
import Derived.Test.YtncnofcgpiaadaaDoorKnown
import Derived.Test.YtncnofcgpiaadaaDoorRk
namespace Go.Proofs.YtncnofcgpiaadaaDoor
open Go.ChangeShapes Go.WideShapes Go.RowKit

theorem mA_len (L : List (Int × Int × Int)) : (mA L).length ≤ L.length := by
  unfold mA; split
  · rw [mL_len]; exact Nat.le_refl _
  · simp
theorem hA_len (L : List (Int × Int × Int)) : (hA L).length ≤ L.length := by
  unfold hA; split
  · rw [hL_len]; exact Nat.le_refl _
  · simp
theorem hdA_len (L : List (Int × Int × Int)) : (hdA L).length ≤ L.length := by
  unfold hdA; split
  · rw [hdL_len]; exact Nat.le_refl _
  · simp
theorem lA_len (L : List (Int × Int × Int)) : (lA L).length ≤ L.length := by
  unfold lA; split
  · exact lks_len _ _
  · simp
set_option maxHeartbeats 4000000 in
set_option maxRecDepth 100000 in
theorem tells_walk (a : Option Addr) (n c : Nat) (L : List (Int × Int × Int)) (hnm : n ≤ maxLen) (w : World) (hN : Nms w) (hr : RowI w a n L) :
    Calls Tryd.prog 3 #[.slice a n c] w fun e w' => e = .returned (.bool true) ∧ Below w.heap.size w w' := by
  have HN := Lib.hid hN
  unfold maxLen at hnm
  by_cases h250 : 250 < n
  · have K := Lib.hid (known_any w hN)
    clear hN hr
    go_enter Tryd.func3, Tryd.ntmps3
    go_wp2_with (go_at_call 10; refine K.out.mono ?_; rintro e w1 ⟨rfl, hb⟩)
    go_ret
    exact ⟨rfl, hb⟩
  have hn6 : n ≤ 1000000 := by omega
  have q1 := mA_len L
  have q2 := hA_len L
  have q3 := hdA_len L
  have q4 := lA_len L
  rw [← hr.1] at q1 q2 q3 q4
  have R := hr
  have G := Below.refl w.heap.size w
  obtain ⟨lm, hlm⟩ : ∃ l, l = mA L := ⟨_, rfl⟩
  obtain ⟨lh, hlh⟩ : ∃ l, l = hA L := ⟨_, rfl⟩
  obtain ⟨ll, hll⟩ : ∃ l, l = lA L := ⟨_, rfl⟩
  obtain ⟨ld, hld⟩ : ∃ l, l = hdA L := ⟨_, rfl⟩
  obtain ⟨em, hem⟩ : ∃ l, l = mE L := ⟨_, rfl⟩
  obtain ⟨el, hel⟩ : ∃ l, l = lE L := ⟨_, rfl⟩
  obtain ⟨ew, hew⟩ : ∃ l, l = wE L := ⟨_, rfl⟩
  rw [← hlm] at q1
  rw [← hlh] at q2
  rw [← hld] at q3
  rw [← hll] at q4
  have D1 : Hid (∀ a n c W, RowI W a n L → Nms W → Calls Tryd.prog 11 #[.slice a n c] W (GotL lm em W)) := by intro a n c W h1 h2; rw [hlm, hem]; exact match_any a n c L W h1 h2
  have D2 : Hid (∀ a n c W, RowI W a n L → n ≤ 1000000 → Calls Tryd.prog 12 #[.slice a n c] W (GotL lm em W)) := by intro a n c W h1 h2; rw [hlm, hem]; exact matchR_any a n c L W h1 h2
  have D3 : Hid (∀ a n c W, RowI W a n L → Nms W → Calls Tryd.prog 13 #[.slice a n c] W (GotL lh em W)) := by intro a n c W h1 h2; rw [hlh, hem]; exact home_any a n c L W h1 h2
  have D4 : Hid (∀ a n c W, RowI W a n L → n ≤ 1000000 → Calls Tryd.prog 14 #[.slice a n c] W (GotL lh em W)) := by intro a n c W h1 h2; rw [hlh, hem]; exact homesR_any a n c L W h1 h2
  have D5 : Hid (∀ a n c W, RowI W a n L → Nms W → Calls Tryd.prog 15 #[.slice a n c] W (GotL ll el W)) := by intro a n c W h1 h2; rw [hll, hel]; exact locks_any a n c L W h1 h2
  have D6 : Hid (∀ a n c W, RowI W a n L → n ≤ 1000000 → Calls Tryd.prog 16 #[.slice a n c] W (GotL ll el W)) := by intro a n c W h1 h2; rw [hll, hel]; exact locksR_any a n c L W h1 h2
  have D7 : Hid (∀ a n c W, RowI W a n L → Nms W → Calls Tryd.prog 17 #[.slice a n c] W (GotL ld em W)) := by intro a n c W h1 h2; rw [hld, hem]; exact held_any a n c L W h1 h2
  have D8 : Hid (∀ a n c W, RowI W a n L → n ≤ 1000000 → Calls Tryd.prog 18 #[.slice a n c] W (GotL ld em W)) := by intro a n c W h1 h2; rw [hld, hem]; exact heldR_any a n c L W h1 h2
  have D9 : Hid (∀ a n c W, RowI W a n L → Nms W → Calls Tryd.prog 20 #[.slice a n c] W fun e w' => e = .returned (.int .i64 ew) ∧ Below W.heap.size W w') := by intro a n c W h1 h2; rw [hew]; exact whole_any a n c L W h1 h2
  have D10 : Hid (∀ a n c W, RowI W a n L → n ≤ 1000000 → Calls Tryd.prog 21 #[.slice a n c] W fun e w' => e = .returned (.int .i64 ew) ∧ Below W.heap.size W w') := by intro a n c W h1 h2; rw [hew]; exact wholeR_any a n c L W h1 h2
  clear hlm hlh hll hld hem hel hew hN hr
  go_enter Tryd.func3, Tryd.ntmps3
  go_wp2_with fail
  refine (D1.out _ _ _ _ R (HN.out.below G)).mono ?_
  rintro e w1 ⟨a1, n1, c1, rfl, r1, hb⟩
  replace R := R.below hb
  replace G := keep_below G hb
  clear hb
  go_wp2_with fail
  refine (D2.out _ _ _ _ R hn6).mono ?_
  rintro e w2 ⟨a2, n2, c2, rfl, r2, hb⟩
  replace R := R.below hb
  replace G := keep_below G hb
  replace r1 := r1.below hb
  clear hb
  go_wp2_with fail
  refine (D3.out _ _ _ _ R (HN.out.below G)).mono ?_
  rintro e w3 ⟨a3, n3, c3, rfl, r3, hb⟩
  replace R := R.below hb
  replace G := keep_below G hb
  replace r1 := r1.below hb
  replace r2 := r2.below hb
  clear hb
  go_wp2_with fail
  refine (D4.out _ _ _ _ R hn6).mono ?_
  rintro e w4 ⟨a4, n4, c4, rfl, r4, hb⟩
  replace R := R.below hb
  replace G := keep_below G hb
  replace r1 := r1.below hb
  replace r2 := r2.below hb
  replace r3 := r3.below hb
  clear hb
  go_wp2_with fail
  refine (D5.out _ _ _ _ R (HN.out.below G)).mono ?_
  rintro e w5 ⟨a5, n5, c5, rfl, r5, hb⟩
  replace R := R.below hb
  replace G := keep_below G hb
  replace r1 := r1.below hb
  replace r2 := r2.below hb
  replace r3 := r3.below hb
  replace r4 := r4.below hb
  clear hb
  go_wp2_with fail
  refine (D6.out _ _ _ _ R hn6).mono ?_
  rintro e w6 ⟨a6, n6, c6, rfl, r6, hb⟩
  replace R := R.below hb
  replace G := keep_below G hb
  replace r1 := r1.below hb
  replace r2 := r2.below hb
  replace r3 := r3.below hb
  replace r4 := r4.below hb
  replace r5 := r5.below hb
  clear hb
  go_wp2_with fail
  refine (D7.out _ _ _ _ R (HN.out.below G)).mono ?_
  rintro e w7 ⟨a7, n7, c7, rfl, r7, hb⟩
  replace R := R.below hb
  replace G := keep_below G hb
  replace r1 := r1.below hb
  replace r2 := r2.below hb
  replace r3 := r3.below hb
  replace r4 := r4.below hb
  replace r5 := r5.below hb
  replace r6 := r6.below hb
  clear hb
  go_wp2_with fail
  refine (D8.out _ _ _ _ R hn6).mono ?_
  rintro e w8 ⟨a8, n8, c8, rfl, r8, hb⟩
  replace R := R.below hb
  replace G := keep_below G hb
  replace r1 := r1.below hb
  replace r2 := r2.below hb
  replace r3 := r3.below hb
  replace r4 := r4.below hb
  replace r5 := r5.below hb
  replace r6 := r6.below hb
  replace r7 := r7.below hb
  clear hb
  go_wp2_with fail
  refine (sameT _ _ _ _ _ _ _ _ r1 r2 (by have := r1.1; omega)).mono ?_
  rintro e w9 ⟨rfl, hb⟩
  replace R := R.below hb
  replace G := keep_below G hb
  replace r3 := r3.below hb
  replace r4 := r4.below hb
  replace r5 := r5.below hb
  replace r6 := r6.below hb
  replace r7 := r7.below hb
  replace r8 := r8.below hb
  clear hb
  go_wp2_with fail
  refine (sameT _ _ _ _ _ _ _ _ r3 r4 (by have := r3.1; omega)).mono ?_
  rintro e w10 ⟨rfl, hb⟩
  replace R := R.below hb
  replace G := keep_below G hb
  replace r5 := r5.below hb
  replace r6 := r6.below hb
  replace r7 := r7.below hb
  replace r8 := r8.below hb
  clear hb
  go_wp2_with fail
  refine (sameT _ _ _ _ _ _ _ _ r5 r6 (by have := r5.1; omega)).mono ?_
  rintro e w11 ⟨rfl, hb⟩
  replace R := R.below hb
  replace G := keep_below G hb
  replace r7 := r7.below hb
  replace r8 := r8.below hb
  clear hb
  go_wp2_with fail
  refine (sameT _ _ _ _ _ _ _ _ r7 r8 (by have := r7.1; omega)).mono ?_
  rintro e w12 ⟨rfl, hb⟩
  replace R := R.below hb
  replace G := keep_below G hb
  clear hb
  go_wp2_with fail
  refine (D9.out _ _ _ _ R (HN.out.below G)).mono ?_
  rintro e w13 ⟨rfl, hb⟩
  replace R := R.below hb
  replace G := keep_below G hb
  clear hb
  go_wp2_with fail
  refine (D10.out _ _ _ _ R hn6).mono ?_
  rintro e w14 ⟨rfl, hb⟩
  replace R := R.below hb
  replace G := keep_below G hb
  clear hb
  go_wp2_with fail
  refine (known_any _ (HN.out.below G)).mono ?_
  rintro e w15 ⟨rfl, hb⟩
  replace R := R.below hb
  replace G := keep_below G hb
  clear hb
  go_wp2
  go_ret
  exact ⟨rfl, G⟩
end Go.Proofs.YtncnofcgpiaadaaDoor
