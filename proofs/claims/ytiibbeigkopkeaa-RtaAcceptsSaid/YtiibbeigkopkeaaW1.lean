/- What is proved here: the walk of the law RtaTells. Conditions: the row is not too long, and what RtaC says of the program. -/
import Derived.Test.YtiibbeigkopkeaaKw
import Derived.Test.YtiibbeigkopkeaaPn
namespace Go.Proofs.Ytiibbeigkopkeaa
open Go.ChangeShapes Go.WideShapes Go.RowKit

theorem lit_len {L : List RtR} (h : litE L = true) : L.length ≤ 20 := by
  unfold litE at h
  simp only [Bool.and_eq_true, decide_eq_true_eq] at h
  exact h.1
set_option maxHeartbeats 4000000 in
set_option maxRecDepth 100000 in
theorem tells_walk (H : RtaC) (a : Option Addr) (n c : Nat) (L : List RtR) (i wv : Int) (w : World) (hr : RowS w a n L) (hn : n ≤ 140737488355328) :
    Calls Try.prog 3 #[.slice a n c, .int .i64 i, .int .i64 wv] w fun e w' => e = .returned (.bool true) ∧ Below w.heap.size w w' := by
  obtain ⟨lt, hlt⟩ : ∃ r, litE L = r := ⟨_, rfl⟩
  have CL := Lib.hid (light_any a n c L w hr hn lt hlt)
  have H1 := Lib.hid H
  have HR0 := Lib.hid hr
  clear H
  cases lt
  · clear hr hlt
    go_enter Try.func3, Try.ntmps3
    go_wp2_with (first
      | (go_at_call 9; refine CL.out.mono ?_; rintro e w1 ⟨rfl, hw1⟩; have hw1 := hw1.symm; subst hw1)
      | (go_at_call 10; refine (known_any H1.out _).mono ?_; rintro e w2 ⟨rfl, hb2⟩))
    go_ret
    exact ⟨rfl, hb2⟩
  have hn20 : n ≤ 20 := by have := hr.1; have := lit_len hlt; omega
  obtain ⟨⟨v1, e1⟩, q1⟩ : ∃ p, nxR L i wv = p := ⟨_, rfl⟩
  obtain ⟨⟨v2, e2⟩, q2⟩ : ∃ p, rspR L i = p := ⟨_, rfl⟩
  obtain ⟨⟨l3, p3, e3⟩, q3⟩ : ∃ p, accR L = p := ⟨_, rfl⟩
  obtain ⟨g, q4⟩ : ∃ p, rgR L = p := ⟨_, rfl⟩
  have C1 := Lib.hid (fun W (hb : Below w.heap.size w W) => H1.out.next a n c L i wv W (hr.below hb) hn v1 e1 q1)
  have C2 := Lib.hid (fun W (hb : Below w.heap.size w W) => H1.out.resp a n c L i W (hr.below hb) hn v2 e2 q2)
  have C3 := Lib.hid (fun W (hb : Below w.heap.size w W) => H1.out.accept a n c L W (hr.below hb) hn l3 p3 e3 q3)
  have C4 := Lib.hid (fun W (hb : Below w.heap.size w W) => H1.out.right a n c L W (hr.below hb) hn g q4)
  have CP := Lib.hid (plain_any a n c L w hr hn20)
  have D1 := Lib.hid (fun b d W (hb : RowS W b n L) => nextR_any b n d L i wv W hb hn v1 e1 q1)
  have D2 := Lib.hid (fun b d W (hb : RowS W b n L) => respR_any b n d L i W hb hn v2 e2 q2)
  have D3 := Lib.hid (fun b d W (hb : RowS W b n L) => acceptR_any b n d L W hb hn l3 p3 e3 q3)
  have D4 := Lib.hid (fun b d W (hb : RowS W b n L) => rowsR_any b n d L W hb hn g q4)
  have HX3 : Hid (l3.length ≤ 20) := by
    show _ ≤ _
    have hl := lit_len hlt
    unfold accR at q3
    split at q3
    · split at q3
      · cases q3; simp
      · cases q3; unfold accV; simpa using hl
    · cases q3; simp
  clear hr hlt q1 q2 q3 q4
  go_enter Try.func3, Try.ntmps3
  go_wp2_with (first
    | (go_at_call 9; refine CL.out.mono ?_; rintro e w1 ⟨rfl, hw1⟩; have hw1 := hw1.symm; subst hw1)
    | (go_at_call 11; refine CP.out.mono ?_; rintro e w2 ⟨b, d, rfl, hR2, hb2⟩; have R2 := Lib.hid hR2; have B2 := Lib.hid hb2; clear hR2 hb2)
    | (go_at_call 12; refine (C1.out _ B2.out).mono ?_; rintro e w3 ⟨rfl, hb3⟩; have R3 := Lib.hid (R2.out.below hb3); have B3 := Lib.hid (keep_below B2.out hb3); clear hb3)
    | (go_at_call 13; refine (D1.out _ _ _ R3.out).mono ?_; rintro e w4 ⟨rfl, hb4⟩; have R4 := Lib.hid (R3.out.below hb4); have B4 := Lib.hid (keep_below B3.out hb4); clear hb4)
    | (go_at_call 14; refine (C2.out _ B4.out).mono ?_; rintro e w5 ⟨rfl, hb5⟩; have R5 := Lib.hid (R4.out.below hb5); have B5 := Lib.hid (keep_below B4.out hb5); clear hb5)
    | (go_at_call 15; refine (D2.out _ _ _ R5.out).mono ?_; rintro e w6 ⟨rfl, hb6⟩; have R6 := Lib.hid (R5.out.below hb6); have B6 := Lib.hid (keep_below B5.out hb6); clear hb6)
    | (go_at_call 16; refine (C3.out _ B6.out).mono ?_; rintro e w7 ⟨xa, xn, xc, rfl, hX, hb7⟩; have R7 := Lib.hid (R6.out.below hb7); have B7 := Lib.hid (keep_below B6.out hb7); have X7 := Lib.hid hX; clear hb7 hX)
    | (go_at_call 17; refine (D3.out _ _ _ R7.out).mono ?_; rintro e w8 ⟨ya, yn, yc, rfl, hY, hb8⟩; have R8 := Lib.hid (R7.out.below hb8); have B8 := Lib.hid (keep_below B7.out hb8); have X8 := Lib.hid (X7.out.below hb8); have Y8 := Lib.hid hY; clear hb8 hY)
    | (go_at_call 18; refine (C4.out _ B8.out).mono ?_; rintro e w9 ⟨rfl, hb9⟩; have R9 := Lib.hid (R8.out.below hb9); have B9 := Lib.hid (keep_below B8.out hb9); have X9 := Lib.hid (X8.out.below hb9); have Y9 := Lib.hid (Y8.out.below hb9); clear hb9)
    | (go_at_call 19; refine (D4.out _ _ _ R9.out).mono ?_; rintro e w10 ⟨rfl, hb10⟩; have B10 := Lib.hid (keep_below B9.out hb10); have X10 := Lib.hid (X9.out.below hb10); have Y10 := Lib.hid (Y9.out.below hb10); clear hb10)
    | (go_at_call 20; refine (same_any _ _ _ _ _ _ l3 _ X10.out Y10.out (by have h1 := X10.out.1; have h2 := HX3.out; omega)).mono ?_; rintro e w11 ⟨rfl, hb11⟩; have B11 := Lib.hid (keep_below B10.out hb11); clear hb11)
    | (go_at_call 10; refine (known_any H1.out _).mono ?_; rintro e w12 ⟨rfl, hb12⟩))
  go_ret
  exact ⟨rfl, keep_below B11.out hb12⟩
end Go.Proofs.Ytiibbeigkopkeaa
