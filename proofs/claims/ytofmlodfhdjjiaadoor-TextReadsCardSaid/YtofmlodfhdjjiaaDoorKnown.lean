/- What is proved here: what must come of fixed calls (known). Condition: the listed variables hold what their initialisers lay ('Env'). -/
import Derived.Test.YtofmlodfhdjjiaaDoorParse2
import Derived.Test.YtofmlodfhdjjiaaDoorLine
namespace Go.Proofs.YtofmlodfhdjjiaaDoor
open Go.ChangeShapes Go.WideShapes Go.RowKit

theorem it0 : Lib.itoa 0 = [48] := by show Lib.decDigits 0 = _; rw [Lib.decDigits_one (by decide)]; rfl
theorem it1 : Lib.itoa 1 = [49] := by show Lib.decDigits 1 = _; rw [Lib.decDigits_one (by decide)]; rfl
theorem it2 : Lib.itoa 2 = [50] := by show Lib.decDigits 2 = _; rw [Lib.decDigits_one (by decide)]; rfl
theorem itm5 : Lib.itoa (-5) = [45, 53] := by show 45 :: Lib.decDigits 5 = _; rw [Lib.decDigits_one (by decide)]; rfl
theorem itm120 : Lib.itoa (-120) = [45, 49, 50, 48] := by
  show 45 :: Lib.decDigits 120 = _
  rw [Lib.decDigits, dif_neg (by decide), Lib.decDigits_two (by decide) (by decide)]; rfl
theorem kl1 : line (1, -5, 0) = [80, 85, 83, 72, 32, 45, 53, 10] := by
  rw [line_right (by decide +kernel)]
  have e : numsT (1, -5, 0) = 32 :: Lib.itoa (-5) := by unfold numsT; rw [if_neg (by decide +kernel), if_pos (by decide +kernel)]
  unfold lineW
  rw [e, itm5]; decide +kernel
theorem kl2 : line (17, 1, 2) = [71, 69, 84, 32, 49, 32, 50, 10] := by
  rw [line_right (by decide +kernel)]
  have e : numsT (17, 1, 2) = 32 :: (Lib.itoa 1 ++ 32 :: Lib.itoa 2) := by unfold numsT; rw [if_neg (by decide +kernel), if_neg (by decide +kernel)]
  unfold lineW
  rw [e, it1, it2]; decide +kernel
theorem kl3 : line (25, 0, 0) = [69, 78, 68, 10] := by
  rw [line_right (by decide +kernel)]
  have e : numsT (25, 0, 0) = [] := by unfold numsT; rw [if_pos (by decide +kernel)]
  unfold lineW
  rw [e]; decide +kernel
theorem kl4 : line (3, 0, 0) = [68, 85, 80, 10] := by
  rw [line_right (by decide +kernel)]
  have e : numsT (3, 0, 0) = [] := by unfold numsT; rw [if_pos (by decide +kernel)]
  unfold lineW
  rw [e]; decide +kernel
theorem kl5 : line (0, 0, 0) = [] := line_wrong (by decide +kernel)
theorem ks : showL [(1, -5, 0), (17, 1, 2), (25, 0, 0)] = [80, 85, 83, 72, 32, 45, 53, 10, 71, 69, 84, 32, 49, 32, 50, 10, 69, 78, 68, 10] := by
  rw [show_right (by decide) (by decide +kernel), flatL_cons, flatL_cons, flatL_cons, flatL_nil, kl1, kl2, kl3]; rfl
theorem fit_three (a b : Int) (ha : -1000 ≤ a ∧ a ≤ 1000) (hb : -1000 ≤ b ∧ b ≤ 1000) (o : Int) (ho : -1000 ≤ o ∧ o ≤ 1000) : FitsI (o, a, b) := ⟨fits_small ho.1 ho.2, fits_small ha.1 ha.2, fits_small hb.1 hb.2⟩
theorem kf3 : AllFitI [(1, -5, 0), (17, 1, 2), (25, 0, 0)] := by
  intro i hi
  simp only [List.mem_cons, List.not_mem_nil, or_false] at hi
  rcases hi with rfl | rfl | rfl <;> exact fit_three _ _ (by decide) (by decide) _ (by decide)
theorem kf2 : AllFitI [(1, -5, 0), (25, 0, 0)] := by
  intro i hi
  simp only [List.mem_cons, List.not_mem_nil, or_false] at hi
  rcases hi with rfl | rfl <;> exact fit_three _ _ (by decide) (by decide) _ (by decide)
theorem kp1 : parse [80, 85, 83, 72, 32, 45, 53, 10, 69, 78, 68, 10] = ([(1, -5, 0), (25, 0, 0)], 0) := by
  have h := parse_flat (L := [(1, -5, 0), (25, 0, 0)]) (by decide) (by decide +kernel) kf2
  rw [flatL_cons, flatL_cons, flatL_nil, kl1, kl3] at h
  exact h
theorem kp2 : parse [80, 85, 83, 72, 10] = ([], 3) := by decide +kernel
theorem num48 : num [48] = (0, 0) := by rw [← it0]; exact num_itoa fits0
theorem kp3 : parse [76, 79, 79, 80, 32, 48, 10] = ([], 6) := by
  have h1 : lns [76, 79, 79, 80, 32, 48, 10] = [([76, 79, 79, 80, 32, 48], true)] := by decide +kernel
  have h2 : cutB 32 [76, 79, 79, 80, 32, 48] = ([76, 79, 79, 80], [48], true) := by decide +kernel
  have h3 : cutB 32 [48] = ([48], [], false) := by decide +kernel
  have h4 : named [76, 79, 79, 80] = 21 := by decide +kernel
  have h5 : ins [76, 79, 79, 80, 32, 48] = ((0, 0, 0), 6) := by
    unfold ins
    rw [h2]
    simp only [h3, h4, num48]
    decide +kernel
  unfold parse
  rw [h1, pr, h5]; decide +kernel
theorem kp4 : parse [69, 78, 68] = ([], 3) := by decide +kernel
theorem kn1 : num [45, 49, 50, 48] = (-120, 0) := by rw [← itm120]; exact num_itoa (fits_small (by decide) (by decide))
theorem kn2 : num [45, 48] = (0, 3) := by
  have h : Lib.atoiAll [45, 48] = .ok 0 := by decide +kernel
  unfold num
  rw [h]; simp only
  rw [it0]; rfl
theorem parse_at {s : ByteArray} {r : List (Int × Int × Int) × Int} (hs : s.size ≤ 1000000) (h : parse s.data.toList = r) (w : World) (hE : Env w) : Calls Tryd.prog 15 #[.string s] w (GotR r w) := by
  rw [← h]; exact parse_any s hs w hE
theorem number_at {s : ByteArray} {r : Int × Int} (hs : s.size ≤ 1000000) (h : num s.data.toList = r) (w : World) (hE : Env w) : Calls Tryd.prog 17 #[.string s] w (Two2 r w) := by
  rw [← h]; exact number_any s (by omega) w hE
theorem line_at {o a b : Int} {s : ByteArray} (hf : FitsI (o, a, b)) (h : line (o, a, b) = s.data.toList) (w : World) (hE : Env w) :
    Calls Tryd.prog 11 #[.agg #[.int .i64 o, .int .i64 a, .int .i64 b]] w fun e w' => e = .returned (.string s) ∧ Below w.heap.size w w' := by
  have := line_any o a b w hE hf
  rw [h, bs_of] at this; exact this
theorem show_at {a : Option Addr} {n c : Nat} {L : List (Int × Int × Int)} {s : ByteArray} (hf : AllFitI L) (h : showL L = s.data.toList) (w : World) (hr : RowI w a n L) (hE : Env w) :
    Calls Tryd.prog 13 #[.slice a n c] w fun e w' => e = .returned (.string s) ∧ Below w.heap.size w w' := by
  have := show_any a n c L w hr hf hE
  rw [h, bs_of] at this; exact this
theorem code_at {a : Option Addr} {n c : Nat} {L : List (Int × Int × Int)} {s : ByteArray} (hf : AllFitI L) (h : cod L = s.data.toList) (w : World) (hr : RowI w a n L) (hE : Env w) :
    Calls Tryd.prog 20 #[.slice a n c] w fun e w' => e = .returned (.string s) ∧ Below w.heap.size w w' := by
  have := code_any a n c L w hr hf hE.nms
  rw [h, bs_of] at this; exact this
theorem sameR_at {a b : Option Addr} {n m c d : Nat} {L M : List (Int × Int × Int)} {r : Bool} (w : World) (h : decide (L = M) = r) (ha : RowI w a n L) (hb : RowI w b m M) (hn : n ≤ 1000000) (hm : m ≤ 1000000) :
    Calls Tryd.prog 19 #[.slice a n c, .slice b m d] w fun e w' => e = .returned (.bool r) ∧ Below w.heap.size w w' := by
  have := sameR_any a b n m c d L M w ha hb hn hm
  rw [h] at this; exact this
theorem RowI.lit2 (w : World) (o a b p c d : Int) : RowI (w.alloc (.cells #[.int .i64 o, .int .i64 a, .int .i64 b, .int .i64 p, .int .i64 c, .int .i64 d] 24)) (some ⟨w.heap.size, 0, none⟩) 2 [(o, a, b), (p, c, d)] := by
  refine ⟨rfl, fun _ => ⟨w.heap.size, 0, rfl, by simp, fun i hi => ?_⟩⟩
  match i, hi with
  | 0, _ => exact ⟨by simp, by simp, by simp⟩
  | 1, _ => exact ⟨by simp, by simp, by simp⟩
theorem RowI.lit3 (w : World) (o a b p c d q e f : Int) : RowI (w.alloc (.cells #[.int .i64 o, .int .i64 a, .int .i64 b, .int .i64 p, .int .i64 c, .int .i64 d, .int .i64 q, .int .i64 e, .int .i64 f] 24)) (some ⟨w.heap.size, 0, none⟩) 3 [(o, a, b), (p, c, d), (q, e, f)] := by
  refine ⟨rfl, fun _ => ⟨w.heap.size, 0, rfl, by simp, fun i hi => ?_⟩⟩
  match i, hi with
  | 0, _ => exact ⟨by simp, by simp, by simp⟩
  | 1, _ => exact ⟨by simp, by simp, by simp⟩
  | 2, _ => exact ⟨by simp, by simp, by simp⟩
theorem build_at0 (o : Int) (w : World) : (Instr.build 24 #[(0, .int .i64 o)]).run Tryd.prog w = .ok (.agg #[.int .i64 o, .int .i64 0, .int .i64 0]) w := run_build w 24 _ _ (by kernel_rfl)
theorem build_at1 (o a : Int) (w : World) : (Instr.build 24 #[(0, .int .i64 o), (1, .int .i64 a)]).run Tryd.prog w = .ok (.agg #[.int .i64 o, .int .i64 a, .int .i64 0]) w := run_build w 24 _ _ (by kernel_rfl)

set_option maxHeartbeats 4000000 in
set_option maxRecDepth 100000 in
theorem known_any (w : World) (hE : Env w) : Calls Tryd.prog 10 #[] w fun e w' => e = .returned (.bool true) ∧ Below w.heap.size w w' := by
  have HE := Lib.hid hE
  have b0 := build_at0
  have b1 := build_at1
  have b2 := build_ins
  have b3 := build_none
  have C1 : Hid (∀ W, Env W → Calls Tryd.prog 15 #[.string ⟨#[80, 85, 83, 72, 32, 45, 53, 10, 69, 78, 68, 10]⟩] W (GotR ([(1, -5, 0), (25, 0, 0)], 0) W)) := fun W h => parse_at (by decide) kp1 W h
  have C2 : Hid (∀ W, Env W → Calls Tryd.prog 15 #[.string ⟨#[80, 85, 83, 72, 10]⟩] W (GotR ([], 3) W)) := fun W h => parse_at (by decide) kp2 W h
  have C3 : Hid (∀ W, Env W → Calls Tryd.prog 15 #[.string ⟨#[76, 79, 79, 80, 32, 48, 10]⟩] W (GotR ([], 6) W)) := fun W h => parse_at (by decide) kp3 W h
  have C4 : Hid (∀ W, Env W → Calls Tryd.prog 15 #[.string ⟨#[69, 78, 68]⟩] W (GotR ([], 3) W)) := fun W h => parse_at (by decide) kp4 W h
  have C5 : Hid (∀ W, Env W → Calls Tryd.prog 17 #[.string ⟨#[45, 49, 50, 48]⟩] W (Two2 (-120, 0) W)) := fun W h => number_at (by decide) kn1 W h
  have C6 : Hid (∀ W, Env W → Calls Tryd.prog 17 #[.string ⟨#[45, 48]⟩] W (Two2 (0, 3) W)) := fun W h => number_at (by decide) kn2 W h
  clear hE
  have G := Below.refl w.heap.size w
  go_enter Tryd.func10, Tryd.ntmps10
  go_wp2_with fail
  replace G := below_alloc w (.cells #[.int .i64 1, .int .i64 (-5), .int .i64 0, .int .i64 17, .int .i64 1, .int .i64 2, .int .i64 25, .int .i64 0, .int .i64 0] 24)
  refine (show_at (s := ⟨#[80, 85, 83, 72, 32, 45, 53, 10, 71, 69, 84, 32, 49, 32, 50, 10, 69, 78, 68, 10]⟩) kf3 ks _ (RowI.lit3 w 1 (-5) 0 17 1 2 25 0 0) (HE.out.below G)).mono ?_; rintro e w1 ⟨rfl, hb⟩
  replace G := keep_below G hb; clear hb
  go_wp2_with fail
  refine (C1.out _ (HE.out.below G)).mono ?_; rintro e w2 ⟨a, n, c, rfl, hR, hb⟩
  replace G := keep_below G hb; clear hb
  have HR := Lib.hid hR
  clear hR
  obtain rfl : n = 2 := HR.out.1
  go_wp2_with fail
  refine (C2.out _ (HE.out.below G)).mono ?_; rintro e w3 ⟨a3, n3, c3, rfl, hR, hb⟩
  replace G := keep_below G hb; replace HR := Lib.hid (HR.out.below hb); clear hb hR
  go_wp2_with fail
  refine (C3.out _ (HE.out.below G)).mono ?_; rintro e w4 ⟨a4, n4, c4, rfl, hR, hb⟩
  replace G := keep_below G hb; replace HR := Lib.hid (HR.out.below hb); clear hb hR
  go_wp2_with fail
  refine (C4.out _ (HE.out.below G)).mono ?_; rintro e w5 ⟨a5, n5, c5, rfl, hR, hb⟩
  replace G := keep_below G hb; replace HR := Lib.hid (HR.out.below hb); clear hb hR
  go_wp2_with fail
  refine (C5.out _ (HE.out.below G)).mono ?_; rintro e w6 ⟨rfl, hb⟩
  replace G := keep_below G hb; replace HR := Lib.hid (HR.out.below hb); clear hb
  go_wp2_with fail
  refine (C6.out _ (HE.out.below G)).mono ?_; rintro e w7 ⟨rfl, hb⟩
  replace G := keep_below G hb; replace HR := Lib.hid (HR.out.below hb); clear hb
  clear C1 C2 C3 C4 C5 C6
  go_wp2_with fail
  replace G := keep_below G (below_alloc w7 (.cells #[.int .i64 1, .int .i64 (-5), .int .i64 0, .int .i64 25, .int .i64 0, .int .i64 0] 24))
  replace HR := Lib.hid (HR.out.below (below_alloc w7 (.cells #[.int .i64 1, .int .i64 (-5), .int .i64 0, .int .i64 25, .int .i64 0, .int .i64 0] 24)))
  refine (sameR_at (r := true) _ (by decide +kernel) HR.out (RowI.lit2 w7 1 (-5) 0 25 0 0) (by decide) (by decide)).mono ?_; rintro e w8 ⟨rfl, hb⟩
  replace G := keep_below G hb; clear hb HR
  go_wp2_with fail
  refine (line_at (s := ⟨#[68, 85, 80, 10]⟩) (fit_three _ _ (by decide) (by decide) _ (by decide)) kl4 _ (HE.out.below G)).mono ?_; rintro e w9 ⟨rfl, hb⟩
  replace G := keep_below G hb; clear hb
  go_wp2_with fail
  refine (line_at (s := ⟨#[]⟩) (fit_three _ _ (by decide) (by decide) _ (by decide)) kl5 _ (HE.out.below G)).mono ?_; rintro e w10 ⟨rfl, hb⟩
  replace G := keep_below G hb; clear hb
  go_wp2
  go_ret
  exact ⟨rfl, G⟩
end Go.Proofs.YtofmlodfhdjjiaaDoor
