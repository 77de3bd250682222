/- What is proved here: the fixed calls of 'known' come out as asked. Condition: the tables of names hold what their initialisers lay ('Nms'). -/
import Derived.Test.YtmahpmoaicjcjaaDoorRead
namespace Go.Proofs.YtmahpmoaicjcjaaDoor
open Go.ChangeShapes Go.WideShapes Go.RowKit

theorem decode_at {s : ByteArray} {p : Int} {r : (Int × Int × Int) × Int × Int} (hs : s.size ≤ 1000000) (h : dec s.data.toList p = r) (w : World) (hn : Nms w) :
    Calls Tryd.prog 19 #[.string s, .int .i64 p] w (Got r w) := by
  have := decode_any s p hs w hn
  rw [h] at this; exact this
theorem read_at {s : ByteArray} {r : List (Int × Int × Int) × Int} (hs : s.size ≤ 1000000) (h : rd s.data.toList = r) (w : World) (hn : Nms w) :
    Calls Tryd.prog 21 #[.string s] w (GotR r w) := by
  have := read_any s hs w hn
  rw [h] at this; exact this
theorem encode_at {o a b : Int} {s : ByteArray} (hf : FitsI (o, a, b)) (h : encI (o, a, b) = s.data.toList) (w : World) (hn : Nms w) :
    Calls Tryd.prog 12 #[.agg #[.int .i64 o, .int .i64 a, .int .i64 b]] w fun e w' => e = .returned (.string s) ∧ Below w.heap.size w w' := by
  have := encode_any o a b w hn hf
  rw [h, bs_of] at this; exact this
theorem code_at {a : Option Addr} {n c : Nat} {L : List (Int × Int × Int)} {s : ByteArray} (hf : AllFitI L) (h : cod L = s.data.toList) (w : World) (hr : RowI w a n L) (hn : Nms w) :
    Calls Tryd.prog 24 #[.slice a n c] w fun e w' => e = .returned (.string s) ∧ Below w.heap.size w w' := by
  have := code_any a n c L w hr hf hn
  rw [h, bs_of] at this; exact this
theorem right_at {o a b : Int} {r : Bool} (h : right (o, a, b) = r) (w : World) (hn : Nms w) :
    Calls Tryd.prog 10 #[.agg #[.int .i64 o, .int .i64 a, .int .i64 b]] w fun e w' => e = .returned (.bool r) ∧ Below w.heap.size w w' := by
  have := right_any o a b w hn
  rw [h] at this; exact this
theorem same_at {a b : Option Addr} {n m c d : Nat} {L M : List (Int × Int × Int)} {r : Bool} (w : World) (h : decide (L = M) = r) (ha : RowI w a n L) (hb : RowI w b m M) (hn : n ≤ 1000000) (hm : m ≤ 1000000) :
    Calls Tryd.prog 25 #[.slice a n c, .slice b m d] w fun e w' => e = .returned (.bool r) ∧ Below w.heap.size w w' := by
  have := same_any a b n m c d L M w ha hb hn hm
  rw [h] at this; exact this
theorem sameR_at {a b : Option Addr} {n m c d : Nat} {L M : List (Int × Int × Int)} {r : Bool} (w : World) (h : decide (L = M) = r) (ha : RowI w a n L) (hb : RowI w b m M) (hn : n ≤ 1000000) (hm : m ≤ 1000000) :
    Calls Tryd.prog 23 #[.slice a n c, .slice b m d] w fun e w' => e = .returned (.bool r) ∧ Below w.heap.size w w' := by
  have := sameR_any a b n m c d L M w ha hb hn hm
  rw [h] at this; exact this
theorem name_at {o : Int} {s : ByteArray} (h : onm o = s) (w : World) (hn : Nms w) : Calls Tryd.prog 14 #[.int .i64 o] w fun e w' => e = .returned (.string s) ∧ w = w' := by
  have := name_any o w hn
  rw [h] at this; exact this
theorem args_at {o n : Int} (h : argsOf o = n) (w : World) : Calls Tryd.prog 16 #[.int .i64 o] w fun e w' => e = .returned (.int .i64 n) ∧ w = w' := by
  have := args_any o w
  rw [h] at this; exact this
theorem dk1 : dec [120, 1, 1] 1 = ((1, -1, 0), 3, 0) := by decide +kernel
theorem dk2 : dec [0] 0 = ((0, 0, 0), 0, 6) := by decide +kernel
theorem dk3 : dec [1] 0 = ((0, 0, 0), 0, 2) := by decide +kernel
theorem dk4 : dec [5, 0] 0 = ((0, 0, 0), 0, 6) := by decide +kernel
theorem rk : rd [1, 14, 25] = ([(1, 7, 0), (25, 0, 0)], 0) := by decide +kernel
theorem ck : cod [(1, 7, 0), (25, 0, 0)] = [1, 14, 25] := by
  obtain ⟨h1, h2, _, h4⟩ := rd_back rk
  rw [cod_right h1 h2, h4]
theorem ek : encI (1, -1, 0) = [1, 1] := by
  rw [encI_right (by decide +kernel)]
  have : tailI (1, -1, 0) = enc (turn (-1)) := by unfold tailI; rw [if_neg (by decide +kernel), if_pos (by decide +kernel)]
  rw [this, enc1]; rfl
theorem RowI.lit2 (w : World) (o a b p c d : Int) : RowI (w.alloc (.cells #[.int .i64 o, .int .i64 a, .int .i64 b, .int .i64 p, .int .i64 c, .int .i64 d] 23)) (some ⟨w.heap.size, 0, none⟩) 2 [(o, a, b), (p, c, d)] := by
  refine ⟨rfl, fun _ => ⟨w.heap.size, 0, rfl, by simp, fun i hi => ?_⟩⟩
  match i, hi with
  | 0, _ => exact ⟨by simp, by simp, by simp⟩
  | 1, _ => exact ⟨by simp, by simp, by simp⟩
theorem build_at0 (o : Int) (w : World) : (Instr.build 23 #[(0, .int .i64 o)]).run Tryd.prog w = .ok (.agg #[.int .i64 o, .int .i64 0, .int .i64 0]) w := run_build w 23 _ _ (by kernel_rfl)
theorem build_at1 (o a : Int) (w : World) : (Instr.build 23 #[(0, .int .i64 o), (1, .int .i64 a)]).run Tryd.prog w = .ok (.agg #[.int .i64 o, .int .i64 a, .int .i64 0]) w := run_build w 23 _ _ (by kernel_rfl)

/-- An instruction lies in a block of its own. -/
def Ins3 (w : World) (g : Nat) (i : Int × Int × Int) : Prop :=
  g < w.heap.size ∧ w.cell? ⟨g, 0, none⟩ = some (.int .i64 i.1) ∧ w.cell? ⟨g, 1, none⟩ = some (.int .i64 i.2.1) ∧ w.cell? ⟨g, 2, none⟩ = some (.int .i64 i.2.2)
theorem Ins3.below {w w' : World} {g : Nat} {i : Int × Int × Int} (h : Ins3 w g i) (hb : Below w.heap.size w w') : Ins3 w' g i :=
  ⟨Nat.lt_of_lt_of_le h.1 hb.size, (hb.cell (p := ⟨g, 0, none⟩) h.1).trans h.2.1, (hb.cell (p := ⟨g, 1, none⟩) h.1).trans h.2.2.1, (hb.cell (p := ⟨g, 2, none⟩) h.1).trans h.2.2.2⟩
theorem Ins3.new (w : World) (o a b : Int) : Ins3 (w.alloc (.cells #[.int .i64 o, .int .i64 a, .int .i64 b] 23)) w.heap.size (o, a, b) :=
  ⟨by simp, by simp, by simp, by simp⟩
/-- A new block changes nothing that was there. -/
theorem below_alloc (w : World) (o : Obj) : Below w.heap.size w (w.alloc o) := (Below.refl _ _).alloc (Nat.le_refl _) o

set_option maxHeartbeats 4000000 in
set_option maxRecDepth 100000 in
theorem known_any (w : World) (hn : Nms w) : Calls Tryd.prog 18 #[] w fun e w' => e = .returned (.bool true) ∧ Below w.heap.size w w' := by
  have HN := Lib.hid hn
  have b0 := build_at0
  have b1 := build_at1
  have C1 : Hid (∀ W, Nms W → Calls Tryd.prog 19 #[.string ⟨#[120, 1, 1]⟩, .int .i64 1] W (Got ((1, -1, 0), 3, 0) W)) := fun W h => decode_at (by decide) dk1 W h
  have C2 : Hid (∀ W, Nms W → Calls Tryd.prog 19 #[.string ⟨#[0]⟩, .int .i64 0] W (Got ((0, 0, 0), 0, 6) W)) := fun W h => decode_at (by decide) dk2 W h
  have C3 : Hid (∀ W, Nms W → Calls Tryd.prog 19 #[.string ⟨#[1]⟩, .int .i64 0] W (Got ((0, 0, 0), 0, 2) W)) := fun W h => decode_at (by decide) dk3 W h
  have C4 : Hid (∀ W, Nms W → Calls Tryd.prog 19 #[.string ⟨#[5, 0]⟩, .int .i64 0] W (Got ((0, 0, 0), 0, 6) W)) := fun W h => decode_at (by decide) dk4 W h
  have C5 : Hid (∀ W, Nms W → Calls Tryd.prog 21 #[.string ⟨#[1, 14, 25]⟩] W (GotR ([(1, 7, 0), (25, 0, 0)], 0) W)) := fun W h => read_at (by decide) rk W h
  clear hn
  have G := Below.refl w.heap.size w
  go_enter Tryd.func18, Tryd.ntmps18
  go_wp2_with fail
  refine (C1.out _ (HN.out.below G)).mono ?_; rintro e w1 ⟨rfl, hb⟩
  replace G := G.trans (hb.mono G.size); clear hb
  replace G := G.trans ((below_alloc w1 (.cells #[.int .i64 1, .int .i64 (-1), .int .i64 0] 23)).mono G.size)
  have HI := Lib.hid (Ins3.new w1 1 (-1) 0)
  go_wp2_with fail
  refine (C2.out _ (HN.out.below G)).mono ?_; rintro e w2 ⟨rfl, hb⟩
  replace G := G.trans (hb.mono G.size); replace HI := Lib.hid (HI.out.below hb); clear hb
  replace G := G.trans ((below_alloc w2 (.cells #[.int .i64 0, .int .i64 0, .int .i64 0] 23)).mono G.size)
  replace HI := Lib.hid (HI.out.below (below_alloc w2 (.cells #[.int .i64 0, .int .i64 0, .int .i64 0] 23)))
  go_wp2_with fail
  refine (C3.out _ (HN.out.below G)).mono ?_; rintro e w3 ⟨rfl, hb⟩
  replace G := G.trans (hb.mono G.size); replace HI := Lib.hid (HI.out.below hb); clear hb
  replace G := G.trans ((below_alloc w3 (.cells #[.int .i64 0, .int .i64 0, .int .i64 0] 23)).mono G.size)
  replace HI := Lib.hid (HI.out.below (below_alloc w3 (.cells #[.int .i64 0, .int .i64 0, .int .i64 0] 23)))
  go_wp2_with fail
  refine (C4.out _ (HN.out.below G)).mono ?_; rintro e w4 ⟨rfl, hb⟩
  replace G := G.trans (hb.mono G.size); replace HI := Lib.hid (HI.out.below hb); clear hb
  replace G := G.trans ((below_alloc w4 (.cells #[.int .i64 0, .int .i64 0, .int .i64 0] 23)).mono G.size)
  replace HI := Lib.hid (HI.out.below (below_alloc w4 (.cells #[.int .i64 0, .int .i64 0, .int .i64 0] 23)))
  go_wp2_with fail
  refine (C5.out _ (HN.out.below G)).mono ?_; rintro e w5 ⟨a, n, c, rfl, hR, hb⟩
  replace G := G.trans (hb.mono G.size); replace HI := Lib.hid (HI.out.below hb); clear hb
  have HR := Lib.hid hR
  clear hR C1 C2 C3 C4 C5
  obtain rfl : n = 2 := HR.out.1
  go_wp2_with fail
  refine (encode_at ⟨fits_small (by decide) (by decide), fits_small (by decide) (by decide), fits0⟩ (s := ⟨#[1, 1]⟩) ek _ (HN.out.below G)).mono ?_; rintro e w6 ⟨rfl, hb⟩
  replace G := G.trans (hb.mono G.size); replace HI := Lib.hid (HI.out.below hb); replace HR := Lib.hid (HR.out.below hb); clear hb
  obtain ⟨j0, j1, j2, j3⟩ := HI.out
  simp only at j1 j2 j3
  clear HI
  go_wp2_with fail
  replace G := G.trans ((below_alloc w6 (.cells #[.int .i64 1, .int .i64 7, .int .i64 0, .int .i64 25, .int .i64 0, .int .i64 0] 23)).mono G.size)
  replace HR := Lib.hid (HR.out.below (below_alloc w6 (.cells #[.int .i64 1, .int .i64 7, .int .i64 0, .int .i64 25, .int .i64 0, .int .i64 0] 23)))
  clear j0 j1 j2 j3
  refine (sameR_at (r := true) _ (by decide +kernel) HR.out (RowI.lit2 w6 1 7 0 25 0 0) (by decide) (by decide)).mono ?_; rintro e w7 ⟨rfl, hb⟩
  replace G := G.trans (hb.mono G.size); replace HR := Lib.hid (HR.out.below hb); clear hb
  go_wp2_with fail
  refine (code_at (s := ⟨#[1, 14, 25]⟩) (rd_back rk).2.2.1 ck _ HR.out (HN.out.below G)).mono ?_; rintro e w8 ⟨rfl, hb⟩
  replace G := G.trans (hb.mono G.size); replace HR := Lib.hid (HR.out.below hb); clear hb
  go_wp2_with fail
  refine (right_at (r := true) (by decide +kernel) _ (HN.out.below G)).mono ?_; rintro e w9 ⟨rfl, hb⟩
  replace G := G.trans (hb.mono G.size); replace HR := Lib.hid (HR.out.below hb); clear hb
  go_wp2_with fail
  refine (right_at (r := false) (by decide +kernel) _ (HN.out.below G)).mono ?_; rintro e w10 ⟨rfl, hb⟩
  replace G := G.trans (hb.mono G.size); replace HR := Lib.hid (HR.out.below hb); clear hb
  go_wp2_with fail
  refine (name_at (s := ⟨#[85, 78, 76, 79, 67, 75]⟩) (by decide +kernel) _ (HN.out.below G)).mono ?_; rintro e w11 ⟨rfl, rfl⟩
  go_wp2_with fail
  refine (args_at (n := 2) (by decide +kernel) _).mono ?_; rintro e w11 ⟨rfl, rfl⟩
  go_wp2_with fail
  refine (args_at (n := -1) (by decide +kernel) _).mono ?_; rintro e w11 ⟨rfl, rfl⟩
  go_wp2_with fail
  refine (same_at (r := true) _ (by decide +kernel) HR.out HR.out (by decide) (by decide)).mono ?_; rintro e w12 ⟨rfl, hb⟩
  replace G := G.trans (hb.mono G.size); replace HR := Lib.hid (HR.out.below hb); clear hb
  go_wp2_with fail
  refine (same_at (r := false) _ (by decide +kernel) HR.out (RowI.nil _ _) (by decide) (by decide)).mono ?_; rintro e w13 ⟨rfl, hb⟩
  replace G := G.trans (hb.mono G.size); replace HR := Lib.hid (HR.out.below hb); clear hb
  go_wp2
  go_ret
  exact ⟨rfl, G⟩
end Go.Proofs.YtmahpmoaicjcjaaDoor
