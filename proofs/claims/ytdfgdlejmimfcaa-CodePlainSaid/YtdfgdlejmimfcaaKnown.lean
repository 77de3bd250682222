/- What is proved here: the fixed calls of 'known' come out as asked. Conditions: none. -/
import Derived.Test.YtdfgdlejmimfcaaList
namespace Go.Proofs.Ytdfgdlejmimfcaa
open Go.ChangeShapes Go.WideShapes Go.RowKit

theorem fits_small {n : Int} (h1 : -1000 ≤ n) (h2 : n ≤ 1000) : Fits n := ⟨by omega, by omega⟩
theorem get_at {s : ByteArray} {p N T E : Int} (hs : s.size ≤ 1000000) (h : (gN s.data.toList p, gT s.data.toList p, gE s.data.toList p) = (N, T, E)) (w : World) :
    Calls Try.prog 16 #[.string s, .int .i64 p] w fun e w' => e = .returned (.tuple #[.int .i64 N, .int .i64 T, .int .i64 E]) ∧ w = w' := by
  have := get_any s p (by unfold maxLen; omega) w
  injection h with h1 h2
  injection h2 with h2 h3
  rw [h1, h2, h3] at this
  exact this
theorem getList_at {s : ByteArray} {p m : Int} {r : List Int × Int × Int} (hs : s.size ≤ 1000000) (h : getL s.data.toList p m = r) (w : World) :
    Calls Try.prog 18 #[.string s, .int .i64 p, .int .i64 m] w (GotL r w) := by
  have := getList_any s p m w hs
  rw [h] at this; exact this
theorem put_at {n : Int} {b : ByteArray} (hf : Fits n) (h : enc (turn n) = b.data.toList) (w : World) :
    Calls Try.prog 11 #[.int .i64 n] w fun e w' => e = .returned (.string b) ∧ Below w.heap.size w w' := by
  have := put_any n hf w
  rw [h, bs_of] at this; exact this
theorem enc0 : enc (turn 0) = [0] := by show enc 0 = _; rw [enc_lo (by decide)]; rfl
theorem enc1 : enc (turn (-1)) = [1] := by show enc 1 = _; rw [enc_lo (by decide)]; rfl
theorem enc1' : enc (turn 1) = [2] := by show enc 2 = _; rw [enc_lo (by decide)]; rfl
theorem enc2' : enc (turn 2) = [4] := by show enc 4 = _; rw [enc_lo (by decide)]; rfl
theorem enc64 : enc (turn 64) = [128, 1] := by show enc 128 = _; rw [enc_hi (by decide), enc_lo (by decide)]; rfl
theorem encL2 : encL [-1, 1] = [4, 1, 2] := by
  show enc (turn 2) ++ (enc (turn (-1)) ++ (enc (turn 1) ++ [])) = _
  rw [enc1, enc1', enc2']; rfl
theorem sz64 : (sz 64 : Int) = 2 := by unfold sz; rw [enc64]; rfl

theorem Row.lit2 (w : World) (x y : Int) : Row (w.alloc (.cells #[.int .i64 x, .int .i64 y] 3)) (some ⟨w.heap.size, 0, none⟩) 2 [x, y] := by
  refine ⟨rfl, fun _ => ⟨w.heap.size, 0, rfl, by simp, fun i hi => ?_⟩⟩
  rw [World.cell?_alloc_mark]
  match i, hi with
  | 0, _ => rfl
  | 1, _ => rfl
theorem fits2 : FitsL [-1, 1] := by
  intro i
  match i with
  | 0 => exact fits_small (by decide) (by decide)
  | 1 => exact fits_small (by decide) (by decide)
  | _ + 2 => exact fits_small (n := 0) (by decide) (by decide)
set_option maxHeartbeats 2000000 in
set_option maxRecDepth 100000 in
theorem known_any (w : World) : Calls Try.prog 10 #[] w fun e w' => e = .returned (.bool true) ∧ Below w.heap.size w w' := by
  have g1 := Lib.hid (get_at (s := ⟨#[120, 128, 1, 121]⟩) (p := 1) (by decide) (show _ = (64, 3, 0) by decide +kernel))
  have g2 := Lib.hid (get_at (s := ⟨#[128]⟩) (p := 0) (by decide) (show _ = (0, 0, 2) by decide +kernel))
  have g3 := Lib.hid (get_at (s := ⟨#[128, 0]⟩) (p := 0) (by decide) (show _ = (0, 0, 3) by decide +kernel))
  have g4 := Lib.hid (get_at (s := ⟨#[]⟩) (p := 1) (by decide) (show _ = (0, 0, 1) by decide +kernel))
  have l1 := Lib.hid (getList_at (s := ⟨#[4, 1, 2, 122]⟩) (p := 0) (m := 5) (by decide) (show _ = ([-1, 1], 3, 0) by decide +kernel))
  have l2 := Lib.hid (getList_at (s := ⟨#[4, 1, 2, 122]⟩) (p := 0) (m := 1) (by decide) (show _ = ([], 0, 4) by decide +kernel))
  have l3 := Lib.hid (getList_at (s := ⟨#[1]⟩) (p := 0) (m := 1) (by decide) (show _ = ([], 0, 3) by decide +kernel))
  have p1 := Lib.hid (put_at (n := 0) (b := ⟨#[0]⟩) (fits_small (by decide) (by decide)) enc0)
  have p2 := Lib.hid (put_at (n := -1) (b := ⟨#[1]⟩) (fits_small (by decide) (by decide)) enc1)
  have p3 := Lib.hid (put_at (n := 64) (b := ⟨#[128, 1]⟩) (fits_small (by decide) (by decide)) enc64)
  have z1 := Lib.hid (size_any 64 (fits_small (by decide) (by decide)))
  rw [sz64] at z1
  have G := Below.refl w.heap.size w
  go_enter Try.func10, Try.ntmps10
  go_wp2_with fail
  refine (g1.out _).mono ?_; rintro e w' ⟨rfl, rfl⟩
  go_wp2_with fail
  refine (g2.out _).mono ?_; rintro e w' ⟨rfl, rfl⟩
  go_wp2_with fail
  refine (g3.out _).mono ?_; rintro e w' ⟨rfl, rfl⟩
  go_wp2_with fail
  refine (g4.out _).mono ?_; rintro e w' ⟨rfl, rfl⟩
  go_wp2_with fail
  refine (l1.out _).mono ?_; rintro e w1 ⟨a, n, c, rfl, hR, hb⟩
  replace G := G.trans (hb.mono G.size); clear hb
  go_wp2_with fail
  refine (l2.out _).mono ?_; rintro e w2 ⟨_, _, _, rfl, _, hb⟩
  replace G := G.trans (hb.mono G.size); replace hR := hR.below hb; clear hb
  go_wp2_with fail
  refine (l3.out _).mono ?_; rintro e w3 ⟨_, _, _, rfl, _, hb⟩
  replace G := G.trans (hb.mono G.size); replace hR := hR.below hb; clear hb
  go_wp2_with fail
  refine (p1.out _).mono ?_; rintro e w4 ⟨rfl, hb⟩
  replace G := G.trans (hb.mono G.size); replace hR := hR.below hb; clear hb
  go_wp2_with fail
  refine (p2.out _).mono ?_; rintro e w5 ⟨rfl, hb⟩
  replace G := G.trans (hb.mono G.size); replace hR := hR.below hb; clear hb
  go_wp2_with fail
  refine (p3.out _).mono ?_; rintro e w6 ⟨rfl, hb⟩
  replace G := G.trans (hb.mono G.size); replace hR := hR.below hb; clear hb
  go_wp2_with fail
  refine (z1.out _).mono ?_; rintro e w' ⟨rfl, rfl⟩
  go_wp2_with fail
  have hb6 : Below w6.heap.size w6 (w6.alloc (.cells #[.int .i64 (-1), .int .i64 1] 3)) := (Below.refl _ _).alloc (Nat.le_refl _) _
  refine (same_any _ _ _ _ _ _ [-1, 1] _ (hR.below hb6) (Row.lit2 w6 (-1) 1) (by have := hR.1; simp at this; omega)).mono ?_; rintro e w7 ⟨rfl, hb⟩
  replace G := (G.trans (hb6.mono G.size)).trans (hb.mono (Nat.le_trans G.size hb6.size)); clear hb hb6 hR
  go_wp2_with fail
  have hb7 : Below w7.heap.size w7 (w7.alloc (.cells #[.int .i64 (-1), .int .i64 1] 3)) := (Below.refl _ _).alloc (Nat.le_refl _) _
  refine (list_any _ _ _ [-1, 1] _ (Row.lit2 w7 (-1) 1) fits2 (by decide)).mono ?_; rintro e w8 ⟨rfl, hb⟩
  replace G := (G.trans (hb7.mono G.size)).trans (hb.mono (Nat.le_trans G.size hb7.size)); clear hb hb7
  rw [encL2, show bs [4, 1, 2] = ⟨#[4, 1, 2]⟩ from rfl]
  go_wp2
  go_ret
  exact ⟨rfl, G⟩
end Go.Proofs.Ytdfgdlejmimfcaa
