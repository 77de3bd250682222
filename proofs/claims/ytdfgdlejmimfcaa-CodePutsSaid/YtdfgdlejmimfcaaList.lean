/- What is proved here: contracts of code.numbers and code.GetList. Conditions: the string has at most a million bytes. -/
import Derived.Test.YtdfgdlejmimfcaaRow
namespace Go.Proofs.Ytdfgdlejmimfcaa
open Go.ChangeShapes Go.WideShapes Go.RowKit

/-- The numbers that stand one behind the other: they, the place behind them, what is wrong. -/
def nums (l : List UInt8) : Nat → List Int → Int → List Int × Int × Int
  | 0, out, p => (out, p, 0)
  | k + 1, out, p => if gE l p = 0 then nums l k (out ++ [gN l p]) (gT l p) else ([], 0, gE l p)
theorem nums_zero (l : List UInt8) (out : List Int) (p : Int) : nums l 0 out p = (out, p, 0) := rfl
theorem nums_ok {l : List UInt8} {k : Nat} {out : List Int} {p : Int} (h : gE l p = 0) : nums l (k + 1) out p = nums l k (out ++ [gN l p]) (gT l p) := by rw [nums, if_pos h]
theorem nums_err {l : List UInt8} {k : Nat} {out : List Int} {p : Int} (h : gE l p ≠ 0) : nums l (k + 1) out p = ([], 0, gE l p) := by rw [nums, if_neg h]
/-- The list that stands at a place, or what is wrong. -/
def getL (l : List UInt8) (p most : Int) : List Int × Int × Int :=
  if most < 0 then ([], 0, 1) else if gE l p ≠ 0 then ([], 0, gE l p) else if gN l p < 0 then ([], 0, 3) else if most < gN l p then ([], 0, 4) else nums l (gN l p).toNat [] (gT l p)

/-- What is got is farther on, and in the row. -/
theorem g_ok {l : List UInt8} {p : Int} (h : gE l p = 0) : 0 ≤ p ∧ p < gT l p ∧ gT l p ≤ l.length ∧ Fits (gN l p) := by
  by_cases ho : p < 0 ∨ (l.length : Int) < p
  · have := (g_out ho).2.2; omega
  · obtain ⟨k, rfl⟩ : ∃ k : Nat, p = k := ⟨p.toNat, by omega⟩
    obtain ⟨u, m, e, hs⟩ : ∃ u m e, scan 0 0 (l.drop k) = (u, m, e) := ⟨_, _, _, rfl⟩
    obtain ⟨h1, h2, h3⟩ := g_in (by omega) hs
    have he : e = 0 := by omega
    subst he
    obtain ⟨hu, ⟨r, hr⟩, hm⟩ := scan_ok hs
    have hl := congrArg List.length hr
    simp only [List.length_drop, List.length_append] at hl
    have hp := enc_pos u
    rw [h1, h2, if_pos rfl, if_pos rfl]
    exact ⟨by omega, by omega, by omega, unturn_fits hu⟩

/-- What numbers and GetList leave. -/
def GotL (r : List Int × Int × Int) (w : World) (e : Ending) (w' : World) : Prop :=
  ∃ a n c, e = .returned (.tuple #[.slice a n c, .int .i64 r.2.1, .int .i64 r.2.2]) ∧ Row w' a n r.1 ∧ Below w.heap.size w w'
theorem int_info : (Try.prog.info? 3).map (fun i => (i.zero, i.size, i.bytes)) = some (some (.int .i64 0), 1, 8) := by kernel_rfl

set_option maxHeartbeats 1000000 in
set_option maxRecDepth 100000 in
theorem numbers_any (s : ByteArray) (p : Int) (C : Nat) (w : World) (hs : s.size ≤ 1000000) (hp0 : 0 ≤ p) (hp1 : p ≤ s.size) (hC : C ≤ 9223372036854775807) :
    Calls Try.prog 28 #[.string s, .int .i64 p, .int .i64 C] w (GotL (nums s.data.toList C [] p) w) := by
  obtain ⟨i0, hi, hz0, hz1, hz2⟩ := info_parts int_info
  have hsm : s.size ≤ maxLen := by unfold maxLen; omega
  go_enter Try.func28, Try.ntmps28
  go_wp2
  go_loopw [1, 9, 14] (fun at_ v i wr => ∃ (k : Nat) (out : List Int) (q : Int), k ≤ C ∧ i = .int .i64 k ∧ at_ = .int .i64 q ∧ 0 ≤ q ∧ q ≤ s.size ∧ (out.length : Int) ≤ q ∧ Hid (nums s.data.toList C [] p = nums s.data.toList (C - k) out q) ∧
      wr.ownsRow w.heap.size 3 1 v out.length (out.map (Value.int .i64)) ∧ Below w.heap.size w wr)
    (fun _ _ i _ => C - (intOf i).toNat)
  case atStart => exact ⟨0, [], p, by omega, rfl, rfl, hp0, hp1, by simpa using hp0, rfl, World.ownsRow_nil _ _ _ _, Below.refl _ _⟩
  case round =>
    obtain ⟨k, out, q, hk, rfl, rfl, hq0, hq1, hol, HS, hown, hbl⟩ := hrel
    have hbs := hbl.size
    by_cases hlt : k < C
    · have hlen : (s.data.toList.length : Int) = s.size := by simp
      have hck : C - k = (C - (k + 1)) + 1 := by omega
      have cG := get_any s q hsm
      by_cases he : gE s.data.toList q = 0
      · obtain ⟨_, hg1, hg2, _⟩ := g_ok he
        have HS2 : Hid (nums s.data.toList C [] p = nums s.data.toList (C - (k + 1)) (out ++ [gN s.data.toList q]) (gT s.data.toList q)) := by
          show _ = _
          rw [HS.out, hck, nums_ok he]
        rw [he] at cG
        rw [hlen] at hg2
        obtain ⟨N, hN⟩ : ∃ N, N = gN s.data.toList q := ⟨_, rfl⟩
        obtain ⟨T, hT⟩ : ∃ T, T = gT s.data.toList q := ⟨_, rfl⟩
        rw [← hN, ← hT] at cG HS2
        rw [← hT] at hg1 hg2
        have HG := Lib.hid cG
        clear cG hN hT hck hlen he
        go_wp2_with (first
          | (go_at_call 16; refine (HG.out _).mono ?_; rintro e w' ⟨rfl, rfl⟩)
          | (at_builtin; refine wpList_append_own _ rfl _ _ 22 rfl w.heap.size 3 i0 (.int .i64 0) 1 8 Try.underlying22 hi hz0 hz1 hz2 rfl (by decide) _ _ _ rfl (hown.alloc _) ⟨wr.heap.size, 0, none⟩ 1 1 [.int .i64 N] rfl rfl ?c1 ?c2 ?c3 ?c4 ?c5 ?_))
        case c1 =>
          intro j t hj
          match j, hj with
          | 0, hj => simp at hj; subst hj; simp [Addr.add]
        case c2 => intro t ht; simp at ht; subst ht; rfl
        case c3 => unfold maxLen; omega
        case c4 => omega
        case c5 => simp; omega
        · intro v' w1 hown' hgrow _
          have hb1 : Below w.heap.size w w1 := (hbl.alloc (by omega) _).grown hgrow (by simp; omega) (fun g hg => (hown.lt g hg).1)
          have hown2 : w1.ownsRow w.heap.size 3 1 v' (out ++ [N]).length ((out ++ [N]).map (Value.int .i64)) := by
            rw [List.map_append, List.length_append]; exact hown'
          clear hown' hgrow hbl hown
          go_wp2
          go_roundw
          case rel => exact ⟨k + 1, out ++ [N], T, by omega, by go_num, rfl, by omega, hg2, by simp; omega, HS2, hown2, hb1⟩
          case measure => simp [intOf]; omega
      · have HS2 : Hid (nums s.data.toList C [] p = ([], 0, gE s.data.toList q)) := by
          show _ = _
          rw [HS.out, hck, nums_err he]
        obtain ⟨E, hE⟩ : ∃ E, E = gE s.data.toList q := ⟨_, rfl⟩
        rw [← hE] at cG HS2 he
        have hE1 : (E != 0) = true := by simpa using he
        have HG := Lib.hid cG
        clear cG hE hck hlen he
        go_wp2_with (first
          | (go_at_call 16; refine (HG.out _).mono ?_; rintro e w' ⟨rfl, rfl⟩))
        go_ret3
        rw [HS2.out]
        exact ⟨none, 0, 0, rfl, Row.nil _ _, hbl⟩
    · have HS2 : Hid (nums s.data.toList C [] p = (out, q, 0)) := by
        show _ = _
        rw [HS.out, show C - k = 0 by omega, nums_zero]
      obtain ⟨a, n, c, rfl, hR⟩ := Row.own hown
      go_wp2
      go_ret3
      rw [HS2.out]
      exact ⟨a, n, c, rfl, hR, hbl⟩

theorem getL_low {l : List UInt8} {p most : Int} (h : most < 0) : getL l p most = ([], 0, 1) := by unfold getL; rw [if_pos h]
theorem getL_err {l : List UInt8} {p most : Int} (h : 0 ≤ most) (he : gE l p ≠ 0) : getL l p most = ([], 0, gE l p) := by unfold getL; rw [if_neg (by omega), if_pos he]
theorem getL_form {l : List UInt8} {p most : Int} (h : 0 ≤ most) (he : gE l p = 0) (hn : gN l p < 0) : getL l p most = ([], 0, 3) := by unfold getL; rw [if_neg (by omega), if_neg (by omega), if_pos hn]
theorem getL_big {l : List UInt8} {p most : Int} (h : 0 ≤ most) (he : gE l p = 0) (hn : 0 ≤ gN l p) (hb : most < gN l p) : getL l p most = ([], 0, 4) := by
  unfold getL; rw [if_neg (by omega), if_neg (by omega), if_neg (by omega), if_pos hb]
theorem getL_ok {l : List UInt8} {p most : Int} (h : 0 ≤ most) (he : gE l p = 0) (hn : 0 ≤ gN l p) (hb : gN l p ≤ most) : getL l p most = nums l (gN l p).toNat [] (gT l p) := by
  unfold getL; rw [if_neg (by omega), if_neg (by omega), if_neg (by omega), if_neg (by omega)]

set_option maxHeartbeats 1000000 in
set_option maxRecDepth 100000 in
theorem getList_any (s : ByteArray) (p most : Int) (w : World) (hs : s.size ≤ 1000000) :
    Calls Try.prog 18 #[.string s, .int .i64 p, .int .i64 most] w (GotL (getL s.data.toList p most) w) := by
  have hsm : s.size ≤ maxLen := by unfold maxLen; omega
  by_cases h0 : most < 0
  · have H := Lib.hid (getL_low (l := s.data.toList) (p := p) h0)
    go_enter Try.func18, Try.ntmps18
    go_wp2
    go_ret3
    rw [H.out]
    exact ⟨none, 0, 0, rfl, Row.nil _ _, Below.refl _ _⟩
  have h0' : 0 ≤ most := by omega
  clear h0
  have cG := get_any s p hsm
  obtain ⟨N, hN⟩ : ∃ N, N = gN s.data.toList p := ⟨_, rfl⟩
  obtain ⟨T, hT⟩ : ∃ T, T = gT s.data.toList p := ⟨_, rfl⟩
  obtain ⟨E, hE⟩ : ∃ E, E = gE s.data.toList p := ⟨_, rfl⟩
  rw [← hN, ← hT, ← hE] at cG
  by_cases he : E = 0
  · subst he
    obtain ⟨_, hg1, hg2, hg3⟩ := g_ok hE.symm
    have hlen : (s.data.toList.length : Int) = s.size := by simp
    rw [← hT] at hg1 hg2
    rw [← hN] at hg3
    rw [hlen] at hg2
    clear hlen
    have HG := Lib.hid cG
    clear cG
    by_cases h1 : N < 0
    · have H := Lib.hid (getL_form h0' hE.symm (by rw [← hN]; exact h1))
      clear hN hT hE
      go_enter Try.func18, Try.ntmps18
      go_wp2_with (go_at_call 16; refine (HG.out _).mono ?_; rintro e w' ⟨rfl, rfl⟩)
      go_ret3
      rw [H.out]
      exact ⟨none, 0, 0, rfl, Row.nil _ _, Below.refl _ _⟩
    by_cases h2 : most < N
    · have H := Lib.hid (getL_big h0' hE.symm (by rw [← hN]; omega) (by rw [← hN]; exact h2))
      clear hN hT hE
      go_enter Try.func18, Try.ntmps18
      go_wp2_with (go_at_call 16; refine (HG.out _).mono ?_; rintro e w' ⟨rfl, rfl⟩)
      go_ret3
      rw [H.out]
      exact ⟨none, 0, 0, rfl, Row.nil _ _, Below.refl _ _⟩
    obtain ⟨C, rfl⟩ : ∃ C : Nat, N = C := ⟨N.toNat, by omega⟩
    have H := Lib.hid (getL_ok h0' hE.symm (by rw [← hN]; omega) (by rw [← hN]; omega))
    rw [← hN, ← hT, Int.toNat_natCast] at H
    have hC : C ≤ 9223372036854775807 := by have := hg3.2; omega
    clear hN hT hE hg3
    rw [H.out]
    have HM := Lib.hid (fun w => numbers_any s T C w hs (by omega) hg2 hC)
    clear H
    go_enter Try.func18, Try.ntmps18
    go_wp2_with (first
      | (go_at_call 16; refine (HG.out _).mono ?_; rintro e w' ⟨rfl, rfl⟩)
      | (go_at_call 28; refine (HM.out _).mono ?_; rintro e w' ⟨a, n, c, rfl, hR, hb⟩))
    go_ret3
    exact ⟨a, n, c, rfl, hR, hb⟩
  · have H := Lib.hid (getL_err h0' (by rw [← hE]; exact he))
    rw [← hE] at H
    have hE1 : (E != 0) = true := by simpa using he
    have HG := Lib.hid cG
    clear cG hN hT hE he
    go_enter Try.func18, Try.ntmps18
    go_wp2_with (go_at_call 16; refine (HG.out _).mono ?_; rintro e w' ⟨rfl, rfl⟩)
    go_ret3
    rw [H.out]
    exact ⟨none, 0, 0, rfl, Row.nil _ _, Below.refl _ _⟩
end Go.Proofs.Ytdfgdlejmimfcaa
