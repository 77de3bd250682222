/- What is proved here: the walk of the law TimerLate. Conditions: numbers are within their kinds. -/
import Derived.Test.YtdhchfmefdlloaaKn
import Derived.Test.YtdhchfmefdlloaaPq
import Derived.Deep.CutBlock
import Derived.Deep.CutRange
import Derived.Outline
namespace Go.Proofs.Ytdhchfmefdlloaa
open Go.ChangeShapes Go.WideShapes Go.RowKit Go.Maps

/-- Two timers beside one another. -/
structure Two (w W : World) (b1 b2 : Nat) (p1 p2 : List Int) (k : Int) (L1 L2 : List Wt) (n : Nat) (Fa Fb : Nat → Prop) : Prop where
  t1 : Tim Fa W b1 p1 k L1 n
  t2 : Tim Fb W b2 p2 k L2 n
  f1 : ∀ g, Fa g → w.heap.size ≤ g
  f2 : ∀ g, Fb g → w.heap.size ≤ g
  off : ∀ g, Fa g → ¬ Fb g
  bel : Below w.heap.size w W
theorem Tim.mono {F : Nat → Prop} {w : World} {b : Nat} {pz : List Int} {now : Int} {L : List Wt} {n n' : Nat} (h : Tim F w b pz now L n) (hn : n ≤ n') : Tim F w b pz now L n' := by
  obtain ⟨mb, pv, M, h⟩ := h; exact ⟨mb, pv, M, h.mono hn⟩
/-- The first one has ticked, then the second one. -/
theorem Two.ticks {w W V1 V2 V3 V4 : World} {b1 b2 : Nat} {p1 p2 : List Int} {k k' : Int} {L1 L2 L1' L2' : List Wt} {n n1 n2 n' : Nat} {Fa Fb Fa' Fb' : Nat → Prop} (h : Two w W b1 b2 p1 p2 k L1 L2 n Fa Fb)
    (hb1 : Below W.heap.size W V1) (x1 : Trn Fa V1 V2) (t1 : Tim Fa' V2 b1 p1 k' L1' n1) (f1 : ∀ g, Fa' g → Fa g ∨ V1.heap.size ≤ g)
    (hb2 : Below V2.heap.size V2 V3) (x2 : Trn Fb V3 V4) (t2 : Tim Fb' V4 b2 p2 k' L2' n2) (f2 : ∀ g, Fb' g → Fb g ∨ V3.heap.size ≤ g) (hn1 : n1 ≤ n') (hn2 : n2 ≤ n') :
    Two w V4 b1 b2 p1 p2 k' L1' L2' n' Fa' Fb' := by
  have s1 := hb1.size
  have s2 := x1.size
  have s3 := hb2.size
  have s0 := h.bel.size
  have lta := t1.lt
  have ltb := h.t2.lt
  refine ⟨((t1.below hb2).trn x2 fun g h1 h2 => ?_).mono hn1, t2.mono hn2, fun g hg => ?_, fun g hg => ?_, fun g h1 h2 => ?_, ?_⟩
  · rcases f1 g h1 with h3 | h3
    · exact h.off g h3 h2
    · have := ltb g h2; omega
  · rcases f1 g hg with h3 | h3
    · exact h.f1 g h3
    · omega
  · rcases f2 g hg with h3 | h3
    · exact h.f2 g h3
    · omega
  · rcases f2 g h2 with h3 | h3
    · rcases f1 g h1 with h4 | h4
      · exact h.off g h4 h3
      · have := ltb g h3; omega
    · have := lta g h1; omega
  · exact (keep_below ((keep_below h.bel hb1).trans (x1.below (by omega) h.f1)) hb2).trans (x2.below (by omega) h.f2)
/-- The second one, when the first one has ticked. -/
theorem Two.mid {w W V1 V2 : World} {b1 b2 : Nat} {p1 p2 : List Int} {k : Int} {L1 L2 : List Wt} {n : Nat} {Fa Fb : Nat → Prop} (h : Two w W b1 b2 p1 p2 k L1 L2 n Fa Fb) (hb1 : Below W.heap.size W V1) (x1 : Trn Fa V1 V2) : Tim Fb V2 b2 p2 k L2 n :=
  (h.t2.below hb1).trn x1 fun g h1 h2 => h.off g h2 h1
theorem Two.news {w W0 W1 V W2 : World} {b1 b2 : Nat} {p1 p2 : List Int} {k : Int} {L1 L2 : List Wt} {n : Nat} {Fa Fb : Nat → Prop} (hb : Below w.heap.size w W0) (t1 : Tim Fa W1 b1 p1 k L1 n) (f1 : ∀ g, Fa g → W0.heap.size ≤ g) (h1 : Below W0.heap.size W0 W1)
    (hv : Below W1.heap.size W1 V) (t2 : Tim Fb W2 b2 p2 k L2 n) (f2 : ∀ g, Fb g → V.heap.size ≤ g) (h2 : Below V.heap.size V W2) : Two w W2 b1 b2 p1 p2 k L1 L2 n Fa Fb := by
  have s0 := hb.size
  have s1 := h1.size
  have s2 := hv.size
  refine ⟨t1.below (keep_below hv h2), t2, fun g hg => Nat.le_trans s0 (f1 g hg), fun g hg => by have := f2 g hg; omega, fun g ha hb => ?_, keep_below (keep_below (keep_below hb h1) hv) h2⟩
  have := t1.lt g ha
  have := f2 g hb
  omega
set_option maxHeartbeats 8000000 in
set_option maxRecDepth 100000 in
theorem late_walk (pe x y sl : Int) (w : World) (hx : 0 ≤ x ∧ x ≤ 255) (hy : 0 ≤ y ∧ y ≤ 255) (hsl : 0 ≤ sl ∧ sl ≤ 255) :
    Calls Try.prog 9 #[.int .i64 pe, .agg #[.int .u8 x, .int .u8 y], .int .u8 sl] w fun e w' => e = .returned (.bool true) ∧ Below w.heap.size w w' := by
  have hq1 := eqp_nil
  have KN := Lib.hid known_any
  have tk1 : True := trivial
  have tk2 : True := trivial
  have z0 := cells_new w #[.int .u8 x, .int .u8 y] 56 0 _ rfl
  have z1 := cells_new w #[.int .u8 x, .int .u8 y] 56 1 _ rfl
  by_cases hok : okPz [pe] = true
  · have hpe := (okPz_iff.1 hok).2 pe (by simp)
    obtain ⟨P, rfl⟩ : ∃ P : Nat, pe = (P : Int) := ⟨pe.toNat, by omega⟩
    have hP : 1 ≤ P := by omega
    have RL1 : Hid (Row ((w.alloc (.cells #[.int .u8 x, .int .u8 y] 56)).alloc (.cells #[.int .i64 (P : Int)] 3)) (some ⟨w.heap.size + 1, 0, none⟩) 1 [(P : Int)]) := by
      have h := lit_ints (w.alloc (.cells #[.int .u8 x, .int .u8 y] 56)) #[.int .i64 (P : Int)] [(P : Int)] 1 rfl rfl (by simp)
      have e1 : (w.alloc (.cells #[.int .u8 x, .int .u8 y] 56)).heap.size = w.heap.size + 1 := by simp
      rw [e1] at h
      exact h
    obtain ⟨j1, hj1⟩ : ∃ j : Nat, min x y = (j : Int) := ⟨(min x y).toNat, by omega⟩
    obtain ⟨j2, hj2⟩ : ∃ j : Nat, max x y = (j : Int) := ⟨(max x y).toNat, by omega⟩
    have hj12 : j1 ≤ j2 := by omega
    have hj255 : j2 ≤ 255 := by omega
    have HJ1 := Lib.hid hj1
    have HJ2 := Lib.hid hj2
    clear hj1 hj2
    go_enter Try.func9, Try.ntmps9
    go_upto_region 5 with (first
      | (go_at_call 11; have _t := tk1; refine (new_yes _ 1 1 [(P : Int)] _ RL1.out hok).mono ?_; rintro e w1 ⟨b1, F1, rfl, ht1, hF1, hb1⟩; have T1 := Lib.hid ht1; have HF1 := Lib.hid hF1; have B1 := Lib.hid hb1; have y0 := Lib.hid (keep_cell (keep_below (below_alloc (w.alloc (.cells #[.int .u8 x, .int .u8 y] 56)) _) hb1) z0); have y1 := Lib.hid (keep_cell (keep_below (below_alloc (w.alloc (.cells #[.int .u8 x, .int .u8 y] 56)) _) hb1) z1); clear ht1 hF1 hb1 tk1 z0 z1)
      | (go_at_call 11; have _t := tk2; refine (new_yes _ 1 1 [(P : Int)] _ (lit_ints w1 #[.int .i64 (P : Int)] [(P : Int)] 1 rfl rfl (by simp)) hok).mono ?_; rintro e w2 ⟨b2, F2, rfl, ht2, hF2, hb2⟩; have TW := Lib.hid (Two.news (keep_below (below_alloc w _) (below_alloc (w.alloc (.cells #[.int .u8 x, .int .u8 y] 56)) _)) T1.out HF1.out B1.out (below_alloc w1 _) ht2 hF2 hb2); have z0 := keep_cell (keep_below (below_alloc w1 _) hb2) y0.out; have z1 := keep_cell (keep_below (below_alloc w1 _) hb2) y1.out; clear ht2 hF2 hb2 tk2 y0 y1))
    clear B1 HF1 T1
    go_wp2
    rw [HJ1.out, HJ2.out]
    clear z0 z1 hx hy
    go_loopw [13, 14, 15] (fun e l s wr => ∃ (k E Lt n : Nat) (Fa Fb : Nat → Prop), (k : Int) ≤ sl ∧ e = .int .i64 E ∧ l = .int .i64 Lt ∧ s = .int .i64 k ∧ Hid (E + (lc P j1 k).length = ctN P k) ∧ Hid (Lt + (lc P j2 k).length = ctN P k) ∧ n ≤ 8 * k ∧ Hid (Two w wr b1 b2 [(P : Int)] [(P : Int)] k (lc P j1 k) (lc P j2 k) n Fa Fb)) (fun _ _ s _ => sl.toNat - (intOf s).toNat)
    case atStart => exact ⟨0, 0, 0, 0, F1, F2, hsl.1, rfl, rfl, rfl, rfl, rfl, Nat.le_refl _, TW⟩
    case round =>
      obtain ⟨k, E, Lt, n, Fa, Fb, hk, rfl, rfl, rfl, hE, hLt, hn, hTW⟩ := hrel
      have hc0 := ct_le P k
      have hE1 : E ≤ 255 := by have := hE.out; omega
      have hL1 : Lt ≤ 255 := by have := hLt.out; omega
      have tk3 : True := trivial
      have tk4 : True := trivial
      by_cases hlt : (k : Int) < sl
      · obtain ⟨D1, hD1⟩ : ∃ D, toldL [(P : Int)] (k : Int) (lc P j1 k) [(j1 : Int)] = D := ⟨_, rfl⟩
        obtain ⟨D2, hD2⟩ : ∃ D, toldL [(P : Int)] (k : Int) (lc P j2 k) [(j2 : Int)] = D := ⟨_, rfl⟩
        have s1 := told_lc_sum P j1 k (by omega)
        have s2 := told_lc_sum P j2 k (by omega)
        have u1 := told_lc_len P j1 k (by omega)
        have u2 := told_lc_len P j2 k (by omega)
        rw [hD1] at s1 u1
        rw [hD2] at s2 u2
        have s3 := ct_succ P k
        have s4 := lc_mono P (k + 1) hj12
        have HE2 : Hid (E + D1.length + (lc P j1 (k + 1)).length = ctN P (k + 1)) := by show _ = _; have := hE.out; omega
        have HL2 : Hid (Lt + D2.length + (lc P j2 (k + 1)).length = ctN P (k + 1)) := by show _ = _; have := hLt.out; omega
        have hle : ¬ ((E : Int) + (D1.length : Int) < (Lt : Int) + (D2.length : Int)) := by have h1 := HE2.out; have h2 := HL2.out; omega
        have hd2 : ¬ ((1 : Int) < (D2.length : Int)) := by omega
        have CT1 := Lib.hid (tick_v (hTW.out.t1.below (below_alloc wr (.cells #[.int .i64 (j1 : Int)] 3))) (by omega) (by omega) (lit_ints wr #[.int .i64 (j1 : Int)] [(j1 : Int)] 1 rfl rfl (by simp)) (Nat.le_refl 1) (by omega) (fun _ bb off e hc => by cases e; exact absurd (hTW.out.t1.lt _ hc) (Nat.lt_irrefl _)) hD1 rfl (tick_lc P j1 k (by omega)) (now2 := ((k + 1 : Nat) : Int)) rfl rfl)
        have CT2 := Lib.hid (fun (W V : World) (h : Tim Fb W b2 [(P : Int)] k (lc P j2 k) n) => tick_v (h.below (below_alloc W (.cells #[.int .i64 (j2 : Int)] 3))) (by omega) (by omega) (lit_ints W #[.int .i64 (j2 : Int)] [(j2 : Int)] 1 rfl rfl (by simp)) (Nat.le_refl 1) (by omega) (fun _ bb off e hc => by cases e; exact absurd (h.lt _ hc) (Nat.lt_irrefl _)) hD2 rfl (tick_lc P j2 k (by omega)) (now2 := ((k + 1 : Nat) : Int)) rfl rfl)
        clear hD1 hD2 s1 s2 s3 s4
        go_wp2_with (first
          | (go_at_call 14; have _t := tk3; refine CT1.out.mono ?_; rintro e w3 ⟨F3, a3, c3, rfl, hr3, ht3, hF3, hx3⟩; have T3 := Lib.hid ht3; have HF3 := Lib.hid hF3; have X3 := Lib.hid hx3; have M3 := Lib.hid (hTW.out.mid (below_alloc wr _) hx3); clear hr3 ht3 hF3 hx3 tk3)
          | (go_at_call 14; have _t := tk4; refine (CT2.out w3 w3 M3.out).mono ?_; rintro e w4 ⟨F4, a4, c4, rfl, hr4, ht4, hF4, hx4⟩; have TW2 := Lib.hid (hTW.out.ticks (n' := n + 1) (below_alloc wr _) X3.out T3.out HF3.out (below_alloc w3 _) hx4 ht4 hF4 (Nat.le_refl _) (Nat.le_refl _)); clear hr4 ht4 hF4 hx4 tk4))
        refine wp_loop_rounds 1 ?_
        rw [rounds_succ]
        go_wp2
        go_roundw
        case rel => exact ⟨k + 1, E + D1.length, Lt + D2.length, n + 1, F3, F4, by omega, by go_num, by go_num, by go_num, HE2, HL2, by omega, TW2⟩
        case measure => simp [intOf]; omega
      · have HQ : ((E : Int) + ((lc P j1 k).length : Int) == (Lt : Int) + ((lc P j2 k).length : Int)) = true := by
          have h1 := hE.out; have h2 := hLt.out; simp; omega
        have hl1 : (lc P j1 k).length ≤ 1000 := by have := hE.out; omega
        have hl2 : (lc P j2 k).length ≤ 1000 := by have := hLt.out; omega
        have CW1 := Lib.hid (waiting_v hTW.out.t1 (by omega) rfl (wait_len (lc P j1 k)))
        have CW2 := Lib.hid (fun (V : World) (hb : Below wr.heap.size wr V) => waiting_v (hTW.out.t2.below hb) (by omega) rfl (wait_len (lc P j2 k)))
        have tk5 : True := trivial
        generalize (lc P j1 k).length = q1 at HQ hl1 CW1
        generalize (lc P j2 k).length = q2 at HQ hl2 CW2
        go_wp2_with (first
          | (go_at_call 18; have _t := tk5; refine CW1.out.mono ?_; rintro e w3 ⟨a3, c3, rfl, hr3, hb3⟩; have HB3 := Lib.hid hb3; clear hr3 hb3 tk5)
          | (go_at_call 18; refine (CW2.out w3 HB3.out).mono ?_; rintro e w4 ⟨a4, c4, rfl, hr4, hb4⟩; have HB4 := Lib.hid (keep_below HB3.out hb4); clear hr4 hb4)
          | (go_at_call 10; refine (KN.out w4).mono ?_; rintro e w5 ⟨rfl, hb5⟩; have HB5 := Lib.hid (keep_below HB4.out hb5); clear hb5))
        go_ret
        exact ⟨rfl, keep_below hTW.out.bel HB5.out⟩
  · have hokf : okPz [pe] = false := by simpa using hok
    clear hok
    have RL1 : Hid (Row ((w.alloc (.cells #[.int .u8 x, .int .u8 y] 56)).alloc (.cells #[.int .i64 pe] 3)) (some ⟨w.heap.size + 1, 0, none⟩) 1 [pe]) := by
      have h := lit_ints (w.alloc (.cells #[.int .u8 x, .int .u8 y] 56)) #[.int .i64 pe] [pe] 1 rfl rfl (by simp)
      have e1 : (w.alloc (.cells #[.int .u8 x, .int .u8 y] 56)).heap.size = w.heap.size + 1 := by simp
      rw [e1] at h
      exact h
    have BL : Hid (Below w.heap.size w ((w.alloc (.cells #[.int .u8 x, .int .u8 y] 56)).alloc (.cells #[.int .i64 pe] 3))) := keep_below (below_alloc w _) (below_alloc _ _)
    have HO := Lib.hid hokf
    clear hokf z0 z1
    go_enter Try.func9, Try.ntmps9
    go_wp2_with (first
      | (go_at_call 11; have _t := tk1; refine (new_no _ 1 1 [pe] _ RL1.out (by decide) HO.out).mono ?_; rintro e w1 ⟨rfl, hb1⟩; have HB1 := Lib.hid (keep_below BL.out hb1); clear hb1 tk1)
      | (go_at_call 11; have _t := tk2; refine (new_no _ 1 1 [pe] _ (lit_ints w1 #[.int .i64 pe] [pe] 1 rfl rfl (by simp)) (by decide) HO.out).mono ?_; rintro e w2 ⟨rfl, hb2⟩; have HB2 := Lib.hid (keep_below (keep_below HB1.out (below_alloc w1 _)) hb2); clear hb2 tk2)
      | (go_at_call 10; refine (KN.out w2).mono ?_; rintro e w5 ⟨rfl, hb5⟩; have HB5 := Lib.hid (keep_below HB2.out hb5); clear hb5))
    go_ret
    exact ⟨rfl, HB5.out⟩
end Go.Proofs.Ytdhchfmefdlloaa
