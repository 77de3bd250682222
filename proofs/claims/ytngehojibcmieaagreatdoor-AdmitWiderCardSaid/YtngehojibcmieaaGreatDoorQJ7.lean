/- What is proved here: the contract of admit.Load. Conditions: the bytes are at most a million; the tables hold what their initialisers lay. -/
import Derived.Test.YtngehojibcmieaaGreatDoorQJ5
import Derived.Test.YtngehojibcmieaaGreatDoorQPr5
import Derived.Deep.RegionWith
set_option maxRecDepth 100000
set_option maxHeartbeats 8000000
section
namespace Go.Proofs.YtngehojibcmieaaGreatDoor
open Go.ChangeShapes Go.WideShapes Go.RowKit
theorem decM_err {l : List UInt8} (h : (decM l).2 ≠ 0) : (decM l).1 = noIm := by
 unfold decM at h ⊢
 split
 ·rfl
 ·rename_i h1
  rw [if_neg h1] at h
  split
  ·rfl
  ·rename_i h2
   rw [if_neg h2] at h
   split
   ·rfl
   ·rename_i h3
    rw [if_neg h3] at h
    split
    ·rfl
    ·rename_i h4
     rw [if_neg h4] at h
     split
     ·rfl
     ·rename_i h5
      rw [if_neg h5] at h
      exact absurd rfl h
def ldV (r : ImP × Int) : VdP := if r.2 = 0 then jdA r.1 else ⟨r.2, -1, [], [], []⟩
def imZ (j : Nat) : Value := if j < 4 then .int .i64 0 else .slice none 0 0
theorem zero_apart' {W : World} {g off n : Nat} {t : TypeId} {f : Nat → Value} {x : Int} (hz : W.rowIs g t n f) (hf : ∀ j x, f j = .int .i64 x → x = 0) (h : W.cell? ⟨g, off, none⟩ = some (.int .i64 x)) (hx : x ≠ 0) : False := by
 rcases Nat.lt_or_ge off n with h5 | h5
 ·rw [World.rowIs.cell hz h5] at h
  exact hx (hf off x (Option.some.inj h))
 ·obtain ⟨c, hb, hn, _⟩ := hz
  rw [Lib.cell_of_heap hb, Array.getElem?_eq_none (by omega)] at h
  cases h
theorem rows_apart' {W : World} {g k n : Nat} {t : TypeId} {f : Nat → Value} {a : Option Addr} {L : List Kd.RtR} (hz : W.rowIs g t k f) (hf : ∀ j x, f j = .int .i64 x → x = 0) (h : Kd.RowS W a n L) (hC : ∀ r ∈ L, r.C ≠ 0) : 0 < n → ∀ p, a = some p → p.block ≠ g := fun h0 p hp hg => by
 obtain ⟨b, off, e, hlt, hc⟩ := h.2 h0
 rw [hp] at e
 cases e
 have hg' : b = g := hg
 subst hg'
 obtain ⟨r, hr, hcs⟩ := hc 0 h0
 exact zero_apart' hz hf (hcs 0 _ rfl) (hC r (List.mem_of_getElem? hr))
theorem ints_apart' {W : World} {g k n : Nat} {t : TypeId} {f : Nat → Value} {a : Option Addr} {l : List Int} (hz : W.rowIs g t k f) (hf : ∀ j x, f j = .int .i64 x → x = 0) (h : Row W a n l) (hC : ∀ r ∈ l, r ≠ 0) : 0 < n → ∀ p, a = some p → p.block ≠ g := fun h0 p hp hg => by
 obtain ⟨b, off, x, e, hlt, hx, hc⟩ := h.item h0
 rw [hp] at e
 cases e
 have hg' : b = g := hg
 subst hg'
 exact zero_apart' hz hf hc (hC x (List.mem_of_getElem? hx))
theorem imZ_int : ∀ j x, imZ j = .int .i64 x → x = 0 := fun j x h => by
 unfold imZ at h
 split at h
 ·cases h; rfl
 ·cases h
theorem vdZ_int : ∀ j x, vdZ j = .int .i64 x → x = 0 := fun j x h => by
 unfold vdZ at h
 split at h
 ·cases h; rfl
 ·cases h
theorem load_any (s : ByteArray) (hs : s.size ≤ 1000000) (w : World) (hN : Nms w) (hH : Kr.Hal w) :
  Calls Tryz.prog 18 #[.string s] w fun e w' => ∃ (x : ImV) (t : VdV), e = .returned (.tuple #[x.v, t.v]) ∧ x.Is w' (decM s.data.toList).1 ∧ t.Is w' (ldV (decM s.data.toList)) ∧ Below w.heap.size w w' := by
 obtain ⟨⟨K, E⟩, hq⟩ : ∃ r, decM s.data.toList = r := ⟨_, rfl⟩
 have hK : E ≠ 0 → K = noIm := fun h => by have := decM_err (l := s.data.toList) (by rw [hq]; exact h); rw [hq] at this; exact this
 rw [hq]
 have CD := Lib.hid (fun W (hb : Below w.heap.size w W) => decode_any s hs W (hN.below hb) (hH.below hb) K E hq)
 have HN := Lib.hid hN
 have b1 := below_alloc w (.cells #[.int .i64 0, .int .i64 0, .int .i64 0, .int .i64 0, .slice none 0 0, .slice none 0 0, .slice none 0 0] 26)
 have b2 := below_alloc (w.alloc (.cells #[.int .i64 0, .int .i64 0, .int .i64 0, .int .i64 0, .slice none 0 0, .slice none 0 0, .slice none 0 0] 26)) (.cells #[.int .i64 0, .int .i64 0, .slice none 0 0, .slice none 0 0, .slice none 0 0] 37)
 have HB2 := Lib.hid (keep_below b1 b2)
 have e1 : (w.alloc (.cells #[.int .i64 0, .int .i64 0, .int .i64 0, .int .i64 0, .slice none 0 0, .slice none 0 0, .slice none 0 0] 26)).heap.size = w.heap.size + 1 := by simp
 have RZ : Hid (((w.alloc (.cells #[.int .i64 0, .int .i64 0, .int .i64 0, .int .i64 0, .slice none 0 0, .slice none 0 0, .slice none 0 0] 26)).alloc (.cells #[.int .i64 0, .int .i64 0, .slice none 0 0, .slice none 0 0, .slice none 0 0] 37)).rowIs (w.heap.size + 1) 37 5 vdZ) := by
  have h1 := (rowIs_neu (w.alloc (.cells #[.int .i64 0, .int .i64 0, .int .i64 0, .int .i64 0, .slice none 0 0, .slice none 0 0, .slice none 0 0] 26)) #[.int .i64 0, .int .i64 0, .slice none 0 0, .slice none 0 0, .slice none 0 0] 37 5 rfl).congr (g := vdZ) (fun j hj => by
   match j, hj with
   | 0, _ => rfl
   | 1, _ => rfl
   | 2, _ => rfl
   | 3, _ => rfl
   | 4, _ => rfl)
  rw [e1] at h1
  exact h1
 have RY : Hid (((w.alloc (.cells #[.int .i64 0, .int .i64 0, .int .i64 0, .int .i64 0, .slice none 0 0, .slice none 0 0, .slice none 0 0] 26)).alloc (.cells #[.int .i64 0, .int .i64 0, .slice none 0 0, .slice none 0 0, .slice none 0 0] 37)).rowIs w.heap.size 26 7 imZ) := by
  have h1 := (rowIs_neu w #[.int .i64 0, .int .i64 0, .int .i64 0, .int .i64 0, .slice none 0 0, .slice none 0 0, .slice none 0 0] 26 7 rfl).congr (g := imZ) (fun j hj => by
   match j, hj with
   | 0, _ => rfl
   | 1, _ => rfl
   | 2, _ => rfl
   | 3, _ => rfl
   | 4, _ => rfl
   | 5, _ => rfl
   | 6, _ => rfl)
  exact World.rowIs.alloc h1 _
 clear hq hN hH b1 b2 e1
 by_cases z0 : E = 0
 ·subst z0
  have CJ := Lib.hid (fun (x : ImV) W (hb : Below w.heap.size w W) (hx : x.Is W K) => judge_any x K W hx (HN.out.below hb))
  have HA : Hid ((allE K).2 = 0 → (∀ r ∈ (jdA K).ro, r.C ≠ 0) ∧ ∀ r ∈ (jdA K).re, r ≠ 0) := fun h1 => by
   rw [jd_ok h1]
   exact ⟨slots_ne h1, resp_ne h1⟩
  have HA2 : Hid ((∀ r ∈ (jdA K).ro, r.C ≠ 0) ∧ ∀ r ∈ (jdA K).re, r ≠ 0) := by
   by_cases h1 : (allE K).2 = 0
   ·exact HA.out h1
   ·show _ ∧ _
    rw [jd_no h1]
    exact ⟨fun r hr => absurd hr List.not_mem_nil, fun r hr => absurd hr List.not_mem_nil⟩
  clear HA hK
  go_enter Tryz.func18, Tryz.ntmps18
  go_wp2_with (go_at_call 17; refine (CD.out _ HB2.out).mono ?_; rintro e w1 ⟨⟨sw, la, cm, inp, ⟨sa, sn, sc⟩, ⟨ba, bn, bc⟩, ⟨ta, tn, tc⟩⟩, rfl, hF, hb1⟩; simp only [ImV.v, Sl.v])
  have a5 := below_alloc w1 (.cells #[.int .i64 sw, .int .i64 la, .int .i64 cm, .int .i64 inp, .slice sa sn sc, .slice ba bn bc, .slice ta tn tc] 26)
  have c5 := cells_new w1 #[.int .i64 sw, .int .i64 la, .int .i64 cm, .int .i64 inp, .slice sa sn sc, .slice ba bn bc, .slice ta tn tc] 26
  have hb5 := keep_below hb1 a5
  have z5 := World.rowIs.of_block RZ.out (hb5.block _ (World.rowIs.lt RZ.out))
  have y5 := World.rowIs.of_block RY.out (hb5.block _ (World.rowIs.lt RY.out))
  have HF5 := Lib.hid (hF.below a5)
  have hl1 := World.rowIs.lt RZ.out
  have hl2 := hb5.size
  have HBw := Lib.hid (keep_below HB2.out hb5)
  have CJ5 := CJ.out ⟨sw, la, cm, inp, ⟨sa, sn, sc⟩, ⟨ba, bn, bc⟩, ⟨ta, tn, tc⟩⟩ (w1.alloc (.cells #[.int .i64 sw, .int .i64 la, .int .i64 cm, .int .i64 inp, .slice sa sn sc, .slice ba bn bc, .slice ta tn tc] 26)).drew (keep_below HBw.out (blw_dr _)) (HF5.out.below (blw_dr _)).is
  simp only [ImV.v, Sl.v] at CJ5
  have CJ5 := Lib.hid CJ5
  obtain ⟨W5, hW5⟩ : ∃ W5, W5 = w1.alloc (.cells #[.int .i64 sw, .int .i64 la, .int .i64 cm, .int .i64 inp, .slice sa sn sc, .slice ba bn bc, .slice ta tn tc] 26) := ⟨_, rfl⟩
  rw [← hW5] at c5 z5 y5 HF5 hl2 HBw CJ5 ⊢
  obtain ⟨g4, hg4⟩ : ∃ g4, g4 = w1.heap.size := ⟨_, rfl⟩
  rw [← hg4] at c5 ⊢
  have Y5 := Lib.hid y5
  have Z5 := Lib.hid z5
  have c50 := c5 0 _ rfl
  have c51 := c5 1 _ rfl
  have c52 := c5 2 _ rfl
  have c53 := c5 3 _ rfl
  have c54 := c5 4 _ rfl
  have c55 := c5 5 _ rfl
  have c56 := c5 6 _ rfl
  clear hW5 hg4 a5 hb5 hF hb1 CD CJ RZ RY y5 z5 c5
  go_region_with (go_at_call 13; refine CJ5.out.mono ?_; rintro e w6 ⟨⟨er, pl, ⟨ra, rn, rc⟩, ⟨aa, an, ac⟩, ⟨ca, cn, cc⟩⟩, rfl, hIs, hb6, hnc⟩; simp only [VdV.v, Sl.v]; have hb6 := keep_below (blw_dr W5) hb6; have c60 := keep_cell hb6 c50; have c61 := keep_cell hb6 c51; have c62 := keep_cell hb6 c52; have c63 := keep_cell hb6 c53; have c64 := keep_cell hb6 c54; have c65 := keep_cell hb6 c55; have c66 := keep_cell hb6 c56; have y6 := World.rowIs.of_block Y5.out (hb6.block _ (World.rowIs.lt Y5.out)); have z6 := World.rowIs.of_block Z5.out (hb6.block _ (World.rowIs.lt Z5.out)); have y60 := World.rowIs.cell y6 (i := 0) (by omega); have fy0 := World.rowIs.frozen y6 0; have y61 := World.rowIs.cell y6 (i := 1) (by omega); have fy1 := World.rowIs.frozen y6 1; have y62 := World.rowIs.cell y6 (i := 2) (by omega); have fy2 := World.rowIs.frozen y6 2; have y63 := World.rowIs.cell y6 (i := 3) (by omega); have fy3 := World.rowIs.frozen y6 3; have y64 := World.rowIs.cell y6 (i := 4) (by omega); have fy4 := World.rowIs.frozen y6 4; have y65 := World.rowIs.cell y6 (i := 5) (by omega); have fy5 := World.rowIs.frozen y6 5; have y66 := World.rowIs.cell y6 (i := 6) (by omega); have fy6 := World.rowIs.frozen y6 6; have z60 := World.rowIs.cell z6 (i := 0) (by omega); have fz0 := World.rowIs.frozen z6 0; have z61 := World.rowIs.cell z6 (i := 1) (by omega); have fz1 := World.rowIs.frozen z6 1; have z62 := World.rowIs.cell z6 (i := 2) (by omega); have fz2 := World.rowIs.frozen z6 2; have z63 := World.rowIs.cell z6 (i := 3) (by omega); have fz3 := World.rowIs.frozen z6 3; have z64 := World.rowIs.cell z6 (i := 4) (by omega); have fz4 := World.rowIs.frozen z6 4)
  all_goals (
   have k7 : Kep w.heap.size w6 (((((((w6.setCell ⟨w.heap.size, 0, none⟩ (.int .i64 sw)).setCell ⟨w.heap.size, 1, none⟩ (.int .i64 la)).setCell ⟨w.heap.size, 2, none⟩ (.int .i64 cm)).setCell ⟨w.heap.size, 3, none⟩ (.int .i64 inp)).setCell ⟨w.heap.size, 4, none⟩ (.slice sa sn sc)).setCell ⟨w.heap.size, 5, none⟩ (.slice ba bn bc)).setCell ⟨w.heap.size, 6, none⟩ (.slice ta tn tc)) := ((((((Kep.set _ 0 _ _).trans (Kep.set _ 1 _ _)).trans (Kep.set _ 2 _ _)).trans (Kep.set _ 3 _ _)).trans (Kep.set _ 4 _ _)).trans (Kep.set _ 5 _ _)).trans (Kep.set _ 6 _ _)
   have k5 : Kep (w.heap.size + 1) (((((((w6.setCell ⟨w.heap.size, 0, none⟩ (.int .i64 sw)).setCell ⟨w.heap.size, 1, none⟩ (.int .i64 la)).setCell ⟨w.heap.size, 2, none⟩ (.int .i64 cm)).setCell ⟨w.heap.size, 3, none⟩ (.int .i64 inp)).setCell ⟨w.heap.size, 4, none⟩ (.slice sa sn sc)).setCell ⟨w.heap.size, 5, none⟩ (.slice ba bn bc)).setCell ⟨w.heap.size, 6, none⟩ (.slice ta tn tc)) ((((((((((((w6.setCell ⟨w.heap.size, 0, none⟩ (.int .i64 sw)).setCell ⟨w.heap.size, 1, none⟩ (.int .i64 la)).setCell ⟨w.heap.size, 2, none⟩ (.int .i64 cm)).setCell ⟨w.heap.size, 3, none⟩ (.int .i64 inp)).setCell ⟨w.heap.size, 4, none⟩ (.slice sa sn sc)).setCell ⟨w.heap.size, 5, none⟩ (.slice ba bn bc)).setCell ⟨w.heap.size, 6, none⟩ (.slice ta tn tc)).setCell ⟨w.heap.size + 1, 0, none⟩ (.int .i64 er)).setCell ⟨w.heap.size + 1, 1, none⟩ (.int .i64 pl)).setCell ⟨w.heap.size + 1, 2, none⟩ (.slice ra rn rc)).setCell ⟨w.heap.size + 1, 3, none⟩ (.slice aa an ac)).setCell ⟨w.heap.size + 1, 4, none⟩ (.slice ca cn cc)) := ((((Kep.set _ 0 _ _).trans (Kep.set _ 1 _ _)).trans (Kep.set _ 2 _ _)).trans (Kep.set _ 3 _ _)).trans (Kep.set _ 4 _ _)
   have s7 : ((((((((w6.setCell ⟨w.heap.size, 0, none⟩ (.int .i64 sw)).setCell ⟨w.heap.size, 1, none⟩ (.int .i64 la)).setCell ⟨w.heap.size, 2, none⟩ (.int .i64 cm)).setCell ⟨w.heap.size, 3, none⟩ (.int .i64 inp)).setCell ⟨w.heap.size, 4, none⟩ (.slice sa sn sc)).setCell ⟨w.heap.size, 5, none⟩ (.slice ba bn bc)).setCell ⟨w.heap.size, 6, none⟩ (.slice ta tn tc))).rowIs w.heap.size 26 7 _ := (((((((y6.set 0 (.int .i64 sw)).set 1 (.int .i64 la)).set 2 (.int .i64 cm)).set 3 (.int .i64 inp)).set 4 (.slice sa sn sc)).set 5 (.slice ba bn bc)).set 6 (.slice ta tn tc))
   have s7 := World.rowIs.of_block s7 (k5.block _ (World.rowIs.lt s7) (by omega))
   have s5 : (((((((((((((w6.setCell ⟨w.heap.size, 0, none⟩ (.int .i64 sw)).setCell ⟨w.heap.size, 1, none⟩ (.int .i64 la)).setCell ⟨w.heap.size, 2, none⟩ (.int .i64 cm)).setCell ⟨w.heap.size, 3, none⟩ (.int .i64 inp)).setCell ⟨w.heap.size, 4, none⟩ (.slice sa sn sc)).setCell ⟨w.heap.size, 5, none⟩ (.slice ba bn bc)).setCell ⟨w.heap.size, 6, none⟩ (.slice ta tn tc)).setCell ⟨w.heap.size + 1, 0, none⟩ (.int .i64 er)).setCell ⟨w.heap.size + 1, 1, none⟩ (.int .i64 pl)).setCell ⟨w.heap.size + 1, 2, none⟩ (.slice ra rn rc)).setCell ⟨w.heap.size + 1, 3, none⟩ (.slice aa an ac)).setCell ⟨w.heap.size + 1, 4, none⟩ (.slice ca cn cc))).rowIs (w.heap.size + 1) 37 5 _ := ((((((World.rowIs.of_block z6 (k7.block _ (World.rowIs.lt z6) (by omega))).set 0 (.int .i64 er)).set 1 (.int .i64 pl)).set 2 (.slice ra rn rc)).set 3 (.slice aa an ac)).set 4 (.slice ca cn cc))
   have q0 := World.rowIs.cell s7 (i := 0) (by omega)
   have q1 := World.rowIs.cell s7 (i := 1) (by omega)
   have q2 := World.rowIs.cell s7 (i := 2) (by omega)
   have q3 := World.rowIs.cell s7 (i := 3) (by omega)
   have q4 := World.rowIs.cell s7 (i := 4) (by omega)
   have q5 := World.rowIs.cell s7 (i := 5) (by omega)
   have q6 := World.rowIs.cell s7 (i := 6) (by omega)
   simp only [if_true, if_neg (by decide : ¬ (0 : Nat) = 6), if_neg (by decide : ¬ (0 : Nat) = 5), if_neg (by decide : ¬ (0 : Nat) = 4), if_neg (by decide : ¬ (0 : Nat) = 3), if_neg (by decide : ¬ (0 : Nat) = 2), if_neg (by decide : ¬ (0 : Nat) = 1), if_neg (by decide : ¬ (1 : Nat) = 6), if_neg (by decide : ¬ (1 : Nat) = 5), if_neg (by decide : ¬ (1 : Nat) = 4), if_neg (by decide : ¬ (1 : Nat) = 3), if_neg (by decide : ¬ (1 : Nat) = 2), if_neg (by decide : ¬ (2 : Nat) = 6), if_neg (by decide : ¬ (2 : Nat) = 5), if_neg (by decide : ¬ (2 : Nat) = 4), if_neg (by decide : ¬ (2 : Nat) = 3), if_neg (by decide : ¬ (3 : Nat) = 6), if_neg (by decide : ¬ (3 : Nat) = 5), if_neg (by decide : ¬ (3 : Nat) = 4), if_neg (by decide : ¬ (4 : Nat) = 6), if_neg (by decide : ¬ (4 : Nat) = 5), if_neg (by decide : ¬ (5 : Nat) = 6)] at q0 q1 q2 q3 q4 q5 q6
   have g0 := World.rowIs.cell s5 (i := 0) (by omega)
   have g1 := World.rowIs.cell s5 (i := 1) (by omega)
   have g2 := World.rowIs.cell s5 (i := 2) (by omega)
   have g3 := World.rowIs.cell s5 (i := 3) (by omega)
   have g4 := World.rowIs.cell s5 (i := 4) (by omega)
   simp only [if_true, if_neg (by decide : ¬ (0 : Nat) = 4), if_neg (by decide : ¬ (0 : Nat) = 3), if_neg (by decide : ¬ (0 : Nat) = 2), if_neg (by decide : ¬ (0 : Nat) = 1), if_neg (by decide : ¬ (1 : Nat) = 4), if_neg (by decide : ¬ (1 : Nat) = 3), if_neg (by decide : ¬ (1 : Nat) = 2), if_neg (by decide : ¬ (2 : Nat) = 4), if_neg (by decide : ¬ (2 : Nat) = 3), if_neg (by decide : ¬ (3 : Nat) = 4)] at g0 g1 g2 g3 g4
   have hIs2 := hIs.kep k7 (rows_apart' y6 imZ_int hIs.2.2.1 HA2.out.1) (ints_apart' y6 imZ_int hIs.2.2.2.1 HA2.out.2) (fun _ p hp => by have := hnc p hp; have e : W5.drew.heap.size = W5.heap.size := rfl; omega)
   have z7 := World.rowIs.of_block z6 (k7.block _ (World.rowIs.lt z6) (by omega))
   have hIs3 := hIs2.kep k5 (rows_apart' z7 vdZ_int hIs2.2.2.1 HA2.out.1) (ints_apart' z7 vdZ_int hIs2.2.2.2.1 HA2.out.2) (fun _ p hp => by have := hnc p hp; have e : W5.drew.heap.size = W5.heap.size := rfl; omega)
   have hx9 := (((HF5.out.below hb6).kep k7 (by omega)).kep k5 hl1).is
   have hb9 := (keep_below HBw.out hb6).trans ((k7.below (Nat.le_refl _) (keep_below HBw.out hb6).size).trans (k5.below (Nat.le_succ _) (Nat.le_trans (keep_below HBw.out hb6).size k7.size)))
   generalize ((((((((((((w6.setCell ⟨w.heap.size, 0, none⟩ (.int .i64 sw)).setCell ⟨w.heap.size, 1, none⟩ (.int .i64 la)).setCell ⟨w.heap.size, 2, none⟩ (.int .i64 cm)).setCell ⟨w.heap.size, 3, none⟩ (.int .i64 inp)).setCell ⟨w.heap.size, 4, none⟩ (.slice sa sn sc)).setCell ⟨w.heap.size, 5, none⟩ (.slice ba bn bc)).setCell ⟨w.heap.size, 6, none⟩ (.slice ta tn tc)).setCell ⟨w.heap.size + 1, 0, none⟩ (.int .i64 er)).setCell ⟨w.heap.size + 1, 1, none⟩ (.int .i64 pl)).setCell ⟨w.heap.size + 1, 2, none⟩ (.slice ra rn rc)).setCell ⟨w.heap.size + 1, 3, none⟩ (.slice aa an ac)).setCell ⟨w.heap.size + 1, 4, none⟩ (.slice ca cn cc)) = W9 at *
   go_wp2
   refine bodyPost_ret (v := .tuple #[.agg #[.int .i64 sw, .int .i64 la, .int .i64 cm, .int .i64 inp, .slice sa sn sc, .slice ba bn bc, .slice ta tn tc], .agg #[.int .i64 er, .int .i64 pl, .slice ra rn rc, .slice aa an ac, .slice ca cn cc]]) (by simp [results, Tryz.results18, go_sem, q0, q1, q2, q3, q4, q5, q6, g0, g1, g2, g3, g4]) rfl ?_
   exact ⟨_, _, rfl, hx9, hIs3, hb9⟩)
 ·have d1 : (E == 0) = false := by simpa using z0
  have d2 : (E != 0) = true := by simpa using z0
  have HKn := Lib.hid (hK z0)
  have HL : Hid (ldV (K, E) = ⟨E, -1, [], [], []⟩) := by show _ = _; unfold ldV; rw [if_neg z0]
  clear hK z0
  go_enter Tryz.func18, Tryz.ntmps18
  go_wp2_with (go_at_call 17; refine (CD.out _ HB2.out).mono ?_; rintro e w1 ⟨⟨sw, la, cm, inp, ⟨sa, sn, sc⟩, ⟨ba, bn, bc⟩, ⟨ta, tn, tc⟩⟩, rfl, hF, hb1⟩; simp only [ImV.v, Sl.v]; have a5 := below_alloc w1 (.cells #[.int .i64 sw, .int .i64 la, .int .i64 cm, .int .i64 inp, .slice sa sn sc, .slice ba bn bc, .slice ta tn tc] 26); have hb5 := keep_below hb1 a5; have z6 := World.rowIs.of_block RZ.out (hb5.block _ (World.rowIs.lt RZ.out)); have y6 := World.rowIs.of_block RY.out (hb5.block _ (World.rowIs.lt RY.out)); have hbw := keep_below HB2.out hb5; have y60 := World.rowIs.cell y6 (i := 0) (by omega); have fy0 := World.rowIs.frozen y6 0; have y61 := World.rowIs.cell y6 (i := 1) (by omega); have fy1 := World.rowIs.frozen y6 1; have y62 := World.rowIs.cell y6 (i := 2) (by omega); have fy2 := World.rowIs.frozen y6 2; have y63 := World.rowIs.cell y6 (i := 3) (by omega); have fy3 := World.rowIs.frozen y6 3; have y64 := World.rowIs.cell y6 (i := 4) (by omega); have fy4 := World.rowIs.frozen y6 4; have y65 := World.rowIs.cell y6 (i := 5) (by omega); have fy5 := World.rowIs.frozen y6 5; have y66 := World.rowIs.cell y6 (i := 6) (by omega); have fy6 := World.rowIs.frozen y6 6; have z60 := World.rowIs.cell z6 (i := 0) (by omega); have fz0 := World.rowIs.frozen z6 0; have z61 := World.rowIs.cell z6 (i := 1) (by omega); have fz1 := World.rowIs.frozen z6 1; have z62 := World.rowIs.cell z6 (i := 2) (by omega); have fz2 := World.rowIs.frozen z6 2; have z63 := World.rowIs.cell z6 (i := 3) (by omega); have fz3 := World.rowIs.frozen z6 3; have z64 := World.rowIs.cell z6 (i := 4) (by omega); have fz4 := World.rowIs.frozen z6 4)
  obtain ⟨w6, hw6⟩ : ∃ w6, w6 = w1.alloc (.cells #[.int .i64 sw, .int .i64 la, .int .i64 cm, .int .i64 inp, .slice sa sn sc, .slice ba bn bc, .slice ta tn tc] 26) := ⟨_, rfl⟩
  rw [← hw6] at z6 y6 hbw ⊢
  clear hw6
  have k7 : Kep w.heap.size w6 (((((((w6.setCell ⟨w.heap.size, 0, none⟩ (.int .i64 0)).setCell ⟨w.heap.size, 1, none⟩ (.int .i64 0)).setCell ⟨w.heap.size, 2, none⟩ (.int .i64 0)).setCell ⟨w.heap.size, 3, none⟩ (.int .i64 0)).setCell ⟨w.heap.size, 4, none⟩ (.slice none 0 0)).setCell ⟨w.heap.size, 5, none⟩ (.slice none 0 0)).setCell ⟨w.heap.size, 6, none⟩ (.slice none 0 0)) := ((((((Kep.set _ 0 _ _).trans (Kep.set _ 1 _ _)).trans (Kep.set _ 2 _ _)).trans (Kep.set _ 3 _ _)).trans (Kep.set _ 4 _ _)).trans (Kep.set _ 5 _ _)).trans (Kep.set _ 6 _ _)
  have k5 : Kep (w.heap.size + 1) (((((((w6.setCell ⟨w.heap.size, 0, none⟩ (.int .i64 0)).setCell ⟨w.heap.size, 1, none⟩ (.int .i64 0)).setCell ⟨w.heap.size, 2, none⟩ (.int .i64 0)).setCell ⟨w.heap.size, 3, none⟩ (.int .i64 0)).setCell ⟨w.heap.size, 4, none⟩ (.slice none 0 0)).setCell ⟨w.heap.size, 5, none⟩ (.slice none 0 0)).setCell ⟨w.heap.size, 6, none⟩ (.slice none 0 0)) ((((((((((((w6.setCell ⟨w.heap.size, 0, none⟩ (.int .i64 0)).setCell ⟨w.heap.size, 1, none⟩ (.int .i64 0)).setCell ⟨w.heap.size, 2, none⟩ (.int .i64 0)).setCell ⟨w.heap.size, 3, none⟩ (.int .i64 0)).setCell ⟨w.heap.size, 4, none⟩ (.slice none 0 0)).setCell ⟨w.heap.size, 5, none⟩ (.slice none 0 0)).setCell ⟨w.heap.size, 6, none⟩ (.slice none 0 0)).setCell ⟨w.heap.size + 1, 0, none⟩ (.int .i64 E)).setCell ⟨w.heap.size + 1, 1, none⟩ (.int .i64 (-1))).setCell ⟨w.heap.size + 1, 2, none⟩ (.slice none 0 0)).setCell ⟨w.heap.size + 1, 3, none⟩ (.slice none 0 0)).setCell ⟨w.heap.size + 1, 4, none⟩ (.slice none 0 0)) := ((((Kep.set _ 0 _ _).trans (Kep.set _ 1 _ _)).trans (Kep.set _ 2 _ _)).trans (Kep.set _ 3 _ _)).trans (Kep.set _ 4 _ _)
  have s7 : ((((((((w6.setCell ⟨w.heap.size, 0, none⟩ (.int .i64 0)).setCell ⟨w.heap.size, 1, none⟩ (.int .i64 0)).setCell ⟨w.heap.size, 2, none⟩ (.int .i64 0)).setCell ⟨w.heap.size, 3, none⟩ (.int .i64 0)).setCell ⟨w.heap.size, 4, none⟩ (.slice none 0 0)).setCell ⟨w.heap.size, 5, none⟩ (.slice none 0 0)).setCell ⟨w.heap.size, 6, none⟩ (.slice none 0 0))).rowIs w.heap.size 26 7 _ := (((((((y6.set 0 (.int .i64 0)).set 1 (.int .i64 0)).set 2 (.int .i64 0)).set 3 (.int .i64 0)).set 4 (.slice none 0 0)).set 5 (.slice none 0 0)).set 6 (.slice none 0 0))
  have s7 := World.rowIs.of_block s7 (k5.block _ (World.rowIs.lt s7) (by omega))
  have s5 : (((((((((((((w6.setCell ⟨w.heap.size, 0, none⟩ (.int .i64 0)).setCell ⟨w.heap.size, 1, none⟩ (.int .i64 0)).setCell ⟨w.heap.size, 2, none⟩ (.int .i64 0)).setCell ⟨w.heap.size, 3, none⟩ (.int .i64 0)).setCell ⟨w.heap.size, 4, none⟩ (.slice none 0 0)).setCell ⟨w.heap.size, 5, none⟩ (.slice none 0 0)).setCell ⟨w.heap.size, 6, none⟩ (.slice none 0 0)).setCell ⟨w.heap.size + 1, 0, none⟩ (.int .i64 E)).setCell ⟨w.heap.size + 1, 1, none⟩ (.int .i64 (-1))).setCell ⟨w.heap.size + 1, 2, none⟩ (.slice none 0 0)).setCell ⟨w.heap.size + 1, 3, none⟩ (.slice none 0 0)).setCell ⟨w.heap.size + 1, 4, none⟩ (.slice none 0 0))).rowIs (w.heap.size + 1) 37 5 _ := ((((((World.rowIs.of_block z6 (k7.block _ (World.rowIs.lt z6) (by omega))).set 0 (.int .i64 E)).set 1 (.int .i64 (-1))).set 2 (.slice none 0 0)).set 3 (.slice none 0 0)).set 4 (.slice none 0 0))
  have q0 := World.rowIs.cell s7 (i := 0) (by omega)
  have q1 := World.rowIs.cell s7 (i := 1) (by omega)
  have q2 := World.rowIs.cell s7 (i := 2) (by omega)
  have q3 := World.rowIs.cell s7 (i := 3) (by omega)
  have q4 := World.rowIs.cell s7 (i := 4) (by omega)
  have q5 := World.rowIs.cell s7 (i := 5) (by omega)
  have q6 := World.rowIs.cell s7 (i := 6) (by omega)
  simp only [if_true, if_neg (by decide : ¬ (0 : Nat) = 6), if_neg (by decide : ¬ (0 : Nat) = 5), if_neg (by decide : ¬ (0 : Nat) = 4), if_neg (by decide : ¬ (0 : Nat) = 3), if_neg (by decide : ¬ (0 : Nat) = 2), if_neg (by decide : ¬ (0 : Nat) = 1), if_neg (by decide : ¬ (1 : Nat) = 6), if_neg (by decide : ¬ (1 : Nat) = 5), if_neg (by decide : ¬ (1 : Nat) = 4), if_neg (by decide : ¬ (1 : Nat) = 3), if_neg (by decide : ¬ (1 : Nat) = 2), if_neg (by decide : ¬ (2 : Nat) = 6), if_neg (by decide : ¬ (2 : Nat) = 5), if_neg (by decide : ¬ (2 : Nat) = 4), if_neg (by decide : ¬ (2 : Nat) = 3), if_neg (by decide : ¬ (3 : Nat) = 6), if_neg (by decide : ¬ (3 : Nat) = 5), if_neg (by decide : ¬ (3 : Nat) = 4), if_neg (by decide : ¬ (4 : Nat) = 6), if_neg (by decide : ¬ (4 : Nat) = 5), if_neg (by decide : ¬ (5 : Nat) = 6)] at q0 q1 q2 q3 q4 q5 q6
  have g0 := World.rowIs.cell s5 (i := 0) (by omega)
  have g1 := World.rowIs.cell s5 (i := 1) (by omega)
  have g2 := World.rowIs.cell s5 (i := 2) (by omega)
  have g3 := World.rowIs.cell s5 (i := 3) (by omega)
  have g4 := World.rowIs.cell s5 (i := 4) (by omega)
  simp only [if_true, if_neg (by decide : ¬ (0 : Nat) = 4), if_neg (by decide : ¬ (0 : Nat) = 3), if_neg (by decide : ¬ (0 : Nat) = 2), if_neg (by decide : ¬ (0 : Nat) = 1), if_neg (by decide : ¬ (1 : Nat) = 4), if_neg (by decide : ¬ (1 : Nat) = 3), if_neg (by decide : ¬ (1 : Nat) = 2), if_neg (by decide : ¬ (2 : Nat) = 4), if_neg (by decide : ¬ (2 : Nat) = 3), if_neg (by decide : ¬ (3 : Nat) = 4)] at g0 g1 g2 g3 g4
  have hb9 := hbw.trans ((k7.below (Nat.le_refl _) hbw.size).trans (k5.below (Nat.le_succ _) (Nat.le_trans hbw.size k7.size)))
  generalize ((((((((((((w6.setCell ⟨w.heap.size, 0, none⟩ (.int .i64 0)).setCell ⟨w.heap.size, 1, none⟩ (.int .i64 0)).setCell ⟨w.heap.size, 2, none⟩ (.int .i64 0)).setCell ⟨w.heap.size, 3, none⟩ (.int .i64 0)).setCell ⟨w.heap.size, 4, none⟩ (.slice none 0 0)).setCell ⟨w.heap.size, 5, none⟩ (.slice none 0 0)).setCell ⟨w.heap.size, 6, none⟩ (.slice none 0 0)).setCell ⟨w.heap.size + 1, 0, none⟩ (.int .i64 E)).setCell ⟨w.heap.size + 1, 1, none⟩ (.int .i64 (-1))).setCell ⟨w.heap.size + 1, 2, none⟩ (.slice none 0 0)).setCell ⟨w.heap.size + 1, 3, none⟩ (.slice none 0 0)).setCell ⟨w.heap.size + 1, 4, none⟩ (.slice none 0 0)) = W9 at *
  go_wp2
  refine bodyPost_ret (v := .tuple #[.agg #[.int .i64 0, .int .i64 0, .int .i64 0, .int .i64 0, .slice none 0 0, .slice none 0 0, .slice none 0 0], .agg #[.int .i64 E, .int .i64 (-1), .slice none 0 0, .slice none 0 0, .slice none 0 0]]) (by simp [results, Tryz.results18, go_sem, q0, q1, q2, q3, q4, q5, q6, g0, g1, g2, g3, g4]) rfl ?_
  exact ⟨noIv, ⟨E, -1, ⟨none, 0, 0⟩, ⟨none, 0, 0⟩, ⟨none, 0, 0⟩⟩, rfl, by rw [HKn.out]; exact noIm_is _, by rw [HL.out]; exact zero_is _ _ _, hb9⟩
end Go.Proofs.YtngehojibcmieaaGreatDoor
end
