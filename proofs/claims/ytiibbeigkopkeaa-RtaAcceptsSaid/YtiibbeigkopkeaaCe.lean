/- What is proved here: contracts of the program's Next and Response. Conditions: rows are not too long. -/
import Derived.Test.YtiibbeigkopkeaaCd
import Derived.Test.YtiibbeigkopkeaaRp
import Derived.ScopeJumps
import Derived.WalkMore
namespace Go.Proofs.Ytiibbeigkopkeaa
open Go.ChangeShapes Go.WideShapes Go.RowKit

theorem nxR_smR {L : List RtR} {k : Nat} {wv : Int} {x : RtR} (hg : rgR L = true) (hk : L[k]? = some x) (hw : rtI wv = true) : nxR L k wv = smR L x k wv := nxR_at hg hk hw
theorem rightP (n : Int) (v : Bool) (h : rtI n = v) (w : World) : Calls Try.prog 22 #[.int .i64 n] w fun e w' => e = .returned (.bool v) ∧ w' = w :=
  (right_any n w).mono (fun e w' ⟨h1, h2⟩ => ⟨by rw [h1]; rw [show rt n = v from h], h2⟩)
set_option maxHeartbeats 4000000 in
set_option maxRecDepth 100000 in
theorem nextP_any (a : Option Addr) (n c : Nat) (L : List RtR) (i wv : Int) (w : World) (hr : RowS w a n L) (hn : n ≤ 140737488355328) (rv er : Int) (hq : nxR L i wv = (rv, er)) :
    Calls Try.prog 12 #[.slice a n c, .int .i64 i, .int .i64 wv] w fun e w' => e = .returned (.tuple #[.int .i64 rv, .int .i64 er]) ∧ Below w.heap.size w w' := by
  obtain ⟨g, hg⟩ : ∃ g, (rgR L && (decide (0 ≤ i) && decide (i < (L.length : Int)))) = g := ⟨_, rfl⟩
  have CH := Lib.hid (hasP_any a n c L i w hr hn g hg)
  cases g
  · rw [nxR_bad (by cases h1 : rgR L <;> cases h2 : decide (0 ≤ i) <;> cases h3 : decide (i < (L.length : Int)) <;> rw [h1, h2, h3] at hg <;> first | rfl | cases hg)] at hq; cases hq
    clear hg
    go_enter Try.func12, Try.ntmps12
    go_wp2_with (go_at_call 21; refine CH.out.mono ?_; rintro e w2 ⟨rfl, hb2⟩)
    go_ret2
    exact ⟨rfl, hb2⟩
  obtain ⟨g2, hg2⟩ : ∃ g, rtI wv = g := ⟨_, rfl⟩
  have CW := Lib.hid (fun W => rightP wv g2 hg2 W)
  cases g2
  · rw [nxR_bad (by rw [hg2]; simp)] at hq; cases hq
    clear hg
    go_enter Try.func12, Try.ntmps12
    go_wp2_with (first
      | (go_at_call 21; refine CH.out.mono ?_; rintro e w2 ⟨rfl, hb2⟩)
      | (go_at_call 22; refine (CW.out _).mono ?_; rintro e w3 ⟨rfl, hw3⟩; have hw3 := hw3.symm; subst hw3))
    go_ret2
    exact ⟨rfl, hb2⟩
  simp only [Bool.and_eq_true, decide_eq_true_eq] at hg
  obtain ⟨i0, rfl⟩ := Int.eq_ofNat_of_zero_le hg.2.1
  obtain ⟨x, hx⟩ : ∃ x, L[i0]? = some x := ⟨_, List.getElem?_eq_getElem (by omega)⟩
  rw [nxR_smR hg.1 hx hg2] at hq
  have CS := Lib.hid (fun W (h : Below w.heap.size w W) => sumP_any a n c L i0 x wv W (hr.below h) hn hg.1 hx hg2 rv er hq)
  clear hg hg2 hx hq
  go_enter Try.func12, Try.ntmps12
  go_wp2_with (first
    | (go_at_call 21; refine CH.out.mono ?_; rintro e w2 ⟨rfl, hb2⟩)
    | (go_at_call 22; refine (CW.out _).mono ?_; rintro e w3 ⟨rfl, hw3⟩; have hw3 := hw3.symm; subst hw3)
    | (go_at_call 23; refine (CS.out _ hb2).mono ?_; rintro e w4 ⟨rfl, hb4⟩))
  go_ret2
  exact ⟨rfl, keep_below hb2 hb4⟩
theorem scope_jumps {P : Program} {a : Act} {w : World} {Q : Exit → Act → World → Prop} {c rest : Code} (l : Nat) (J : Act → World → Prop) (μ : Act → World → Nat) (hf : findLabel c l = some (Code.skip.seq rest))
    (first : (∀ a w, J a w → rest.wp P (Exit.jump l J Q) a w) → c.wp P (Exit.jump l J Q) a w)
    (pass : ∀ a w, J a w → rest.wp P (Exit.jump l (fun a' w' => J a' w' ∧ μ a' w' < μ a w) Q) a w) : (Code.scope c).wp P Q a w :=
  wp_scope_jumps l J μ hf (first fun a w h => wp_mono (pass a w h) (fun e a' w' h2 => by
    cases e
    case goto => exact ⟨h2.1, h2.2.1⟩
    all_goals exact h2)) (fun a w h => wp_seq (Go.wp_skip (pass a w h)))
set_option maxHeartbeats 4000000 in
set_option maxRecDepth 100000 in
theorem respP_any (a : Option Addr) (n c : Nat) (L : List RtR) (i : Int) (w : World) (hr : RowS w a n L) (hn : n ≤ 140737488355328) (rv er : Int) (hq : rspR L i = (rv, er)) :
    Calls Try.prog 14 #[.slice a n c, .int .i64 i] w fun e w' => e = .returned (.tuple #[.int .i64 rv, .int .i64 er]) ∧ Below w.heap.size w w' := by
  have HL := Lib.hid hr.1
  obtain ⟨g, hg⟩ : ∃ g, (rgR L && (decide (0 ≤ i) && decide (i < (L.length : Int)))) = g := ⟨_, rfl⟩
  have CH := Lib.hid (hasP_any a n c L i w hr hn g hg)
  cases g
  · rw [rspR_bad hg] at hq; cases hq
    clear hg
    go_enter Try.func14, Try.ntmps14
    go_wp2
    go_step3
    go_wp2_with (go_at_call 21; refine CH.out.mono ?_; rintro e w2 ⟨rfl, hb2⟩)
    rw [Exit.noGoto_ret]
    go_ret2
    exact ⟨rfl, hb2⟩
  simp only [Bool.and_eq_true, decide_eq_true_eq] at hg
  obtain ⟨i0, rfl⟩ := Int.eq_ofNat_of_zero_le hg.2.1
  have hi0 : i0 < n := by have := HL.out; omega
  obtain ⟨b1, o1, x, e1, hB1, hx, f0, f1, f2, f3, f4, f5⟩ := hr.item (Below.refl _ _) hi0
  have HQ := Lib.hid ((rspR_at hg.1 hx).symm.trans hq)
  have CN := Lib.hid (fun (wv : Int) (hw : rtI wv = true) (p : Int × Int) (hp : (match nxO x (oth L x.P i0) wv with | some m => (m, (0 : Int)) | none => (0, 4)) = p) W (hb : Below w.heap.size w W) => sumP_any a n c L i0 x wv W (hr.below hb) hn hg.1 hx hw p.1 p.2 hp)
  have hgr := Lib.hid (nxO_grows (r := x) (o := oth L x.P i0) (rgR_mem hg.1 (List.mem_of_getElem? hx)) (fun y hy => rgR_mem hg.1 (oth_mem hy).1))
  have hlim := Lib.hid (fun W m (h : nxO x (oth L x.P i0) W = some m) => (nxO_some.1 h).2)
  obtain ⟨_, _, _, ⟨p7, p8⟩, ⟨p9, p10⟩, _, _⟩ := okR_parts (rgR_mem hg.1 (List.mem_of_getElem? hx))
  obtain ⟨f, hf⟩ : ∃ f, nxO x (oth L x.P i0) = f := ⟨_, rfl⟩
  rw [hf] at HQ CN hgr hlim
  have HF := Lib.hid (And.intro f3 f4)
  have HI : Hid (itr f x.D x.J 13 ((x.D + 1 - 0).toNat + 1) 0 = (rv, er)) := by
    have := HQ.out
    unfold rsp at this
    rw [show x.D.toNat + 2 = (x.D + 1 - 0).toNat + 1 by omega] at this
    exact this
  subst e1
  have HBR := Lib.hid hr
  clear hq hx hg hf f0 f1 f2 f3 f4 f5 hr
  have i1 : (0 : Int) ≤ (i0 : Int) := by omega
  have i2 : (i0 : Int) < (n : Int) := by omega
  go_enter Try.func14, Try.ntmps14
  go_wp2
  refine scope_jumps 0 (fun a' w' => ∃ (W : Int) (u7 u8 u9 u10 u11 u12 u13 u14 u15 u16 u17 u18 u19 u20 u21 u22 u23 u24 u25 u26 u27 u28 u29 u30 u31 u32 u33 u34 u35 u36 u37 u38 u39 u40 u41 u42 : Value), a' = { tmps := #[.slice (some ⟨b1, o1, none⟩) n c, .int .i64 (i0 : Int), undef, undef, .int .i64 0, .int .i64 0, .int .i64 W, u7, u8, u9, u10, u11, u12, u13, u14, u15, u16, u17, u18, u19, u20, u21, u22, u23, u24, u25, u26, u27, u28, u29, u30, u31, u32, u33, u34, u35, u36, u37, u38, u39, u40, u41, u42], defers := [] } ∧ 0 ≤ W ∧ W ≤ x.D ∧ Hid (OnWay f W) ∧ Hid (itr f x.D x.J 13 ((x.D + 1 - W).toNat + 1) W = (rv, er)) ∧ Hid (Below w.heap.size w w')) (fun a' _ => (x.D + 1 - intOf (a'.tmps.getD 6 undef)).toNat) rfl ?_ ?_
  · intro hp
    go_wp2_with (go_at_call 21; refine CH.out.mono ?_; rintro e w2 ⟨rfl, hb2⟩)
    go_step3
    rename_i hK
    exact hK _ _ (hp _ _ ⟨0, _, _, _, _, _, _, _, _, _, _, _, _, _, _, _, _, _, _, _, _, _, _, _, _, _, _, _, _, _, _, _, _, _, _, _, _, rfl, Int.le_refl _, by omega, OnWay.zero hgr.out, HI, hb2⟩)
  · rintro a' wr ⟨W, u7, u8, u9, u10, u11, u12, u13, u14, u15, u16, u17, u18, u19, u20, u21, u22, u23, u24, u25, u26, u27, u28, u29, u30, u31, u32, u33, u34, u35, u36, u37, u38, u39, u40, u41, u42, rfl, hW0, hWD, HOW, HIT, HBL⟩
    have hwr : rtI W = true := rtI_iff.2 (by omega)
    cases hfW : f W with
    | none =>
      have C := Lib.hid (CN.out W hwr (0, 4) (by rw [hfW]) wr HBL.out)
      have HR : Hid ((0, 4) = (rv, er)) := (itr_none hfW).symm.trans HIT.out
      clear hfW hwr
      go_wp2_with (go_at_call 23; refine C.out.mono ?_; rintro e w3 ⟨rfl, hb3⟩; have x3 := keep_cell (keep_below HBL.out hb3) HF.out.1; have x4 := keep_cell (keep_below HBL.out hb3) HF.out.2)
      simp only [Exit.jump]
      go_ret2
      exact ⟨by have := HR.out; cases this; rfl, keep_below HBL.out hb3⟩
    | some m =>
      have C := Lib.hid (CN.out W hwr (m, 0) (by rw [hfW]) wr HBL.out)
      have hWm := HOW.out.2 m hfW
      have hlm := hlim.out W m hfW
      have HFW := Lib.hid hfW
      have HON := Lib.hid (HOW.out.next hgr.out hfW)
      have hm2 : m < 4611686018427387904 := by have := hlm.2; omega
      have wJ : IntKind.i64.wrap (x.J + m) = x.J + m := by rw [IntKind.wrap_i64]; omega
      clear hfW hwr hlm
      by_cases c1 : x.D < x.J + m
      · have HR : Hid ((0, 13) = (rv, er)) := (itr_late HFW.out (by omega)).symm.trans HIT.out
        have d1 : decide (x.D < x.J + m) = true := decide_eq_true c1
        go_wp2_with (go_at_call 23; refine C.out.mono ?_; rintro e w3 ⟨rfl, hb3⟩; have x3 := keep_cell (keep_below HBL.out hb3) HF.out.1; have x4 := keep_cell (keep_below HBL.out hb3) HF.out.2)
        simp only [Exit.jump]
        go_ret2
        exact ⟨by have := HR.out; cases this; rfl, keep_below HBL.out hb3⟩
      have d1 : decide (x.D < x.J + m) = false := decide_eq_false c1
      by_cases c3 : m = W
      · have HR : Hid ((m + x.J, 0) = (rv, er)) := by
          have h := itr_same (f := f) (D := x.D) (J := x.J) (eT := 13) (k := (x.D + 1 - W).toNat) (w := W) (by rw [← c3] at HFW ⊢; exact HFW.out) (by omega)
          rw [c3]; exact h.symm.trans HIT.out
        subst c3
        go_wp2_with (go_at_call 23; refine C.out.mono ?_; rintro e w3 ⟨rfl, hb3⟩; have x3 := keep_cell (keep_below HBL.out hb3) HF.out.1; have x4 := keep_cell (keep_below HBL.out hb3) HF.out.2)
        simp only [Exit.jump]
        go_ret2
        exact ⟨by have := HR.out; cases this; rw [Int.add_comm]; rfl, keep_below HBL.out hb3⟩
      · have d3 : (m == W) = false := beq_eq_false_iff_ne.2 c3
        have HIT2 : Hid (itr f x.D x.J 13 ((x.D + 1 - m).toNat + 1) m = (rv, er)) := by
          have h1 := (itr_on (f := f) (D := x.D) (J := x.J) (eT := 13) (k := (x.D + 1 - W).toNat) HFW.out (by omega) c3).symm.trans HIT.out
          have h2 := itr_more (f := f) (D := x.D) (J := x.J) (eT := 13) hgr.out ((x.D + 1 - m).toNat + 1) ((x.D + 1 - W).toNat - ((x.D + 1 - m).toNat + 1)) m HON.out (by omega) (by omega)
          rw [show (x.D + 1 - m).toNat + 1 + ((x.D + 1 - W).toNat - ((x.D + 1 - m).toNat + 1)) = (x.D + 1 - W).toNat by omega] at h2
          exact h2.symm.trans h1
        go_wp2_with (go_at_call 23; refine C.out.mono ?_; rintro e w3 ⟨rfl, hb3⟩; have x3 := keep_cell (keep_below HBL.out hb3) HF.out.1; have x4 := keep_cell (keep_below HBL.out hb3) HF.out.2)
        go_step3
        refine ⟨rfl, ⟨m, _, _, _, _, _, _, _, _, _, _, _, _, _, _, _, _, _, _, _, _, _, _, _, _, _, _, _, _, _, _, _, _, _, _, _, _, rfl, by omega, by omega, HON, HIT2, keep_below HBL.out hb3⟩, ?_⟩
        simp [intOf]
        omega
end Go.Proofs.Ytiibbeigkopkeaa
