/- What is proved here: the contract of whether an image asks little, its deadlines among it; a verdict's parts. Conditions: those each theorem states. plain facts on the fixed images: their bytes, what is told of them. Conditions: none. -/
import Derived.Test.YtngehojibcmieaaGreatDoorQI1
import Derived.Test.YtngehojibcmieaaGreatDoorQJ7
set_option maxRecDepth 100000
set_option maxHeartbeats 8000000
section
namespace Go.Proofs.YtngehojibcmieaaGreatDoor
open Go.ChangeShapes Go.WideShapes Go.RowKit
def dlE (t : TkP) : Bool := decide (20000 < t.de) && decide (t.de ≤ 1048576)
def ltE (m : ImP) : Int := if lightE m = 0 then 0 else if m.tasks.any dlE = true then 0 else 1
theorem light15_any (x : ImV) (m : ImP) (w : World) (h : x.Is w m) (r : Int) (hq : ltE m = r) :
  Calls Tryz.prog 9 #[x.v] w fun e w' => e = .returned (.int .i64 r) ∧ Below w.heap.size w w' := by
 obtain ⟨lg, hlg⟩ : ∃ lg, lightE m = lg := ⟨_, rfl⟩
 have LG := Lib.hid (fun W (hb : Below w.heap.size w W) => light_any x m W (h.below hb) lg hlg)
 have HTk : Hid (∀ k, k < x.tasks.n → ∃ b off t T, x.tasks.a = some ⟨b, off, none⟩ ∧ b < w.heap.size ∧ m.tasks[k]? = some T ∧ TaV.Is w t T ∧ ∀ j v, t.cells[j]? = some v → w.cell? ⟨b, off + k * 7 + j, none⟩ = some v) := fun k hk => h.task hk
 have hlen : x.tasks.n = m.tasks.length := h.2.2.2.2.2.2.1.1
 have hmx : x.tasks.n ≤ 140737488355328 := h.2.2.2.2.2.2.2
 have HLN := Lib.hid hlen
 have HQ : Hid ((if lg = 0 then 0 else if m.tasks.any dlE = true then 0 else 1) = r) := by show _ = _; rw [← hlg]; exact hq
 clear h hlen hq hlg
 obtain ⟨sw, la, cm, inp, ⟨sa, sn, sc⟩, ⟨ba, bn, bc⟩, ⟨ta, tn, tc⟩⟩ := x
 simp only [ImV.v, Sl.v] at LG HTk HLN hmx ⊢
 have C0 := Lib.hid (cells_new w #[.int .i64 sw, .int .i64 la, .int .i64 cm, .int .i64 inp, .slice sa sn sc, .slice ba bn bc, .slice ta tn tc] 26)
 have B0 := Lib.hid (below_alloc w (.cells #[.int .i64 sw, .int .i64 la, .int .i64 cm, .int .i64 inp, .slice sa sn sc, .slice ba bn bc, .slice ta tn tc] 26))
 by_cases z : lg = 0
 ·have e1 : (lg == 0) = true := by simpa using z
  have HR : Hid (r = 0) := by show r = 0; rw [← HQ.out, if_pos z]
  clear z HTk
  go_enter Tryz.func9, Tryz.ntmps9
  go_wp2_with (go_at_call 24; refine (LG.out _ B0.out).mono ?_; rintro e w1 ⟨rfl, hb1⟩)
  go_ret
  exact ⟨by rw [HR.out]; rfl, keep_below B0.out hb1⟩
 have e1 : (lg == 0) = false := by simpa using z
 have HR : Hid ((if m.tasks.any dlE = true then 0 else 1) = r) := by show _ = _; rw [← HQ.out, if_neg z]
 clear z HQ
 go_enter Tryz.func9, Tryz.ntmps9
 go_wp2_with (go_at_call 24; refine (LG.out _ B0.out).mono ?_; rintro e w1 ⟨rfl, hb1⟩; have c6 := keep_cell hb1 (C0.out 6 _ rfl); have bb := keep_below B0.out hb1)
 go_loopw [3] (fun i wr => ∃ k : Nat, k ≤ tn ∧ i = .int .i64 k ∧ wr = w1 ∧ Hid ((m.tasks.take k).any dlE = false)) (fun i _ => tn - (intOf i).toNat)
 case atStart => exact ⟨0, by omega, rfl, rfl, rfl⟩
 case round =>
  obtain ⟨k, hk, rfl, hwr, HS⟩ := hrel
  subst hwr
  by_cases hlt : k < tn
  ·obtain ⟨b9, o9, ⟨pr, pe, de, ji, ⟨xa, xn, xc⟩, ⟨oa, on, oc⟩, ⟨ca, cn, cc⟩⟩, T, rfl, hb9, hT, ht, hcs⟩ := HTk.out k hlt
   have d2 : wr.cell? ⟨b9, o9 + k * 7 + 2, none⟩ = some (.int .i64 de) := keep_cell bb (hcs 2 _ rfl)
   have hde : de = T.de := ht.2.2.1
   have i1 : (0 : Int) ≤ (k : Int) := by omega
   have i2 : (k : Int) < (tn : Int) := by omega
   have HX : Hid ((m.tasks.take (k + 1)).any dlE = (decide (20000 < de) && decide (de ≤ 1048576))) := by
    show _ = _
    rw [List.take_add_one, hT, List.any_append, HS.out, hde]
    show (false || (dlE T || false)) = _
    rw [Bool.false_or, Bool.or_false]; rfl
   have hTm := List.mem_of_getElem? hT
   have HTm : Hid (dlE T = (decide (20000 < de) && decide (de ≤ 1048576))) := by show _ = _; rw [hde]; rfl
   clear hcs ht hT hde
   by_cases g1 : 20000 < de
   ·have d1 : decide (20000 < de) = true := decide_eq_true g1
    by_cases g2 : de ≤ 1048576
    ·have d3 : decide (de ≤ 1048576) = true := decide_eq_true g2
     have HZ : Hid (r = 0) := by
      show r = 0
      rw [← HR.out, if_pos]
      exact List.any_eq_true.2 ⟨T, hTm, by rw [HTm.out, d1, d3]; rfl⟩
     clear HX HTm hTm
     go_wp2
     go_ret
     exact ⟨by rw [HZ.out]; rfl, bb⟩
    ·have d3 : decide (de ≤ 1048576) = false := decide_eq_false g2
     have HY : Hid ((m.tasks.take (k + 1)).any dlE = false) := by show _ = _; rw [HX.out, d1, d3]; rfl
     clear HX HTm hTm
     go_wp2
     go_roundw
     case rel => exact ⟨k + 1, by omega, by go_num, trivial, HY⟩
     case measure => simp [intOf]; omega
   ·have d1 : decide (20000 < de) = false := decide_eq_false g1
    have HY : Hid ((m.tasks.take (k + 1)).any dlE = false) := by show _ = _; rw [HX.out, d1]; rfl
    clear HX HTm hTm
    go_wp2
    go_roundw
    case rel => exact ⟨k + 1, by omega, by go_num, trivial, HY⟩
    case measure => simp [intOf]; omega
  ·have HZ : Hid (r = 1) := by
    show r = 1
    have := HS.out
    rw [show k = tn by omega, HLN.out, List.take_length] at this
    rw [← HR.out, this]; rfl
   go_wp2
   go_ret
   exact ⟨by rw [HZ.out]; rfl, bb⟩
theorem judgeW_any (x : ImV) (m : ImP) (w : World) (h : x.Is w m) (hN : Nms w) (E L : Int) (R : List Kd.RtR) (A C : List Int) (hK : jdA m = ⟨E, L, R, A, C⟩) :
  Calls Tryz.prog 13 #[x.v] w fun e w' => ∃ ra rc aa ac ca cc, e = .returned (.agg #[.int .i64 E, .int .i64 L, .slice ra R.length rc, .slice aa A.length ac, .slice ca C.length cc]) ∧ Kd.RowS w' ra R.length R ∧ Row w' aa A.length A ∧ Row w' ca C.length C ∧ Below w.heap.size w w' := by
 refine (judge_any x m w h hN).mono ?_
 rintro e w' ⟨⟨er, pl, ⟨ra, rn, rc⟩, ⟨aa, an, ac⟩, ⟨ca, cn, cc⟩⟩, rfl, ⟨h1, h2, h3, h4, h5⟩, hb, -⟩
 rw [hK] at h1 h2 h3 h4 h5
 simp only at h1 h2 h3 h4 h5
 subst h1 h2
 have e3 : rn = R.length := h3.1
 have e4 : an = A.length := h4.1
 have e5 : cn = C.length := h5.1
 subst e3 e4 e5
 exact ⟨ra, rc, aa, ac, ca, cc, rfl, h3, h4, h5, hb⟩
end Go.Proofs.YtngehojibcmieaaGreatDoor
end
section
namespace Go.Proofs.YtngehojibcmieaaGreatDoor
theorem jd12 : jdA (sP 12) = ⟨0, -1, [⟨7, 0, 100, 50, 0, 1⟩, ⟨7, 3, 40, 12, 2, 2⟩], [14, 12], [2]⟩ := by kernel_rfl
theorem jd11 : jdA (sP 11) = ⟨13, 1, [⟨7, 0, 100, 50, 0, 1⟩, ⟨7, 3, 40, 11, 2, 2⟩], [], [2]⟩ := by kernel_rfl
theorem jd00 : jdA noIm = ⟨12, -1, [], [], []⟩ := by kernel_rfl
theorem decShort : decM [80, 76, 67, 49] = (noIm, 5) := by kernel_rfl
theorem dec12 : decM (encS (sP 12)) = (sP 12, 0) := by kernel_rfl
theorem fit12 : FitM (sP 12) where
 ok := by kernel_rfl
 num := fun x hx => by
  have : x = 0 ∨ x = 1 ∨ x = 1 ∨ x = 0 := by simpa [sP] using hx
  rcases this with h | h | h | h <;> subst h <;> exact ⟨by decide, by decide⟩
 safe := fun x hx => by cases hx
 blocks := fun l hl x hx => by
  obtain rfl : l = [0] := by simpa [sP] using hl
  obtain rfl : x = 0 := by simpa using hx
  exact ⟨by decide, by decide⟩
 tasks := fun t ht => by
  have hco : Kb.AllFitI sCo := fun i hi => by
   have : i = (23, 0, 0) ∨ i = (1, 1, 0) ∨ i = (18, 0, 0) ∨ i = (24, 0, 0) ∨ i = (25, 0, 0) := by simpa [sCo] using hi
   rcases this with h | h | h | h | h <;> subst h <;> exact ⟨⟨by decide, by decide⟩, ⟨by decide, by decide⟩, ⟨by decide, by decide⟩⟩
  have h0 : FitsA [0] := fun x hx => by
   obtain rfl : x = 0 := by simpa using hx
   exact ⟨by decide, by decide⟩
  have hn : FitsA [] := fun x hx => by cases hx
  have : t = ⟨1, 100, 50, 0, [0], [], sCo⟩ ∨ t = ⟨2, 40, 12, 2, [0], [], sCo⟩ := by simpa [sP] using ht
  rcases this with h | h
  ·subst h
   exact ⟨fun x hx => by
    have : x = 1 ∨ x = 100 ∨ x = 50 ∨ x = 0 := by simpa using hx
    rcases this with h | h | h | h <;> subst h <;> exact ⟨by decide, by decide⟩, h0, hn, hco, by decide, by decide⟩
  ·subst h
   exact ⟨fun x hx => by
    have : x = 2 ∨ x = 40 ∨ x = 12 ∨ x = 2 := by simpa using hx
    rcases this with h | h | h | h <;> subst h <;> exact ⟨by decide, by decide⟩, h0, hn, hco, by decide, by decide⟩
theorem len12 : (bs (encS (sP 12))).size ≤ 1000000 := by
 rw [bs_size]
 exact of_decide_eq_true (by kernel_rfl)
end Go.Proofs.YtngehojibcmieaaGreatDoor
end
