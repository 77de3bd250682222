/- What is proved here: what the listed variables hold ('Env'), and the contracts of strconv.Itoa and text.Number. Conditions: 'Env'; the string is no longer than 2^48 bytes. -/
import Derived.Test.YtofmlodfhdjjiaaDoorCut
import Derived.Lib.SmallJoins
namespace Go.Proofs.YtofmlodfhdjjiaaDoor
open Go.ChangeShapes Go.WideShapes Go.RowKit

theorem gPow : Tryd.prog.globalNamed "internal/strconv.uint64pow10" = some 4 := by kernel_rfl
def Pow (w : World) : Prop := Lib.TabIs Tryd.prog w "internal/strconv.uint64pow10" .u64 Lib.pow10Tab
/-- The listed variables hold what their initialisers lay. -/
structure Env (w : World) : Prop where
  nms : Nms w
  size : 3 < w.heap.size
  synt : ∃ t p, w.cell? ⟨2, 0, none⟩ = some (.iface t p)
  rang : ∃ t p, w.cell? ⟨3, 0, none⟩ = some (.iface t p)
  pow : Pow w
theorem Env.below {w w' : World} (h : Env w) (hb : Below w.heap.size w w') : Env w' := by
  obtain ⟨t2, p2, c2⟩ := h.synt
  obtain ⟨t3, p3, c3⟩ := h.rang
  exact ⟨h.nms.below hb, Nat.lt_of_lt_of_le h.size hb.size, ⟨t2, p2, (hb.cell (p := ⟨2, 0, none⟩) (Nat.lt_trans (by decide) h.size)).trans c2⟩, ⟨t3, p3, (hb.cell (p := ⟨3, 0, none⟩) h.size).trans c3⟩, Go.Joins.tab_stays gPow h.pow hb (Nat.le_refl _)⟩
theorem grow_below (w : World) (k : Nat) (os : Array Obj) : Below w.heap.size w (Go.Sort.grow (w.drewN k) os) := by
  refine ⟨rfl, rfl, rfl, ?_, fun j hj => ?_⟩
  · show w.heap.size ≤ (w.heap ++ os).size
    rw [Array.size_append]; omega
  · show (w.heap ++ os)[j]? = _
    exact Array.getElem?_append_left hj
theorem itoa_any (n : Int) (hf : Fits n) (w : World) (hE : Env w) :
    Calls Tryd.prog 24 #[.int .i64 n] w fun e w' => e = .returned (.string (bs (Lib.itoa n))) ∧ Below w.heap.size w w' := by
  refine (Tryd.strconv_Itoa n hf.1 hf.2 w hE.pow).mono ?_
  rintro e w' ⟨rfl, k, os, rfl⟩
  exact ⟨rfl, grow_below w k os⟩
theorem bytes_below (w : World) (t : ByteArray) : Below w.heap.size w (Lib.bytesWorld w 5 t) := Lib.bytesWorld_below w 5 t
/-- What strconv.Atoi leaves. -/
def AtoiPost (r : Lib.NumEnd Int) (w : World) (e : Ending) (w' : World) : Prop :=
  match r with
  | .ok v => e = .returned (.tuple #[.int .i64 v, .nilIface]) ∧ Below w.heap.size w w'
  | _ => (∃ x t p, e = .returned (.tuple #[.int .i64 x, .iface t p])) ∧ Below w.heap.size w w'
theorem atoi_any (s : ByteArray) (hs : s.size ≤ 281474976710656) (w : World) (hE : Env w) :
    Calls Tryd.prog 35 #[.string s] w (AtoiPost (Lib.atoiAll s.data.toList) w) := by
  cases h : Lib.atoiAll s.data.toList with
  | ok v =>
    refine (Tryd.strconv_Atoi_ok s (by omega) v h w).mono ?_
    rintro e w' ⟨rfl, rfl | ⟨t, rfl⟩⟩
    · exact ⟨rfl, Below.refl _ _⟩
    · exact ⟨rfl, bytes_below w t⟩
  | range =>
    obtain ⟨t, p, hc⟩ := hE.rang
    refine (Tryd.strconv_Atoi_range s hs h _ w hc (Or.inr ⟨t, p, rfl⟩)).mono ?_
    rintro e w' ⟨N, rfl, _, _, hb⟩
    exact ⟨⟨_, _, _, rfl⟩, hb⟩
  | _ =>
    obtain ⟨t, p, hc⟩ := hE.synt
    refine (Tryd.strconv_Atoi_syntax s hs h _ w hc (Or.inr ⟨t, p, rfl⟩)).mono ?_
    rintro e w' ⟨N, rfl, _, _, hb⟩
    exact ⟨⟨_, _, _, rfl⟩, hb⟩
/-- What a call leaves that answers two numbers. -/
def Two2 (r : Int × Int) (w : World) (e : Ending) (w' : World) : Prop := e = .returned (.tuple #[.int .i64 r.1, .int .i64 r.2]) ∧ Below w.heap.size w w'
set_option maxHeartbeats 1000000 in
theorem number_any (s : ByteArray) (hs : s.size ≤ 281474976710656) (w : World) (hE : Env w) :
    Calls Tryd.prog 17 #[.string s] w (Two2 (num s.data.toList) w) := by
  have CA := Lib.hid (fun W h => atoi_any s hs W h)
  have HE := Lib.hid hE
  cases h : Lib.atoiAll s.data.toList with
  | ok v =>
    have hv : Fits v := Lib.atoiAll_bounds h
    have CI := Lib.hid (fun W h => itoa_any v hv W h)
    rw [h] at CA
    obtain ⟨S, hS⟩ : ∃ S, S = bs (Lib.itoa v) := ⟨_, rfl⟩
    by_cases he : Lib.itoa v = s.data.toList
    · have e0 : num s.data.toList = (v, 0) := by unfold num; rw [h]; simp [he]
      have eS : S = s := by rw [hS, he, bs_of]
      rw [e0]
      rw [← hS, eS] at CI
      clear h he e0 hS eS hE
      go_enter Tryd.func17, Tryd.ntmps17
      go_wp2_with fail
      refine (CA.out _ HE.out).mono ?_
      rintro e w2 ⟨rfl, hb⟩
      have HE2 := Lib.hid (HE.out.below hb)
      go_wp2_with fail
      refine (CI.out _ HE2.out).mono ?_
      rintro e w3 ⟨rfl, hb2⟩
      go_wp2
      go_ret2
      exact ⟨rfl, hb.trans (hb2.mono hb.size)⟩
    · have e0 : num s.data.toList = (0, 3) := by unfold num; rw [h]; simp [he]
      have eS : (S.toList == s.toList) = false := by
        rw [beq_eq_false_iff_ne, Lib.toList_data, Lib.toList_data, hS, bs_data]; exact he
      rw [e0]
      rw [← hS] at CI
      clear h he e0 hS hE
      go_enter Tryd.func17, Tryd.ntmps17
      go_wp2_with fail
      refine (CA.out _ HE.out).mono ?_
      rintro e w2 ⟨rfl, hb⟩
      have HE2 := Lib.hid (HE.out.below hb)
      go_wp2_with fail
      refine (CI.out _ HE2.out).mono ?_
      rintro e w3 ⟨rfl, hb2⟩
      go_wp2
      go_ret2
      exact ⟨rfl, hb.trans (hb2.mono hb.size)⟩
  | range =>
    have e0 : num s.data.toList = (0, 3) := by unfold num; rw [h]
    rw [e0]
    rw [h] at CA
    clear h e0 hE
    go_enter Tryd.func17, Tryd.ntmps17
    go_wp2_with fail
    refine (CA.out _ HE.out).mono ?_
    rintro e w2 ⟨⟨x, t, p, rfl⟩, hb⟩
    go_wp2
    go_ret2
    exact ⟨rfl, hb⟩
  | _ =>
    have e0 : num s.data.toList = (0, 3) := by unfold num; rw [h]
    rw [e0]
    rw [h] at CA
    clear h e0 hE
    go_enter Tryd.func17, Tryd.ntmps17
    go_wp2_with fail
    refine (CA.out _ HE.out).mono ?_
    rintro e w2 ⟨⟨x, t, p, rfl⟩, hb⟩
    go_wp2
    go_ret2
    exact ⟨rfl, hb⟩
end Go.Proofs.YtofmlodfhdjjiaaDoor
