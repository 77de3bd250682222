/- What is proved here: a contract of the document's part. Conditions: the row and the number can be. a contract of the document's Next. Conditions: rows are not too long. a contract of the document's Response. a contract of the document's Accept. -/
import Derived.Test.YtngehojibcmieaaGreatDoorQE3
import Derived.RegionTactic
import Derived.ChangeAlike
section
namespace Go.Proofs.YtngehojibcmieaaGreatDoor.Kd
open Go.ChangeShapes Go.WideShapes Go.RowKit
theorem lit2 (W : World) (x y : Int) : Row (W.alloc (.cells #[.int .i64 x, .int .i64 y] 3)) (some ⟨W.heap.size, 0, none⟩) 2 [x, y] := lit_ints W _ _ 2 rfl rfl (by simp)
theorem Row.at_blk {W : World} {m k n : Nat} {l : List Int} (h : Row W (some ⟨m, 0, none⟩) n l) (e : m = k) : Row W (some ⟨k, 0, none⟩) n l := e ▸ h
theorem alloc_size (W : World) (o : Obj) : (W.alloc o).heap.size = W.heap.size + 1 := by simp
theorem qt_le {a b : Int} (ha : 0 ≤ a) (hb : 1 ≤ b) : qt a b ≤ a := by
 have h := qt_mono (a := a) (a' := a * b) (by omega : 0 < b) (by have := Int.mul_le_mul_of_nonneg_left hb ha; omega)
 have e : qt (a * b) b = a := by
  unfold qt
  rw [Int.mul_emod_left, if_neg (by omega), Int.mul_ediv_cancel _ (by omega)]
 omega
theorem act_mix2 {a a' : Act} {l : List Value} (lo n d d2 : Nat) (v v2 : Value) (hl : a.tmps = l.toArray) (hs : a'.tmps.size = a.tmps.size) (hd : a'.defers = a.defers) (hn : lo + n ≤ l.length) (hdl : d < l.length) (hdl2 : d2 < l.length) (hv : a'.eval (.tmp d) = v) (hv2 : a'.eval (.tmp d2) = v2) (hdo : d < lo ∨ lo + n ≤ d)
  (ho : ∀ k, k ≠ d → k ≠ d2 → (k < lo ∨ lo + n ≤ k) → a'.eval (.tmp k) = a.eval (.tmp k)) :
  ∃ us : List Value, us.length = n ∧ a' = { tmps := (((l.set d2 v2).set d v).take lo ++ (us ++ ((l.set d2 v2).set d v).drop (lo + n))).toArray, defers := a.defers } :=
 act_mix1 (a := { tmps := (l.set d2 v2).toArray, defers := a.defers }) (a' := a') (l := l.set d2 v2) lo n d v rfl (by rw [hs, hl]; simp) hd (by rw [List.length_set]; exact hn) (by rw [List.length_set]; exact hdl) hv hdo (fun k hkd hk => by
  by_cases e : k = d2
  ·subst e
   rw [hv2]; unfold Act.eval; simp [hdl2]
  ·rw [ho k hkd e hk]
   unfold Act.eval
   rw [hl]
   simp [List.getElem?_set_ne (Ne.symm e)])
theorem oth_in {L : List RtR} {k i0 : Nat} {y : RtR} {p : Int} (h : L[k]? = some y) (hk : ¬ k = i0) (hp : p ≤ y.P) : y ∈ oth L p i0 := by
 unfold oth
 refine List.mem_map.2 ⟨(y, k), List.mem_filter.2 ⟨?_, by unfold cnt; simp [hk, hp]⟩, rfl⟩
 refine List.mem_of_getElem? (i := k) ?_
 rw [List.getElem?_zipIdx, h]; simp
theorem nxO_bad {x y : RtR} {o : List RtR} {wv : Int} (hy : y ∈ o) (hb : ptB y wv (sames x.P y) = true) : nxO x o wv = none := by
 unfold nxO
 rw [if_pos (Or.inl (by unfold suB; rw [List.any_eq_true]; exact ⟨y, hy, hb⟩))]
def rspR (L : List RtR) (i : Int) : Int × Int :=
 if (rgR L && (decide (0 ≤ i) && decide (i < (L.length : Int)))) = true then
  rsp (nxO (L.getD i.toNat ⟨0, 0, 0, 0, 0, 0⟩) (oth L (L.getD i.toNat ⟨0, 0, 0, 0, 0, 0⟩).P i.toNat)) (L.getD i.toNat ⟨0, 0, 0, 0, 0, 0⟩).D (L.getD i.toNat ⟨0, 0, 0, 0, 0, 0⟩).J 13
 else (0, 1)
theorem rspR_bad {L : List RtR} {i : Int} (h : (rgR L && (decide (0 ≤ i) && decide (i < (L.length : Int)))) = false) : rspR L i = (0, 1) := by
 unfold rspR; rw [if_neg (by rw [h]; decide)]
theorem rspR_at {L : List RtR} {k : Nat} {x : RtR} (hg : rgR L = true) (hk : L[k]? = some x) : rspR L k = rsp (nxO x (oth L x.P k)) x.D x.J 13 := by
 have hl : k < L.length := (List.getElem?_eq_some_iff.1 hk).1
 unfold rspR
 rw [if_pos (by rw [hg, decide_eq_true (by omega : (0 : Int) ≤ k), decide_eq_true (by omega : (k : Int) < (L.length : Int))]; rfl)]
 have e : L.getD (k : Int).toNat ⟨0, 0, 0, 0, 0, 0⟩ = x := by rw [Int.toNat_natCast, List.getD_eq_getElem?_getD, hk]; rfl
 rw [e, Int.toNat_natCast]
theorem itr_none {f : Int → Option Int} {D J eT : Int} {k : Nat} {w : Int} (h : f w = none) : itr f D J eT (k + 1) w = (0, 4) := by unfold itr; rw [h]
theorem itr_late {f : Int → Option Int} {D J eT : Int} {k : Nat} {w m : Int} (h : f w = some m) (hm : D < m ∨ D - m < J) : itr f D J eT (k + 1) w = (0, eT) := by unfold itr; rw [h]; exact if_pos hm
theorem itr_same {f : Int → Option Int} {D J eT : Int} {k : Nat} {w : Int} (h : f w = some w) (hm : ¬(D < w ∨ D - w < J)) : itr f D J eT (k + 1) w = (w + J, 0) := by unfold itr; rw [h]; exact (if_neg hm).trans (if_pos rfl)
theorem itr_on {f : Int → Option Int} {D J eT : Int} {k : Nat} {w m : Int} (h : f w = some m) (hm : ¬(D < m ∨ D - m < J)) (hne : m ≠ w) : itr f D J eT (k + 1) w = itr f D J eT k m := by
 conv => lhs; unfold itr
 rw [h]; exact (if_neg hm).trans (if_neg hne)
def accK (L : List RtR) : Nat → Option (Nat × Int)
 | 0 => none
 | m + 1 => match accK L m with
  | some z => some z
  | none => if (rspR L m).2 ≠ 0 then some (m, (rspR L m).2) else none
def accV (L : List RtR) (m : Nat) : List Int := (List.range m).map fun j : Nat => (rspR L (j : Int)).1
def accR (L : List RtR) : List Int × Int × Int :=
 if rgR L = true then match accK L L.length with
  | some (k, e) => ([], (k : Int), e)
  | none => (accV L L.length, -1, 0)
 else ([], -1, 1)
theorem accK_none {L : List RtR} {m : Nat} (h : accK L m = none) (h0 : (rspR L m).2 = 0) : accK L (m + 1) = none := by
 conv => lhs; unfold accK
 rw [h]; exact if_neg (by rw [h0]; simp)
theorem accK_some {L : List RtR} {m : Nat} (h : accK L m = none) (h0 : (rspR L m).2 ≠ 0) : accK L (m + 1) = some (m, (rspR L m).2) := by
 conv => lhs; unfold accK
 rw [h]; exact if_pos h0
theorem accK_more {L : List RtR} {m : Nat} {z : Nat × Int} (h : accK L m = some z) : ∀ j, accK L (m + j) = some z
 | 0 => h
 | j + 1 => by
  rw [show m + (j + 1) = (m + j) + 1 by omega]
  conv => lhs; unfold accK
  rw [accK_more h j]
end Go.Proofs.YtngehojibcmieaaGreatDoor.Kd
end
