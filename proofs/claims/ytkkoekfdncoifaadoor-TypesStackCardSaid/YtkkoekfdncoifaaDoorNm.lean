/- What is proved here: plain facts on the operations' names and how many numbers they have. Conditions: none beyond those each theorem states. -/
import Derived.Test.YtkkoekfdncoifaaDoorRight
import Derived.Lib.Strings
namespace Go.Proofs.YtkkoekfdncoifaaDoor
open Go.ChangeShapes Go.WideShapes Go.RowKit

theorem names_tab : ∀ x y : Fin 26, (opNameOf x.val).data.toList = (opNameOf y.val).data.toList → x = y := by decide +kernel
theorem onm_in {a : Int} (h : kn a = true) : onm a = opNameOf a.toNat := by unfold onm; rw [h]; rfl
theorem onm_out {a : Int} (h : kn a = false) : onm a = ⟨#[]⟩ := by unfold onm; rw [h]; rfl
theorem onm_some {a : Int} (h : kn a = true) : (onm a).toList.isEmpty = false := by
  have hk := kn_iff.1 h
  rw [onm_in h, Lib.toList_data]
  cases he : (opNameOf a.toNat).data.toList with
  | cons => rfl
  | nil =>
    have := names_tab ⟨a.toNat, by omega⟩ ⟨0, by omega⟩ (by rw [he]; rfl)
    simp only [Fin.mk.injEq] at this
    omega
theorem onm_inj {a b : Int} (h : kn a = true) (he : (onm a).toList = (onm b).toList) : a = b := by
  cases hb : kn b
  · have h1 := onm_some h
    rw [he, onm_out hb, Lib.toList_data] at h1
    simp at h1
  · have hk := kn_iff.1 h
    have hk2 := kn_iff.1 hb
    rw [onm_in h, onm_in hb, Lib.toList_data, Lib.toList_data] at he
    have := names_tab ⟨a.toNat, by omega⟩ ⟨b.toNat, by omega⟩ he
    simp only [Fin.mk.injEq] at this
    omega
theorem args_pos {a : Int} (h : kn a = true) : 0 ≤ argsOf a := by unfold argsOf; rw [if_pos h]; omega
theorem args_neg {a : Int} (h : kn a = false) : argsOf a = -1 := by unfold argsOf; rw [if_neg (by simp [h])]
theorem right_out {i : Int × Int × Int} (h : kn i.1 = false) : right i = false := by unfold right; rw [h]; rfl

end Go.Proofs.YtkkoekfdncoifaaDoor
