/- What is proved here: plain facts on acceptance: the first row that has no response; a greater deadline takes no response away. Conditions: those each theorem states. -/
import Derived.Test.YtiibbeigkopkeaaGp
namespace Go.Proofs.Ytiibbeigkopkeaa
open Go.ChangeShapes Go.WideShapes Go.RowKit

theorem accK_no {L : List RtR} : ∀ {m : Nat}, accK L m = none → ∀ j : Nat, j < m → (rspR L (j : Int)).2 = 0
  | 0, _, j, hj => by omega
  | m + 1, h, j, hj => by
    unfold accK at h
    cases hm : accK L m with
    | some z => rw [hm] at h; cases h
    | none =>
      rw [hm] at h
      by_cases c : (rspR L (m : Int)).2 ≠ 0
      · simp only [if_pos c] at h; cases h
      · by_cases e : j = m
        · subst e; exact Classical.not_not.1 c
        · exact accK_no hm j (by omega)
theorem accK_all {L : List RtR} : ∀ {m : Nat}, (∀ j : Nat, j < m → (rspR L (j : Int)).2 = 0) → accK L m = none
  | 0, _ => rfl
  | m + 1, h => accK_none (accK_all (fun j hj => h j (by omega))) (h m (by omega))
theorem accK_yes {L : List RtR} : ∀ {m k : Nat} {e : Int}, accK L m = some (k, e) → k < m ∧ (rspR L (k : Int)).2 = e ∧ e ≠ 0 ∧ ∀ j : Nat, j < k → (rspR L (j : Int)).2 = 0
  | 0, k, e, h => by cases h
  | m + 1, k, e, h => by
    unfold accK at h
    cases hm : accK L m with
    | some z =>
      rw [hm] at h
      cases h
      obtain ⟨h1, h2⟩ := accK_yes hm
      exact ⟨by omega, h2⟩
    | none =>
      rw [hm] at h
      by_cases c : (rspR L (m : Int)).2 ≠ 0
      · simp only [if_pos c] at h
        cases h
        exact ⟨by omega, rfl, c, accK_no hm⟩
      · simp only [if_neg c] at h; cases h
/-- A row without its deadline. -/
def noD (r : RtR) : RtR := { r with D := 0 }
theorem suV_noD (o : List RtR) (p w : Int) : suV (o.map noD) p w = suV o p w := by unfold suV; rw [List.map_map]; rfl
theorem suB_noD (o : List RtR) (p w : Int) : suB (o.map noD) p w = suB o p w := by unfold suB; rw [List.any_map]; rfl
theorem nxO_noD {r r' : RtR} {o o' : List RtR} (h1 : noD r = noD r') (h2 : o.map noD = o'.map noD) : nxO r o = nxO r' o' := by
  have e1 : r.C = r'.C := by have := congrArg RtR.C h1; exact this
  have e2 : r.B = r'.B := by have := congrArg RtR.B h1; exact this
  have e3 : r.P = r'.P := by have := congrArg RtR.P h1; exact this
  funext w
  unfold nxO
  rw [← suV_noD o, ← suB_noD o, h2, suV_noD, suB_noD, e1, e2, e3]
theorem wide_noD {L : List RtR} {k : Nat} {x : RtR} (d : Int) (h : L[k]? = some x) : (L.set k { x with D := d }).map noD = L.map noD := by
  rw [List.map_set]
  exact set_self (by rw [List.getElem?_map, h]; rfl)
theorem rgR_wide {L : List RtR} {k : Nat} {x : RtR} {d : Int} (hg : rgR L = true) (h : L[k]? = some x) (hd : x.D ≤ d) (hd2 : d ≤ 1048576) : rgR (L.set k { x with D := d }) = true := by
  have h8 : L.length ≤ 8 := by unfold rgR at hg; simp only [Bool.and_eq_true, decide_eq_true_eq] at hg; exact hg.2
  unfold rgR
  simp only [Bool.and_eq_true, List.all_eq_true, decide_eq_true_eq]
  refine ⟨fun y hy => ?_, by rw [List.length_set]; exact h8⟩
  rcases List.mem_or_eq_of_mem_set hy with hy | rfl
  · exact rgR_mem hg hy
  · obtain ⟨h1, h2, h3, h4, h5, h6, h7⟩ := okR_parts (rgR_mem hg (List.mem_of_getElem? h))
    unfold okR
    simp only [Bool.and_eq_true, decide_eq_true_eq, rtI_iff]
    omega
theorem wide_resp {L : List RtR} {k : Nat} {x : RtR} {d : Int} (hg : rgR L = true) (h : L[k]? = some x) (hd : x.D ≤ d) (hd2 : d ≤ 1048576) (j : Nat) (hj : j < L.length) (h0 : (rspR L (j : Int)).2 = 0) :
    (rspR (L.set k { x with D := d }) (j : Int)).2 = 0 := by
  obtain ⟨y, hy⟩ : ∃ y, L[j]? = some y := ⟨_, List.getElem?_eq_getElem hj⟩
  obtain ⟨y', hy', e1, e2⟩ : ∃ y', (L.set k { x with D := d })[j]? = some y' ∧ noD y' = noD y ∧ y.D ≤ y'.D := by
    rw [List.getElem?_set]
    by_cases c : k = j
    · subst c
      rw [if_pos rfl, if_pos hj]
      rw [h] at hy; cases hy
      exact ⟨_, rfl, rfl, hd⟩
    · rw [if_neg c]
      exact ⟨y, hy, rfl, Int.le_refl _⟩
  have hg' := rgR_wide hg h hd hd2
  have eP : y'.P = y.P := by have := congrArg RtR.P e1; exact this
  have eJ : y'.J = y.J := by have := congrArg RtR.J e1; exact this
  have eo : (oth (L.set k { x with D := d }) y'.P j).map noD = (oth L y.P j).map noD := by
    rw [← oth_map (f := noD) (fun _ => rfl), ← oth_map (f := noD) (fun _ => rfl), wide_noD d h, eP]
  have en := nxO_noD e1 eo
  have hy1 := rgR_mem hg (List.mem_of_getElem? hy)
  have gr := nxO_grows (r := y) (o := oth L y.P j) hy1 (fun z hz => rgR_mem hg (oth_mem hz).1)
  obtain ⟨v, hv⟩ : ∃ v, rspR L (j : Int) = (v, 0) := ⟨(rspR L (j : Int)).1, by rw [← h0]⟩
  rw [rspR_at hg hy] at hv
  rw [rspR_at hg' hy', en, eJ]
  obtain ⟨u, hu, _⟩ := rsp_le (by decide) gr gr (fun w _ z hz => ⟨z, hz, Int.le_refl _⟩) e2 hv
  rw [hu]
theorem acc_wide {L : List RtR} {k : Nat} {x : RtR} {d : Int} (hg : rgR L = true) (h : L[k]? = some x) (hd : x.D ≤ d) (hd2 : d ≤ 1048576) (h0 : accK L L.length = none) : ∃ l, accR (L.set k { x with D := d }) = (l, -1, 0) := by
  have e : accK (L.set k { x with D := d }) (L.set k { x with D := d }).length = none := by
    rw [List.length_set]
    exact accK_all (fun j hj => wide_resp hg h hd hd2 j hj (accK_no h0 j hj))
  unfold accR
  rw [if_pos (rgR_wide hg h hd hd2), e]
  exact ⟨_, rfl⟩
end Go.Proofs.Ytiibbeigkopkeaa
