/- What is proved here: plain facts on what is told of images: how their tasks use blocks, their rows, and that these can be. Conditions: those each theorem states. plain facts on responses of rows that ask less: of no more slots, no longer waits, no shorter periods, and fewer of them. Conditions: those each theorem states. plain facts on verdicts of images: what an error tells, what responses are, blocks' ceilings, longer periods, fewer tasks. Conditions: those each theorem states. -/
import Derived.Test.YtngehojibcmieaaGreatDoorQR1
import Derived.Test.YtngehojibcmieaaGreatDoorQC1
import Derived.Test.YtngehojibcmieaaGreatDoorQE4
section
namespace Go.Proofs.YtngehojibcmieaaGreatDoor
theorem riseC : ∀ (l : List Int) (a r : Int), Kc.riseE a r l = riseE a r l
 | [], _, _ => rfl
 | p :: l, a, r => by unfold Kc.riseE riseE; rw [riseC l p r]
def usT (m : ImP) (i : Nat) : Kc.UsP := ⟨(tkAt m i).pr, (tkAt m i).bl, lkA m i⟩
def usA (m : ImP) : List Kc.UsP := (List.range m.tasks.length).map (usT m)
def waA (m : ImP) : List Int := Kc.wL m.blocks.length (usA m)
def roT (m : ImP) (i : Nat) : Kd.RtR := ⟨slW m i, (waA m).getD i 0, (tkAt m i).pe, (tkAt m i).de, (tkAt m i).ji, (tkAt m i).pr⟩
def roA (m : ImP) : List Kd.RtR := (List.range m.tasks.length).map (roT m)
def ceA (m : ImP) : List Int := Kc.cL m.blocks.length (usA m)
structure VdP where
 (er pl : Int) (ro : List Kd.RtR) (re ce : List Int)
def jdA (m : ImP) : VdP := if (allE m).2 = 0 then ⟨(Kd.accR (roA m)).2.2, (Kd.accR (roA m)).2.1, roA m, (Kd.accR (roA m)).1, ceA m⟩ else ⟨(allE m).2, (allE m).1, [], [], []⟩
theorem usA_len (m : ImP) : (usA m).length = m.tasks.length := by simp [usA]
theorem roA_len (m : ImP) : (roA m).length = m.tasks.length := by simp [roA]
theorem usA_at {m : ImP} {i : Nat} (h : i < m.tasks.length) : (usA m)[i]? = some (usT m i) := by simp [usA, h]
theorem roA_at {m : ImP} {i : Nat} (h : i < m.tasks.length) : (roA m)[i]? = some (roT m i) := by simp [roA, h]
theorem usA_mem {m : ImP} {u : Kc.UsP} (h : u ∈ usA m) : ∃ i, i < m.tasks.length ∧ u = usT m i := by
 obtain ⟨i, hi, e⟩ := List.mem_map.1 h
 exact ⟨i, List.mem_range.1 hi, e.symm⟩
theorem roA_mem {m : ImP} {u : Kd.RtR} (h : u ∈ roA m) : ∃ i, i < m.tasks.length ∧ u = roT m i := by
 obtain ⟨i, hi, e⟩ := List.mem_map.1 h
 exact ⟨i, List.mem_range.1 hi, e.symm⟩
/-! ### All tasks can be run. -/
theorem allG_zero' {m : ImP} : ∀ (l : List TkP) (k : Int), 0 ≤ k → (allG m k l).2 = 0 → (∀ t ∈ l, wrE m t = 0) ∧ (allG m k l).1 = -1
 | [], _, _, _ => ⟨fun t h => absurd h (List.not_mem_nil), rfl⟩
 | t :: l, k, hk, h => by
  unfold allG at h ⊢
  by_cases h0 : wrE m t = 0
  ·rw [if_pos h0] at h ⊢
   obtain ⟨h1, h2⟩ := allG_zero' l (k + 1) (by omega) h
   refine ⟨fun u hu => ?_, h2⟩
   rcases List.mem_cons.1 hu with rfl | hu
   ·exact h0
   ·exact h1 u hu
  ·rw [if_neg h0] at h; exact absurd h h0
theorem allE_zero {m : ImP} (h : (allE m).2 = 0) : imE m = true ∧ (∀ t ∈ m.tasks, wrE m t = 0) ∧ allE m = (-1, 0) := by
 unfold allE at h ⊢
 cases h1 : imE m
 ·rw [h1] at h; simp at h
 ·rw [h1, if_pos rfl] at h
  rw [if_pos rfl]
  obtain ⟨h2, h3⟩ := allG_zero' m.tasks 0 (Int.le_refl _) h
  exact ⟨rfl, h2, Prod.ext h3 h⟩
theorem tk_mem {m : ImP} {i : Nat} (hi : i < m.tasks.length) : tkAt m i ∈ m.tasks ∧ m.tasks[i]? = some (tkAt m i) := by
 have := tkAt_mem (m := m) (i := (i : Int)) (by omega) (by omega)
 simpa using this
theorem tkAt_of {m : ImP} {i : Nat} {T : TkP} (h : m.tasks[i]? = some T) : tkAt m i = T := by
 unfold tkAt; rw [List.getD_eq_getElem?_getD, Int.toNat_natCast, h]; rfl
theorem taskE_of {m : ImP} (h : (allE m).2 = 0) {i : Nat} (hi : i < m.tasks.length) : taskE m i = 0 := by
 obtain ⟨h1, h2, _⟩ := allE_zero h
 rw [taskE_in h1 (by omega) (by omega)]
 exact h2 _ (tk_mem hi).1
structure TkOk (m : ImP) (i : Nat) : Prop where
 pr : 1 ≤ (tkAt m i).pr ∧ (tkAt m i).pr ≤ 100
 pe : 1 ≤ (tkAt m i).pe ∧ (tkAt m i).pe ≤ 1048576
 de : 1 ≤ (tkAt m i).de ∧ (tkAt m i).de ≤ (tkAt m i).pe
 ji : 0 ≤ (tkAt m i).ji ∧ (tkAt m i).ji ≤ 1048576
 bl : riseE (-1) m.blocks.length (tkAt m i).bl = true
 sl : 1 ≤ slW m i ∧ slW m i ≤ 1100000
 ll : (lkA m i).length = (tkAt m i).bl.length
 lk : ∀ n ∈ lkA m i, 0 ≤ n ∧ n ≤ 1100000
theorem tk_ok {m : ImP} (h : (allE m).2 = 0) {i : Nat} (hi : i < m.tasks.length) : TkOk m i := by
 have ht := taskE_of h hi
 obtain ⟨h1, _, _, h4⟩ := taskE_zero ht
 obtain ⟨n1, n2, n3, n4⟩ := numE_parts (imE_parts h1).1
 obtain ⟨k1, k2, k3, k4⟩ := tkE_parts ((tasksE_parts (imE_parts h1).2.2.2).2.2.1 _ (tk_mem hi).1)
 unfold tkNumE at k1
 simp only [Bool.and_eq_true, inB_iff] at k1
 obtain ⟨l1, l2, l3, _⟩ := locked_facts ht
 have hc := (wrE_zero h4).1
 have hu := (cE_zero hc).2
 have hs : slW m i ≤ 1100000 := by
  unfold slW cW
  rw [if_pos ht, if_pos hc]
  omega
 refine ⟨k1.1, k1.2.1, k1.2.2.1, k1.2.2.2, k2, ⟨by omega, hs⟩, l1, fun n hn => ?_⟩
 obtain ⟨k, hk, e⟩ := List.getElem_of_mem hn
 have := l3 k hk
 rw [List.getD_eq_getElem?_getD, List.getElem?_eq_getElem hk] at this
 simp only [Option.getD_some] at this
 omega
theorem few_tasks {m : ImP} (h : (allE m).2 = 0) : 1 ≤ m.tasks.length ∧ m.tasks.length ≤ 8 ∧ m.blocks.length ≤ 8 := by
 obtain ⟨h1, _, _⟩ := allE_zero h
 obtain ⟨_, _, h2, h3⟩ := imE_parts h1
 obtain ⟨h4, h5, _⟩ := tasksE_parts h3
 unfold blocksE at h2
 simp only [Bool.and_eq_true, decide_eq_true_eq] at h2
 exact ⟨h4, h5, h2.1⟩
theorem us_ok {m : ImP} (h : (allE m).2 = 0) : Kc.okL m.blocks.length (usA m) = true := by
 obtain ⟨h1, h2, h3⟩ := few_tasks h
 unfold Kc.okL
 simp only [Bool.and_eq_true, decide_eq_true_eq, List.all_eq_true, usA_len]
 refine ⟨Kc.inB_iff.2 ⟨by omega, by omega⟩, h2, fun u hu => ?_⟩
 obtain ⟨i, hi, rfl⟩ := usA_mem hu
 have t := tk_ok h hi
 unfold Kc.okU usT
 simp only [Bool.and_eq_true, decide_eq_true_eq, List.all_eq_true]
 refine ⟨Kc.inB_iff.2 t.pr, t.ll, by rw [riseC]; exact t.bl, fun n hn => ?_⟩
 have := t.lk n hn
 exact Kc.inB_iff.2 ⟨this.1, by omega⟩
theorem waA_eq {m : ImP} (h : (allE m).2 = 0) : waA m = Kc.waitL (usA m) := by unfold waA Kc.wL; rw [if_pos (us_ok h)]
theorem ceA_eq {m : ImP} (h : (allE m).2 = 0) : ceA m = Kc.ceilL m.blocks.length (usA m) := by unfold ceA Kc.cL; rw [if_pos (us_ok h)]
theorem waA_len {m : ImP} (h : (allE m).2 = 0) : (waA m).length = m.tasks.length := by rw [waA_eq h, Kc.waitL_len, usA_len]
theorem ceA_len {m : ImP} (h : (allE m).2 = 0) : (ceA m).length = m.blocks.length := by rw [ceA_eq h, Kc.ceilL_len]; omega
theorem waA_at {m : ImP} (h : (allE m).2 = 0) {i : Nat} (hi : i < m.tasks.length) : (waA m).getD i 0 = Kc.waB (usA m) (tkAt m i).pr ∧ (waA m)[i]? = some (Kc.waB (usA m) (tkAt m i).pr) := by
 have := Kc.waitL_at (usA_at hi)
 rw [← waA_eq h] at this
 exact ⟨by rw [List.getD_eq_getElem?_getD, this]; rfl, this⟩
theorem wa_bound {m : ImP} (h : (allE m).2 = 0) (p : Int) : 0 ≤ Kc.waB (usA m) p ∧ Kc.waB (usA m) p ≤ 1100000 := by
 refine ⟨Kc.waB_pos _ _, Kc.waB_le (by omega) fun u hu x hx => ?_⟩
 obtain ⟨i, hi, rfl⟩ := usA_mem hu
 exact ((tk_ok h hi).lk x hx).2
theorem ro_ok {m : ImP} (h : (allE m).2 = 0) {i : Nat} (hi : i < m.tasks.length) : Kd.okR (roT m i) = true := by
 have t := tk_ok h hi
 have w := wa_bound h (tkAt m i).pr
 have e := (waA_at h hi).1
 obtain ⟨t1, t2, t3, t4, _, t6, _, _⟩ := t
 unfold Kd.okR roT
 simp only [Bool.and_eq_true, decide_eq_true_eq, Kd.rtI_iff]
 rw [e]
 omega
theorem ro_right {m : ImP} (h : (allE m).2 = 0) : Kd.rgR (roA m) = true := by
 unfold Kd.rgR
 simp only [Bool.and_eq_true, decide_eq_true_eq, List.all_eq_true, roA_len]
 refine ⟨fun u hu => ?_, (few_tasks h).2.1⟩
 obtain ⟨i, hi, rfl⟩ := roA_mem hu
 exact ro_ok h hi
/-! ### What is wrong with a task is never that it comes too late. -/
theorem mE_no (l : List (Int × Int × Int)) : mE l ≠ 13 := by
 unfold mE
 split
 ·split <;> decide
 ·decide
theorem wE_no (l : List (Int × Int × Int)) : wE l ≠ 13 := by
 unfold wE
 split
 ·split
  ·split <;> decide
  ·decide
 ·exact mE_no l
theorem lE_no (l : List (Int × Int × Int)) : lE l ≠ 13 := by
 unfold lE
 split
 ·split <;> decide
 ·exact wE_no l
theorem bE_no (o a : Int) (s : List UInt8) : bE o a s ≠ 13 := by
 unfold bE
 split
 ·decide
 ·split
  ·split <;> decide
  ·decide
theorem er_no (l : List (Int × Int × Int)) (k : Nat) : er l k ≠ 13 := by
 unfold er
 split
 ·decide
 ·split
  ·decide
  ·split
   ·decide
   ·exact bE_no _ _ _
theorem fe_no (l : List (Int × Int × Int)) : ∀ k, fe l k ≠ 13
 | 0 => by unfold fe; decide
 | k + 1 => by
  unfold fe
  split
  ·exact er_no l k
  ·exact fe_no l k
theorem tE_no (l : List (Int × Int × Int)) : tE l ≠ 13 := by
 unfold tE
 split
 ·exact fe_no l _
 ·exact wE_no l
theorem cE_no (b : Bool) (l : List (Int × Int × Int)) : cE b l ≠ 13 := by
 unfold cE
 split
 ·split
  ·split <;> decide
  ·exact tE_no l
 ·exact lE_no l
theorem wrE_no (m : ImP) (t : TkP) : wrE m t ≠ 13 := by
 unfold wrE wlE wpE
 split
 ·by_cases c : (if lks t.co t.co.length = t.bl then (0 : Int) else 11) = 0
  ·rw [if_pos c]; split <;> decide
  ·rw [if_neg c]; split <;> decide
 ·exact cE_no _ _
theorem allG_no {m : ImP} : ∀ (l : List TkP) (k : Int), (allG m k l).2 ≠ 13
 | [], _ => by unfold allG; decide
 | t :: l, k => by
  unfold allG
  split
  ·exact allG_no l (k + 1)
  ·exact wrE_no m t
theorem allE_no (m : ImP) : (allE m).2 ≠ 13 := by
 unfold allE
 split
 ·exact allG_no _ _
 ·decide
end Go.Proofs.YtngehojibcmieaaGreatDoor
end
section
namespace Go.Proofs.YtngehojibcmieaaGreatDoor.Kd
structure Eas (r' r : RtR) : Prop where
 C : r'.C ≤ r.C
 B : r'.B ≤ r.B
 T : r.T ≤ r'.T
 D : r'.D = r.D
 J : r'.J = r.J
 P : r'.P = r.P
inductive Eass : List RtR → List RtR → Prop
 | nil : Eass [] []
 | cons {r' r : RtR} {l' l : List RtR} : okR r = true → okR r' = true → Eas r' r → Eass l' l → Eass (r' :: l') (r :: l)
/-! ### What is told of all rows. -/
theorem accK_no' {L : List RtR} : ∀ {m : Nat}, accK L m = none → ∀ j : Nat, j < m → (rspR L (j : Int)).2 = 0
 | 0, _, j, hj => absurd hj (Nat.not_lt_zero _)
 | m + 1, h, j, hj => by
  unfold accK at h
  cases hm : accK L m with
  | some z => rw [hm] at h; simp at h
  | none =>
   rw [hm] at h
   simp only at h
   by_cases e : (rspR L (m : Int)).2 ≠ 0
   ·rw [if_pos e] at h; cases h
   ·by_cases hj2 : j = m
    ·rw [hj2]; exact Decidable.not_not.1 e
    ·exact accK_no' hm j (by omega)
theorem accK_all' {L : List RtR} : ∀ {m : Nat}, (∀ j : Nat, j < m → (rspR L (j : Int)).2 = 0) → accK L m = none
 | 0, _ => rfl
 | m + 1, h => by
  unfold accK
  rw [accK_all' fun j hj => h j (by omega)]
  simp only
  rw [if_neg (by rw [h m (by omega)]; simp)]
theorem accK_yes' {L : List RtR} : ∀ {m k : Nat} {e : Int}, accK L m = some (k, e) → k < m ∧ (rspR L (k : Int)).2 = e ∧ e ≠ 0
 | 0, _, _, h => by cases h
 | m + 1, k, e, h => by
  unfold accK at h
  cases hm : accK L m with
  | some z =>
   rw [hm] at h
   cases h
   obtain ⟨h1, h2, h3⟩ := accK_yes' hm
   exact ⟨by omega, h2, h3⟩
  | none =>
   rw [hm] at h
   simp only at h
   by_cases c : (rspR L (m : Int)).2 ≠ 0
   ·rw [if_pos c] at h; cases h; exact ⟨by omega, rfl, c⟩
   ·rw [if_neg c] at h; cases h
theorem acc_parts {L : List RtR} (hg : rgR L = true) :
  ((accR L).2.2 = 0 ∧ (accR L).2.1 = -1 ∧ (accR L).1 = accV L L.length ∧ ∀ j : Nat, j < L.length → (rspR L (j : Int)).2 = 0) ∨
  (∃ k : Nat, k < L.length ∧ (accR L).2.1 = (k : Int) ∧ (accR L).1 = [] ∧ (accR L).2.2 ≠ 0 ∧ (rspR L (k : Int)).2 = (accR L).2.2) := by
 unfold accR
 rw [if_pos hg]
 cases h : accK L L.length with
 | none => exact Or.inl ⟨rfl, rfl, rfl, accK_no' h⟩
 | some z =>
  obtain ⟨k, e⟩ := z
  obtain ⟨h1, h2, h3⟩ := accK_yes' h
  exact Or.inr ⟨k, h1, rfl, rfl, h3, h2⟩
theorem resp_err {L : List RtR} {k : Nat} (hg : rgR L = true) (hk : k < L.length) : (rspR L (k : Int)).2 = 0 ∨ (rspR L (k : Int)).2 = 4 ∨ (rspR L (k : Int)).2 = 13 := by
 rw [rspR_at hg (List.getElem?_eq_getElem hk)]
 unfold rsp
 rcases itr_err (f := nxO L[k] (oth L L[k].P k)) (D := L[k].D) (J := L[k].J) (eT := 13) (L[k].D.toNat + 2) 0 with h | h | h
 ·exact Or.inl h
 ·rw [h]; exact Or.inr (Or.inl rfl)
 ·rw [h]; exact Or.inr (Or.inr rfl)
theorem resp_in {L : List RtR} {k : Nat} {x : RtR} (hg : rgR L = true) (hk : L[k]? = some x) (h : (rspR L (k : Int)).2 = 0) : (rspR L (k : Int)).1 ≤ x.D ∧ x.C + x.J ≤ (rspR L (k : Int)).1 := by
 have hx := rgR_mem hg (List.mem_of_getElem? hk)
 have ho : ∀ y ∈ oth L x.P k, okR y = true := fun y hy => rgR_mem hg (oth_mem hy).1
 have hv : rspR L (k : Int) = ((rspR L (k : Int)).1, 0) := Prod.ext rfl h
 rw [rspR_at hg hk] at hv ⊢
 obtain ⟨n, e1, e2, e3, e4, e5⟩ := rsp_sound (by decide) (nxO_grows hx ho) hv
 obtain ⟨_, q2, q3⟩ := nxO_some.1 e2
 have q4 := suV_pos ho x.P e5
 obtain ⟨_, b1, _⟩ := okR_parts hx
 rw [e1]
 omega
end Go.Proofs.YtngehojibcmieaaGreatDoor.Kd
end
section
namespace Go.Proofs.YtngehojibcmieaaGreatDoor
theorem jd_ok {m : ImP} (h : (allE m).2 = 0) : jdA m = ⟨(Kd.accR (roA m)).2.2, (Kd.accR (roA m)).2.1, roA m, (Kd.accR (roA m)).1, ceA m⟩ := by unfold jdA; rw [if_pos h]
theorem jd_no {m : ImP} (h : (allE m).2 ≠ 0) : jdA m = ⟨(allE m).2, (allE m).1, [], [], []⟩ := by unfold jdA; rw [if_neg h]
theorem jd_zero {m : ImP} (h : (jdA m).er = 0) : (allE m).2 = 0 := by
 by_cases h0 : (allE m).2 = 0
 ·exact h0
 ·rw [jd_no h0] at h; exact absurd h h0
theorem jd_rows {m : ImP} (h : 0 < (jdA m).ro.length) : (allE m).2 = 0 := by
 by_cases h0 : (allE m).2 = 0
 ·exact h0
 ·rw [jd_no h0] at h; exact absurd h (Nat.lt_irrefl 0)
theorem jd_len (m : ImP) : (jdA m).ro.length ≤ 8 ∧ (jdA m).re.length ≤ 8 ∧ (jdA m).ce.length ≤ 8 := by
 by_cases h0 : (allE m).2 = 0
 ·obtain ⟨_, h2, h3⟩ := few_tasks h0
  rw [jd_ok h0]
  refine ⟨by rw [roA_len]; exact h2, ?_, by rw [ceA_len h0]; exact h3⟩
  rcases Kd.acc_parts (ro_right h0) with ⟨_, _, e, _⟩ | ⟨k, _, _, e, _⟩
  ·show (Kd.accR (roA m)).1.length ≤ 8
   rw [e]; unfold Kd.accV; simp [roA_len]; exact h2
  ·show (Kd.accR (roA m)).1.length ≤ 8
   rw [e]; exact Nat.zero_le _
 ·rw [jd_no h0]; exact ⟨Nat.zero_le _, Nat.zero_le _, Nat.zero_le _⟩
theorem jd_time {m : ImP} (h : (jdA m).er = 13 ∨ (jdA m).er = 4 ∧ 0 < (jdA m).ro.length) :
  (allE m).2 = 0 ∧ ∃ k : Nat, k < m.tasks.length ∧ (jdA m).pl = (k : Int) ∧ (jdA m).re = [] ∧ (jdA m).ro = roA m ∧ (Kd.rspR (roA m) (k : Int)).2 = (jdA m).er := by
 have h0 : (allE m).2 = 0 := by
  by_cases h0 : (allE m).2 = 0
  ·exact h0
  ·rcases h with h | h
   ·rw [jd_no h0] at h; exact absurd h (allE_no m)
   ·exact jd_rows h.2
 refine ⟨h0, ?_⟩
 rw [jd_ok h0] at h ⊢
 rcases Kd.acc_parts (ro_right h0) with ⟨e, _⟩ | ⟨k, k1, k2, k3, k4, k5⟩
 ·rw [e] at h; simp at h
 ·rw [roA_len] at k1
  exact ⟨k, k1, k2, k3, rfl, k5⟩
theorem jd_other {m : ImP} (h1 : (jdA m).er ≠ 13) (h2 : ¬ ((jdA m).er = 4 ∧ 0 < (jdA m).ro.length)) (h3 : (jdA m).er ≠ 0) : (jdA m).ro = [] ∧ (jdA m).re = [] ∧ (jdA m).ce = [] := by
 by_cases h0 : (allE m).2 = 0
 ·exfalso
  rw [jd_ok h0] at h1 h2 h3
  rcases Kd.acc_parts (ro_right h0) with ⟨e, _⟩ | ⟨k, k1, k2, k3, k4, k5⟩
  ·exact h3 e
  ·have := Kd.resp_err (ro_right h0) k1
   rw [k5] at this
   rcases this with e | e | e
   ·exact h3 e
   ·refine h2 ⟨e, ?_⟩
    show 0 < (roA m).length
    omega
   ·exact h1 e
 ·rw [jd_no h0]; exact ⟨rfl, rfl, rfl⟩
theorem jd_resp {m : ImP} (h : (jdA m).er = 0) : (jdA m).pl = -1 ∧ (jdA m).re = Kd.accV (roA m) (roA m).length ∧ ∀ j : Nat, j < m.tasks.length → (Kd.rspR (roA m) (j : Int)).2 = 0 := by
 have h0 := jd_zero h
 rw [jd_ok h0] at h ⊢
 rcases Kd.acc_parts (ro_right h0) with ⟨e, e2, e3, e4⟩ | ⟨k, k1, k2, k3, k4, k5⟩
 ·rw [roA_len] at e4
  exact ⟨e2, e3, e4⟩
 ·exact absurd h k4
theorem accV_at {L : List Kd.RtR} {n k : Nat} (h : k < n) : (Kd.accV L n).getD k 0 = (Kd.rspR L (k : Int)).1 ∧ (Kd.accV L n)[k]? = some (Kd.rspR L (k : Int)).1 := by
 unfold Kd.accV
 have : ((List.range n).map fun j : Nat => (Kd.rspR L (j : Int)).1)[k]? = some (Kd.rspR L (k : Int)).1 := by simp [h]
 exact ⟨by rw [List.getD_eq_getElem?_getD, this]; rfl, this⟩
theorem jd_at {m : ImP} (h : (jdA m).er = 0) {k : Nat} (hk : k < m.tasks.length) : (jdA m).re.length = m.tasks.length ∧ (jdA m).re.getD k 0 = (Kd.rspR (roA m) (k : Int)).1 ∧ (jdA m).re[k]? = some (Kd.rspR (roA m) (k : Int)).1 := by
 obtain ⟨_, h2, _⟩ := jd_resp h
 have := accV_at (L := roA m) (n := (roA m).length) (k := k) (by rw [roA_len]; exact hk)
 rw [h2]
 exact ⟨by unfold Kd.accV; simp [roA_len], this.1, this.2⟩
theorem jd_relen {m : ImP} (h : (jdA m).er = 0) : (jdA m).re.length = m.tasks.length := by
 obtain ⟨_, h2, _⟩ := jd_resp h
 rw [h2]; unfold Kd.accV; simp [roA_len]
theorem jd_in {m : ImP} (h : (jdA m).er = 0) {k : Nat} (hk : k < m.tasks.length) : taskE m k = 0 ∧ (jdA m).re.getD k 0 ≤ (tkAt m k).de ∧ slW m k + (tkAt m k).ji ≤ (jdA m).re.getD k 0 := by
 have h0 := jd_zero h
 obtain ⟨_, _, h3⟩ := jd_resp h
 have := Kd.resp_in (ro_right h0) (roA_at hk) (h3 k hk)
 rw [(jd_at h hk).2.1]
 exact ⟨taskE_of h0 hk, this.1, this.2⟩
/-! ### Longer periods. -/
/-! ### Without the last task. -/
/-! ### Blocks' ceilings. -/
end Go.Proofs.YtngehojibcmieaaGreatDoor
end
