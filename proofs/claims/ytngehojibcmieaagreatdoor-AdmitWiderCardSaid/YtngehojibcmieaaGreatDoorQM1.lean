/- What is proved here: plain facts on what is told of images: how their tasks use blocks, their rows, and that these can be. Conditions: those each theorem states. plain facts on responses of rows that ask less: of no more slots, no longer waits, no shorter periods, and fewer of them. plain facts on verdicts of images: what an error tells, what responses are, blocks' ceilings, longer periods, fewer tasks. -/
import Derived.Test.YtngehojibcmieaaGreatDoorQR1
import Derived.Test.YtngehojibcmieaaGreatDoorQC1
import Derived.Test.YtngehojibcmieaaGreatDoorQE4
section
namespace Go.Proofs.YtngehojibcmieaaGreatDoor
theorem riseC : ∀ (l : List Int) (a r : Int), Kc.riseE a r l = riseE a r l
 | [], _, _ => rfl
 | p :: l, a, r => by unfold Kc.riseE riseE; rw [riseC l p r]
def usT (m : ImP) (i : Nat) : Kc.UsP := ⟨(tkAt m i).pr, (tkAt m i).bl, lkA m i⟩
def usA (m : ImP) : List Kc.UsP := (List.range m.tasks.length).map (usT m)
def waA (m : ImP) : List Int := Kc.wL m.blocks.length (usA m)
def roT (m : ImP) (i : Nat) : Kd.RtR := ⟨slW m i, (waA m).getD i 0, (tkAt m i).pe, (tkAt m i).de, (tkAt m i).ji, (tkAt m i).pr⟩
def roA (m : ImP) : List Kd.RtR := (List.range m.tasks.length).map (roT m)
def ceA (m : ImP) : List Int := Kc.cL m.blocks.length (usA m)
structure VdP where
 (er pl : Int) (ro : List Kd.RtR) (re ce : List Int)
def jdA (m : ImP) : VdP := if (allE m).2 = 0 then ⟨(Kd.accR (roA m)).2.2, (Kd.accR (roA m)).2.1, roA m, (Kd.accR (roA m)).1, ceA m⟩ else ⟨(allE m).2, (allE m).1, [], [], []⟩
theorem usA_len (m : ImP) : (usA m).length = m.tasks.length := by simp [usA]
theorem roA_len (m : ImP) : (roA m).length = m.tasks.length := by simp [roA]
theorem usA_at {m : ImP} {i : Nat} (h : i < m.tasks.length) : (usA m)[i]? = some (usT m i) := by simp [usA, h]
theorem roA_at {m : ImP} {i : Nat} (h : i < m.tasks.length) : (roA m)[i]? = some (roT m i) := by simp [roA, h]
theorem usA_mem {m : ImP} {u : Kc.UsP} (h : u ∈ usA m) : ∃ i, i < m.tasks.length ∧ u = usT m i := by
 obtain ⟨i, hi, e⟩ := List.mem_map.1 h
 exact ⟨i, List.mem_range.1 hi, e.symm⟩
theorem roA_mem {m : ImP} {u : Kd.RtR} (h : u ∈ roA m) : ∃ i, i < m.tasks.length ∧ u = roT m i := by
 obtain ⟨i, hi, e⟩ := List.mem_map.1 h
 exact ⟨i, List.mem_range.1 hi, e.symm⟩
/-! ### All tasks can be run. -/
theorem allG_zero' {m : ImP} : ∀ (l : List TkP) (k : Int), 0 ≤ k → (allG m k l).2 = 0 → (∀ t ∈ l, wrE m t = 0) ∧ (allG m k l).1 = -1
 | [], _, _, _ => ⟨fun t h => absurd h (List.not_mem_nil), rfl⟩
 | t :: l, k, hk, h => by
  unfold allG at h ⊢
  by_cases h0 : wrE m t = 0
  ·rw [if_pos h0] at h ⊢
   obtain ⟨h1, h2⟩ := allG_zero' l (k + 1) (by omega) h
   refine ⟨fun u hu => ?_, h2⟩
   rcases List.mem_cons.1 hu with rfl | hu
   ·exact h0
   ·exact h1 u hu
  ·rw [if_neg h0] at h; exact absurd h h0
theorem allG_of {m : ImP} : ∀ (l : List TkP) (k : Int), (∀ t ∈ l, wrE m t = 0) → allG m k l = (-1, 0)
 | [], _, _ => rfl
 | t :: l, k, h => by
  unfold allG
  rw [if_pos (h t (List.mem_cons_self ..))]
  exact allG_of l (k + 1) fun u hu => h u (List.mem_cons_of_mem _ hu)
theorem allE_zero {m : ImP} (h : (allE m).2 = 0) : imE m = true ∧ (∀ t ∈ m.tasks, wrE m t = 0) ∧ allE m = (-1, 0) := by
 unfold allE at h ⊢
 cases h1 : imE m
 ·rw [h1] at h; simp at h
 ·rw [h1, if_pos rfl] at h
  rw [if_pos rfl]
  obtain ⟨h2, h3⟩ := allG_zero' m.tasks 0 (Int.le_refl _) h
  exact ⟨rfl, h2, Prod.ext h3 h⟩
theorem allE_of {m : ImP} (h1 : imE m = true) (h2 : ∀ t ∈ m.tasks, wrE m t = 0) : allE m = (-1, 0) := by
 unfold allE
 rw [if_pos h1]
 exact allG_of m.tasks 0 h2
theorem tk_mem {m : ImP} {i : Nat} (hi : i < m.tasks.length) : tkAt m i ∈ m.tasks ∧ m.tasks[i]? = some (tkAt m i) := by
 have := tkAt_mem (m := m) (i := (i : Int)) (by omega) (by omega)
 simpa using this
theorem tkAt_of {m : ImP} {i : Nat} {T : TkP} (h : m.tasks[i]? = some T) : tkAt m i = T := by
 unfold tkAt; rw [List.getD_eq_getElem?_getD, Int.toNat_natCast, h]; rfl
theorem taskE_of {m : ImP} (h : (allE m).2 = 0) {i : Nat} (hi : i < m.tasks.length) : taskE m i = 0 := by
 obtain ⟨h1, h2, _⟩ := allE_zero h
 rw [taskE_in h1 (by omega) (by omega)]
 exact h2 _ (tk_mem hi).1
structure TkOk (m : ImP) (i : Nat) : Prop where
 pr : 1 ≤ (tkAt m i).pr ∧ (tkAt m i).pr ≤ 100
 pe : 1 ≤ (tkAt m i).pe ∧ (tkAt m i).pe ≤ 1048576
 de : 1 ≤ (tkAt m i).de ∧ (tkAt m i).de ≤ (tkAt m i).pe
 ji : 0 ≤ (tkAt m i).ji ∧ (tkAt m i).ji ≤ 1048576
 bl : riseE (-1) m.blocks.length (tkAt m i).bl = true
 sl : 1 ≤ slW m i ∧ slW m i ≤ 1100000
 ll : (lkA m i).length = (tkAt m i).bl.length
 lk : ∀ n ∈ lkA m i, 0 ≤ n ∧ n ≤ 1100000
theorem tk_ok {m : ImP} (h : (allE m).2 = 0) {i : Nat} (hi : i < m.tasks.length) : TkOk m i := by
 have ht := taskE_of h hi
 obtain ⟨h1, _, _, h4⟩ := taskE_zero ht
 obtain ⟨n1, n2, n3, n4⟩ := numE_parts (imE_parts h1).1
 obtain ⟨k1, k2, k3, k4⟩ := tkE_parts ((tasksE_parts (imE_parts h1).2.2.2).2.2.1 _ (tk_mem hi).1)
 unfold tkNumE at k1
 simp only [Bool.and_eq_true, inB_iff] at k1
 obtain ⟨l1, l2, l3, _⟩ := locked_facts ht
 have hc := (wrE_zero h4).1
 have hu := (cE_zero hc).2
 have hs : slW m i ≤ 1100000 := by
  unfold slW cW
  rw [if_pos ht, if_pos hc]
  omega
 refine ⟨k1.1, k1.2.1, k1.2.2.1, k1.2.2.2, k2, ⟨by omega, hs⟩, l1, fun n hn => ?_⟩
 obtain ⟨k, hk, e⟩ := List.getElem_of_mem hn
 have := l3 k hk
 rw [List.getD_eq_getElem?_getD, List.getElem?_eq_getElem hk] at this
 simp only [Option.getD_some] at this
 omega
theorem few_tasks {m : ImP} (h : (allE m).2 = 0) : 1 ≤ m.tasks.length ∧ m.tasks.length ≤ 8 ∧ m.blocks.length ≤ 8 := by
 obtain ⟨h1, _, _⟩ := allE_zero h
 obtain ⟨_, _, h2, h3⟩ := imE_parts h1
 obtain ⟨h4, h5, _⟩ := tasksE_parts h3
 unfold blocksE at h2
 simp only [Bool.and_eq_true, decide_eq_true_eq] at h2
 exact ⟨h4, h5, h2.1⟩
theorem us_ok {m : ImP} (h : (allE m).2 = 0) : Kc.okL m.blocks.length (usA m) = true := by
 obtain ⟨h1, h2, h3⟩ := few_tasks h
 unfold Kc.okL
 simp only [Bool.and_eq_true, decide_eq_true_eq, List.all_eq_true, usA_len]
 refine ⟨Kc.inB_iff.2 ⟨by omega, by omega⟩, h2, fun u hu => ?_⟩
 obtain ⟨i, hi, rfl⟩ := usA_mem hu
 have t := tk_ok h hi
 unfold Kc.okU usT
 simp only [Bool.and_eq_true, decide_eq_true_eq, List.all_eq_true]
 refine ⟨Kc.inB_iff.2 t.pr, t.ll, by rw [riseC]; exact t.bl, fun n hn => ?_⟩
 have := t.lk n hn
 exact Kc.inB_iff.2 ⟨this.1, by omega⟩
theorem waA_eq {m : ImP} (h : (allE m).2 = 0) : waA m = Kc.waitL (usA m) := by unfold waA Kc.wL; rw [if_pos (us_ok h)]
theorem ceA_eq {m : ImP} (h : (allE m).2 = 0) : ceA m = Kc.ceilL m.blocks.length (usA m) := by unfold ceA Kc.cL; rw [if_pos (us_ok h)]
theorem waA_len {m : ImP} (h : (allE m).2 = 0) : (waA m).length = m.tasks.length := by rw [waA_eq h, Kc.waitL_len, usA_len]
theorem ceA_len {m : ImP} (h : (allE m).2 = 0) : (ceA m).length = m.blocks.length := by rw [ceA_eq h, Kc.ceilL_len]; omega
theorem waA_at {m : ImP} (h : (allE m).2 = 0) {i : Nat} (hi : i < m.tasks.length) : (waA m).getD i 0 = Kc.waB (usA m) (tkAt m i).pr ∧ (waA m)[i]? = some (Kc.waB (usA m) (tkAt m i).pr) := by
 have := Kc.waitL_at (usA_at hi)
 rw [← waA_eq h] at this
 exact ⟨by rw [List.getD_eq_getElem?_getD, this]; rfl, this⟩
theorem wa_bound {m : ImP} (h : (allE m).2 = 0) (p : Int) : 0 ≤ Kc.waB (usA m) p ∧ Kc.waB (usA m) p ≤ 1100000 := by
 refine ⟨Kc.waB_pos _ _, Kc.waB_le (by omega) fun u hu x hx => ?_⟩
 obtain ⟨i, hi, rfl⟩ := usA_mem hu
 exact ((tk_ok h hi).lk x hx).2
theorem ro_ok {m : ImP} (h : (allE m).2 = 0) {i : Nat} (hi : i < m.tasks.length) : Kd.okR (roT m i) = true := by
 have t := tk_ok h hi
 have w := wa_bound h (tkAt m i).pr
 have e := (waA_at h hi).1
 obtain ⟨t1, t2, t3, t4, _, t6, _, _⟩ := t
 unfold Kd.okR roT
 simp only [Bool.and_eq_true, decide_eq_true_eq, Kd.rtI_iff]
 rw [e]
 omega
theorem ro_right {m : ImP} (h : (allE m).2 = 0) : Kd.rgR (roA m) = true := by
 unfold Kd.rgR
 simp only [Bool.and_eq_true, decide_eq_true_eq, List.all_eq_true, roA_len]
 refine ⟨fun u hu => ?_, (few_tasks h).2.1⟩
 obtain ⟨i, hi, rfl⟩ := roA_mem hu
 exact ro_ok h hi
/-! ### What is wrong with a task is never that it comes too late. -/
theorem mE_no (l : List (Int × Int × Int)) : mE l ≠ 13 := by
 unfold mE
 split
 ·split <;> decide
 ·decide
theorem wE_no (l : List (Int × Int × Int)) : wE l ≠ 13 := by
 unfold wE
 split
 ·split
  ·split <;> decide
  ·decide
 ·exact mE_no l
theorem lE_no (l : List (Int × Int × Int)) : lE l ≠ 13 := by
 unfold lE
 split
 ·split <;> decide
 ·exact wE_no l
theorem bE_no (o a : Int) (s : List UInt8) : bE o a s ≠ 13 := by
 unfold bE
 split
 ·decide
 ·split
  ·split <;> decide
  ·decide
theorem er_no (l : List (Int × Int × Int)) (k : Nat) : er l k ≠ 13 := by
 unfold er
 split
 ·decide
 ·split
  ·decide
  ·split
   ·decide
   ·exact bE_no _ _ _
theorem fe_no (l : List (Int × Int × Int)) : ∀ k, fe l k ≠ 13
 | 0 => by unfold fe; decide
 | k + 1 => by
  unfold fe
  split
  ·exact er_no l k
  ·exact fe_no l k
theorem tE_no (l : List (Int × Int × Int)) : tE l ≠ 13 := by
 unfold tE
 split
 ·exact fe_no l _
 ·exact wE_no l
theorem cE_no (b : Bool) (l : List (Int × Int × Int)) : cE b l ≠ 13 := by
 unfold cE
 split
 ·split
  ·split <;> decide
  ·exact tE_no l
 ·exact lE_no l
theorem wrE_no (m : ImP) (t : TkP) : wrE m t ≠ 13 := by
 unfold wrE wlE wpE
 split
 ·by_cases c : (if lks t.co t.co.length = t.bl then (0 : Int) else 11) = 0
  ·rw [if_pos c]; split <;> decide
  ·rw [if_neg c]; split <;> decide
 ·exact cE_no _ _
theorem allG_no {m : ImP} : ∀ (l : List TkP) (k : Int), (allG m k l).2 ≠ 13
 | [], _ => by unfold allG; decide
 | t :: l, k => by
  unfold allG
  split
  ·exact allG_no l (k + 1)
  ·exact wrE_no m t
theorem allE_no (m : ImP) : (allE m).2 ≠ 13 := by
 unfold allE
 split
 ·exact allG_no _ _
 ·decide
end Go.Proofs.YtngehojibcmieaaGreatDoor
end
section
namespace Go.Proofs.YtngehojibcmieaaGreatDoor.Kd
structure Eas (r' r : RtR) : Prop where
 C : r'.C ≤ r.C
 B : r'.B ≤ r.B
 T : r.T ≤ r'.T
 D : r'.D = r.D
 J : r'.J = r.J
 P : r'.P = r.P
theorem qt_anti {a b b' : Int} (h : 0 < b) (hb : b ≤ b') (ha : 0 ≤ a) : qt a b' ≤ qt a b := by
 have h1 := (qt_spec (a := a) (b := b') (by omega)).2
 have h2 := (qt_spec (a := a) h).1
 have h0 := qt_pos h ha
 have h3 : qt a b * b ≤ qt a b * b' := Int.mul_le_mul_of_nonneg_left hb h0
 have h4 : (qt a b' - 1) * b' < qt a b * b' := by omega
 have := Int.lt_of_mul_lt_mul_right h4 (by omega)
 omega
theorem ptK_easy {r r' : RtR} (h : okR r = true) (e : Eas r' r) {w : Int} (hw : 0 ≤ w) (s : Bool) : ptK r' w s ≤ ptK r w s := by
 obtain ⟨_, _, h3, h4, _⟩ := okR_parts h
 unfold ptK
 rw [e.J]
 have := qt_anti (by omega : 0 < r.T) e.T (by omega : 0 ≤ w + r.J)
 omega
theorem ptV_easy {r r' : RtR} (h : okR r = true) (h' : okR r' = true) (e : Eas r' r) {w : Int} (hw : 0 ≤ w) (s : Bool) : ptV r' w s ≤ ptV r w s := by
 obtain ⟨h1, _⟩ := okR_parts h'
 unfold ptV
 exact Int.le_trans (Int.mul_le_mul_of_nonneg_right (ptK_easy h e hw s) (by omega)) (Int.mul_le_mul_of_nonneg_left e.C (ptK_pos h hw s))
theorem ptB_easy {r r' : RtR} (h : okR r = true) (h' : okR r' = true) (e : Eas r' r) {w : Int} (hw : 0 ≤ w) {s : Bool} (hb : ptB r w s = false) : ptB r' w s = false := by
 have := ptV_easy h h' e hw s
 unfold ptB at hb ⊢
 rw [e.J]
 simp only [Bool.or_eq_false_iff, decide_eq_false_iff_not] at hb ⊢
 omega
inductive Eass : List RtR → List RtR → Prop
 | nil : Eass [] []
 | cons {r' r : RtR} {l' l : List RtR} : okR r = true → okR r' = true → Eas r' r → Eass l' l → Eass (r' :: l') (r :: l)
theorem Eass.filter {l' l : List (RtR × Nat)} (h : Eass (l'.map (·.1)) (l.map (·.1))) (h2 : l'.map (·.2) = l.map (·.2)) (p : Int) (i : Nat) : Eass ((l'.filter (cnt p i)).map (·.1)) ((l.filter (cnt p i)).map (·.1)) := by
 induction l generalizing l' with
 | nil =>
  cases l' with
  | nil => exact .nil
  | cons x l' => simp at h2
 | cons y l ih =>
  cases l' with
  | nil => simp at h2
  | cons x l' =>
   rw [List.map_cons, List.map_cons] at h
   rw [List.map_cons, List.map_cons, List.cons.injEq] at h2
   cases h with
   | cons a b c d =>
    have e : cnt p i x = cnt p i y := by unfold cnt; rw [h2.1, c.P]
    rw [List.filter_cons, List.filter_cons, e]
    split
    ·exact .cons a b c (ih d h2.2)
    ·exact ih d h2.2
theorem zip_fst (l : List RtR) : ∀ k, (l.zipIdx k).map (·.1) = l := by
 induction l with
 | nil => intro k; rfl
 | cons x l ih => intro k; rw [List.zipIdx_cons, List.map_cons, ih]
theorem zip_snd : ∀ (l : List RtR) (k : Nat), (l.zipIdx k).map (·.2) = List.range' k l.length
 | [], k => rfl
 | x :: l, k => by rw [List.zipIdx_cons, List.map_cons, zip_snd l (k + 1), List.length_cons, List.range'_succ]
theorem Eass.len {l' l : List RtR} (h : Eass l' l) : l'.length = l.length := by
 induction h with
 | nil => rfl
 | cons _ _ _ _ ih => rw [List.length_cons, List.length_cons, ih]
theorem oth_easy {l' l : List RtR} (h : Eass l' l) (p : Int) (i : Nat) : Eass (oth l' p i) (oth l p i) := by
 unfold oth
 refine Eass.filter ?_ ?_ p i
 ·rw [zip_fst, zip_fst]; exact h
 ·rw [zip_snd, zip_snd, h.len]
theorem suV_easy {o' o : List RtR} (h : Eass o' o) (p : Int) {w : Int} (hw : 0 ≤ w) : suV o' p w ≤ suV o p w := by
 induction h with
 | nil => exact Int.le_refl _
 | @cons r' r l' l a b c d ih =>
  have h1 := ptV_easy a b c hw (sames p r)
  have h3 : sames p r' = sames p r := by unfold sames; rw [c.P]
  unfold suV at ih ⊢
  rw [List.map_cons, List.sum_cons, List.map_cons, List.sum_cons, h3]
  omega
theorem suB_easy {o' o : List RtR} (h : Eass o' o) {p w : Int} (hw : 0 ≤ w) (hb : suB o p w = false) : suB o' p w = false := by
 induction h with
 | nil => rfl
 | @cons r' r l' l a b c d ih =>
  have h3 : sames p r' = sames p r := by unfold sames; rw [c.P]
  unfold suB at ih hb ⊢
  rw [List.any_cons, Bool.or_eq_false_iff] at hb ⊢
  rw [h3]
  exact ⟨ptB_easy a b c hw hb.1, ih hb.2⟩
theorem Eass.ok {l' l : List RtR} (h : Eass l' l) : (∀ r ∈ l', okR r = true) ∧ ∀ r ∈ l, okR r = true := by
 induction h with
 | nil => exact ⟨fun r h => absurd h List.not_mem_nil, fun r h => absurd h List.not_mem_nil⟩
 | cons a b c d ih =>
  refine ⟨fun r hr => ?_, fun r hr => ?_⟩
  ·rcases List.mem_cons.1 hr with rfl | hr
   ·exact b
   ·exact ih.1 r hr
  ·rcases List.mem_cons.1 hr with rfl | hr
   ·exact a
   ·exact ih.2 r hr
theorem nxO_easy {r' r : RtR} (e : Eas r' r) {o' o : List RtR} (h : Eass o' o) : ∀ w, 0 ≤ w → ∀ y, nxO r o w = some y → ∃ x, nxO r' o' w = some x ∧ x ≤ y := by
 intro w hw y hy
 obtain ⟨h1, h2, rfl⟩ := nxO_some.1 hy
 have := suV_easy h r.P hw
 have e1 := e.C
 have e2 := e.B
 refine ⟨_, nxO_some.2 ⟨by rw [e.P]; exact suB_easy h hw h1, ?_, rfl⟩, ?_⟩
 ·rw [e.P]; omega
 ·rw [e.P]; omega
theorem resp_easy {l' l : List RtR} (h : Eass l' l) (h8 : l.length ≤ 8) {k : Nat} {r r' : RtR} (hk : l[k]? = some r) (hk' : l'[k]? = some r') (e : Eas r' r) {v : Int} (hv : rspR l k = (v, 0)) : ∃ u, rspR l' k = (u, 0) ∧ u ≤ v := by
 have hg : rgR l = true := by unfold rgR; simp only [Bool.and_eq_true, List.all_eq_true, decide_eq_true_eq]; exact ⟨h.ok.2, h8⟩
 have hg' : rgR l' = true := by unfold rgR; simp only [Bool.and_eq_true, List.all_eq_true, decide_eq_true_eq]; exact ⟨h.ok.1, by rw [h.len]; exact h8⟩
 have hx := rgR_mem hg (List.mem_of_getElem? hk)
 have hx' := rgR_mem hg' (List.mem_of_getElem? hk')
 rw [rspR_at hg hk] at hv
 rw [rspR_at hg' hk', e.D, e.J, e.P]
 have ho := oth_easy h r.P k
 exact rsp_le (by decide) (nxO_grows hx' ho.ok.1) (nxO_grows hx ho.ok.2) (nxO_easy e ho) (Int.le_refl _) hv
theorem eass_of : ∀ {l' l : List RtR}, l'.length = l.length → (∀ r ∈ l', okR r = true) → (∀ r ∈ l, okR r = true) → (∀ (k : Nat) (r r' : RtR), l[k]? = some r → l'[k]? = some r' → Eas r' r) → Eass l' l
 | [], [], _, _, _, _ => .nil
 | [], x :: l, h, _, _, _ => by simp at h
 | x :: l, [], h, _, _, _ => by simp at h
 | x :: l', y :: l, h, h1, h2, h3 => .cons (h2 y (List.mem_cons_self ..)) (h1 x (List.mem_cons_self ..)) (h3 0 y x rfl rfl)
   (eass_of (by simpa using h) (fun r hr => h1 r (List.mem_cons_of_mem _ hr)) (fun r hr => h2 r (List.mem_cons_of_mem _ hr)) (fun k r r' hr hr' => h3 (k + 1) r r' (by simpa using hr) (by simpa using hr')))
theorem rgR_take' {L : List RtR} (hg : rgR L = true) (m : Nat) : rgR (L.take m) = true := by
 have h8 : L.length ≤ 8 := by unfold rgR at hg; simp only [Bool.and_eq_true, decide_eq_true_eq] at hg; exact hg.2
 unfold rgR
 simp only [Bool.and_eq_true, List.all_eq_true, decide_eq_true_eq]
 exact ⟨fun y hy => rgR_mem hg (List.mem_of_mem_take hy), by rw [List.length_take]; omega⟩
theorem resp_fewer' {L : List RtR} {k m : Nat} {x : RtR} {v : Int} (hg : rgR L = true) (hk : L[k]? = some x) (hm : k < m) (h : rspR L k = (v, 0)) : ∃ u, rspR (L.take m) k = (u, 0) ∧ u ≤ v := by
 have hk2 : (L.take m)[k]? = some x := by rw [List.getElem?_take, if_pos hm]; exact hk
 have hx := rgR_mem hg (List.mem_of_getElem? hk)
 have ho : ∀ y ∈ oth L x.P k, okR y = true := fun y hy => rgR_mem hg (oth_mem hy).1
 have hs := oth_fewer L x.P k m
 rw [rspR_at hg hk] at h
 rw [rspR_at (rgR_take' hg m) hk2]
 exact rsp_le (by decide) (nxO_grows hx (fun y hy => ho y (hs.subset hy))) (nxO_grows hx ho) (nxO_fewer hs ho) (Int.le_refl _) h
theorem resp_less {L L' : List RtR} (hg : rgR L = true) (hg' : rgR L' = true) (hl : L'.length ≤ L.length) (he : ∀ (k : Nat) (r r' : RtR), L[k]? = some r → L'[k]? = some r' → Eas r' r) {k : Nat} (hk : k < L'.length) {v : Int} (hv : rspR L k = (v, 0)) : ∃ u, rspR L' k = (u, 0) ∧ u ≤ v := by
 have h8 : L.length ≤ 8 := by unfold rgR at hg; simp only [Bool.and_eq_true, decide_eq_true_eq] at hg; exact hg.2
 have hkL : L[k]? = some L[k] := List.getElem?_eq_getElem (by omega)
 obtain ⟨u, h1, h2⟩ := resp_fewer' hg hkL (m := L'.length) hk hv
 have hkT : (L.take L'.length)[k]? = some L[k] := by rw [List.getElem?_take, if_pos hk]; exact hkL
 have hk' : L'[k]? = some L'[k] := List.getElem?_eq_getElem hk
 have hE : Eass L' (L.take L'.length) := eass_of (by rw [List.length_take]; omega) (fun r hr => rgR_mem hg' hr) (fun r hr => rgR_mem hg (List.mem_of_mem_take hr)) (fun j r r' hr hr' => by
  rw [List.getElem?_take] at hr
  split at hr
  ·exact he j r r' hr hr'
  ·cases hr)
 obtain ⟨u', h3, h4⟩ := resp_easy hE (by rw [List.length_take]; omega) hkT hk' (he k _ _ hkL hk') h1
 exact ⟨u', h3, by omega⟩
/-! ### What is told of all rows. -/
theorem accK_no' {L : List RtR} : ∀ {m : Nat}, accK L m = none → ∀ j : Nat, j < m → (rspR L (j : Int)).2 = 0
 | 0, _, j, hj => absurd hj (Nat.not_lt_zero _)
 | m + 1, h, j, hj => by
  unfold accK at h
  cases hm : accK L m with
  | some z => rw [hm] at h; simp at h
  | none =>
   rw [hm] at h
   simp only at h
   by_cases e : (rspR L (m : Int)).2 ≠ 0
   ·rw [if_pos e] at h; cases h
   ·by_cases hj2 : j = m
    ·rw [hj2]; exact Decidable.not_not.1 e
    ·exact accK_no' hm j (by omega)
theorem accK_all' {L : List RtR} : ∀ {m : Nat}, (∀ j : Nat, j < m → (rspR L (j : Int)).2 = 0) → accK L m = none
 | 0, _ => rfl
 | m + 1, h => by
  unfold accK
  rw [accK_all' fun j hj => h j (by omega)]
  simp only
  rw [if_neg (by rw [h m (by omega)]; simp)]
theorem accK_yes' {L : List RtR} : ∀ {m k : Nat} {e : Int}, accK L m = some (k, e) → k < m ∧ (rspR L (k : Int)).2 = e ∧ e ≠ 0
 | 0, _, _, h => by cases h
 | m + 1, k, e, h => by
  unfold accK at h
  cases hm : accK L m with
  | some z =>
   rw [hm] at h
   cases h
   obtain ⟨h1, h2, h3⟩ := accK_yes' hm
   exact ⟨by omega, h2, h3⟩
  | none =>
   rw [hm] at h
   simp only at h
   by_cases c : (rspR L (m : Int)).2 ≠ 0
   ·rw [if_pos c] at h; cases h; exact ⟨by omega, rfl, c⟩
   ·rw [if_neg c] at h; cases h
theorem acc_parts {L : List RtR} (hg : rgR L = true) :
  ((accR L).2.2 = 0 ∧ (accR L).2.1 = -1 ∧ (accR L).1 = accV L L.length ∧ ∀ j : Nat, j < L.length → (rspR L (j : Int)).2 = 0) ∨
  (∃ k : Nat, k < L.length ∧ (accR L).2.1 = (k : Int) ∧ (accR L).1 = [] ∧ (accR L).2.2 ≠ 0 ∧ (rspR L (k : Int)).2 = (accR L).2.2) := by
 unfold accR
 rw [if_pos hg]
 cases h : accK L L.length with
 | none => exact Or.inl ⟨rfl, rfl, rfl, accK_no' h⟩
 | some z =>
  obtain ⟨k, e⟩ := z
  obtain ⟨h1, h2, h3⟩ := accK_yes' h
  exact Or.inr ⟨k, h1, rfl, rfl, h3, h2⟩
theorem acc_zero {L : List RtR} (hg : rgR L = true) (h : ∀ j : Nat, j < L.length → (rspR L (j : Int)).2 = 0) : accR L = (accV L L.length, -1, 0) := by
 unfold accR
 rw [if_pos hg, accK_all' h]
theorem resp_err {L : List RtR} {k : Nat} (hg : rgR L = true) (hk : k < L.length) : (rspR L (k : Int)).2 = 0 ∨ (rspR L (k : Int)).2 = 4 ∨ (rspR L (k : Int)).2 = 13 := by
 rw [rspR_at hg (List.getElem?_eq_getElem hk)]
 unfold rsp
 rcases itr_err (f := nxO L[k] (oth L L[k].P k)) (D := L[k].D) (J := L[k].J) (eT := 13) (L[k].D.toNat + 2) 0 with h | h | h
 ·exact Or.inl h
 ·rw [h]; exact Or.inr (Or.inl rfl)
 ·rw [h]; exact Or.inr (Or.inr rfl)
theorem resp_in {L : List RtR} {k : Nat} {x : RtR} (hg : rgR L = true) (hk : L[k]? = some x) (h : (rspR L (k : Int)).2 = 0) : (rspR L (k : Int)).1 ≤ x.D ∧ x.C + x.J ≤ (rspR L (k : Int)).1 := by
 have hx := rgR_mem hg (List.mem_of_getElem? hk)
 have ho : ∀ y ∈ oth L x.P k, okR y = true := fun y hy => rgR_mem hg (oth_mem hy).1
 have hv : rspR L (k : Int) = ((rspR L (k : Int)).1, 0) := Prod.ext rfl h
 rw [rspR_at hg hk] at hv ⊢
 obtain ⟨n, e1, e2, e3, e4, e5⟩ := rsp_sound (by decide) (nxO_grows hx ho) hv
 obtain ⟨_, q2, q3⟩ := nxO_some.1 e2
 have q4 := suV_pos ho x.P e5
 obtain ⟨_, b1, _⟩ := okR_parts hx
 rw [e1]
 omega
end Go.Proofs.YtngehojibcmieaaGreatDoor.Kd
end
section
namespace Go.Proofs.YtngehojibcmieaaGreatDoor
theorem jd_ok {m : ImP} (h : (allE m).2 = 0) : jdA m = ⟨(Kd.accR (roA m)).2.2, (Kd.accR (roA m)).2.1, roA m, (Kd.accR (roA m)).1, ceA m⟩ := by unfold jdA; rw [if_pos h]
theorem jd_no {m : ImP} (h : (allE m).2 ≠ 0) : jdA m = ⟨(allE m).2, (allE m).1, [], [], []⟩ := by unfold jdA; rw [if_neg h]
theorem jd_zero {m : ImP} (h : (jdA m).er = 0) : (allE m).2 = 0 := by
 by_cases h0 : (allE m).2 = 0
 ·exact h0
 ·rw [jd_no h0] at h; exact absurd h h0
theorem jd_rows {m : ImP} (h : 0 < (jdA m).ro.length) : (allE m).2 = 0 := by
 by_cases h0 : (allE m).2 = 0
 ·exact h0
 ·rw [jd_no h0] at h; exact absurd h (Nat.lt_irrefl 0)
theorem jd_len (m : ImP) : (jdA m).ro.length ≤ 8 ∧ (jdA m).re.length ≤ 8 ∧ (jdA m).ce.length ≤ 8 := by
 by_cases h0 : (allE m).2 = 0
 ·obtain ⟨_, h2, h3⟩ := few_tasks h0
  rw [jd_ok h0]
  refine ⟨by rw [roA_len]; exact h2, ?_, by rw [ceA_len h0]; exact h3⟩
  rcases Kd.acc_parts (ro_right h0) with ⟨_, _, e, _⟩ | ⟨k, _, _, e, _⟩
  ·show (Kd.accR (roA m)).1.length ≤ 8
   rw [e]; unfold Kd.accV; simp [roA_len]; exact h2
  ·show (Kd.accR (roA m)).1.length ≤ 8
   rw [e]; exact Nat.zero_le _
 ·rw [jd_no h0]; exact ⟨Nat.zero_le _, Nat.zero_le _, Nat.zero_le _⟩
theorem jd_time {m : ImP} (h : (jdA m).er = 13 ∨ (jdA m).er = 4 ∧ 0 < (jdA m).ro.length) :
  (allE m).2 = 0 ∧ ∃ k : Nat, k < m.tasks.length ∧ (jdA m).pl = (k : Int) ∧ (jdA m).re = [] ∧ (jdA m).ro = roA m ∧ (Kd.rspR (roA m) (k : Int)).2 = (jdA m).er := by
 have h0 : (allE m).2 = 0 := by
  by_cases h0 : (allE m).2 = 0
  ·exact h0
  ·rcases h with h | h
   ·rw [jd_no h0] at h; exact absurd h (allE_no m)
   ·exact jd_rows h.2
 refine ⟨h0, ?_⟩
 rw [jd_ok h0] at h ⊢
 rcases Kd.acc_parts (ro_right h0) with ⟨e, _⟩ | ⟨k, k1, k2, k3, k4, k5⟩
 ·rw [e] at h; simp at h
 ·rw [roA_len] at k1
  exact ⟨k, k1, k2, k3, rfl, k5⟩
theorem jd_other {m : ImP} (h1 : (jdA m).er ≠ 13) (h2 : ¬ ((jdA m).er = 4 ∧ 0 < (jdA m).ro.length)) (h3 : (jdA m).er ≠ 0) : (jdA m).ro = [] ∧ (jdA m).re = [] ∧ (jdA m).ce = [] := by
 by_cases h0 : (allE m).2 = 0
 ·exfalso
  rw [jd_ok h0] at h1 h2 h3
  rcases Kd.acc_parts (ro_right h0) with ⟨e, _⟩ | ⟨k, k1, k2, k3, k4, k5⟩
  ·exact h3 e
  ·have := Kd.resp_err (ro_right h0) k1
   rw [k5] at this
   rcases this with e | e | e
   ·exact h3 e
   ·refine h2 ⟨e, ?_⟩
    show 0 < (roA m).length
    omega
   ·exact h1 e
 ·rw [jd_no h0]; exact ⟨rfl, rfl, rfl⟩
theorem jd_resp {m : ImP} (h : (jdA m).er = 0) : (jdA m).pl = -1 ∧ (jdA m).re = Kd.accV (roA m) (roA m).length ∧ ∀ j : Nat, j < m.tasks.length → (Kd.rspR (roA m) (j : Int)).2 = 0 := by
 have h0 := jd_zero h
 rw [jd_ok h0] at h ⊢
 rcases Kd.acc_parts (ro_right h0) with ⟨e, e2, e3, e4⟩ | ⟨k, k1, k2, k3, k4, k5⟩
 ·rw [roA_len] at e4
  exact ⟨e2, e3, e4⟩
 ·exact absurd h k4
theorem accV_at {L : List Kd.RtR} {n k : Nat} (h : k < n) : (Kd.accV L n).getD k 0 = (Kd.rspR L (k : Int)).1 ∧ (Kd.accV L n)[k]? = some (Kd.rspR L (k : Int)).1 := by
 unfold Kd.accV
 have : ((List.range n).map fun j : Nat => (Kd.rspR L (j : Int)).1)[k]? = some (Kd.rspR L (k : Int)).1 := by simp [h]
 exact ⟨by rw [List.getD_eq_getElem?_getD, this]; rfl, this⟩
theorem jd_at {m : ImP} (h : (jdA m).er = 0) {k : Nat} (hk : k < m.tasks.length) : (jdA m).re.length = m.tasks.length ∧ (jdA m).re.getD k 0 = (Kd.rspR (roA m) (k : Int)).1 ∧ (jdA m).re[k]? = some (Kd.rspR (roA m) (k : Int)).1 := by
 obtain ⟨_, h2, _⟩ := jd_resp h
 have := accV_at (L := roA m) (n := (roA m).length) (k := k) (by rw [roA_len]; exact hk)
 rw [h2]
 exact ⟨by unfold Kd.accV; simp [roA_len], this.1, this.2⟩
theorem jd_relen {m : ImP} (h : (jdA m).er = 0) : (jdA m).re.length = m.tasks.length := by
 obtain ⟨_, h2, _⟩ := jd_resp h
 rw [h2]; unfold Kd.accV; simp [roA_len]
theorem jd_in {m : ImP} (h : (jdA m).er = 0) {k : Nat} (hk : k < m.tasks.length) : taskE m k = 0 ∧ (jdA m).re.getD k 0 ≤ (tkAt m k).de ∧ slW m k + (tkAt m k).ji ≤ (jdA m).re.getD k 0 := by
 have h0 := jd_zero h
 obtain ⟨_, _, h3⟩ := jd_resp h
 have := Kd.resp_in (ro_right h0) (roA_at hk) (h3 k hk)
 rw [(jd_at h hk).2.1]
 exact ⟨taskE_of h0 hk, this.1, this.2⟩
theorem jd_less {m m' : ImP} (h : (jdA m).er = 0) (h' : (allE m').2 = 0) (hl : m'.tasks.length ≤ m.tasks.length) (he : ∀ i, i < m'.tasks.length → Kd.Eas (roT m' i) (roT m i)) :
  (jdA m').er = 0 ∧ ∀ i, i < m'.tasks.length → (jdA m').re.getD i 0 ≤ (jdA m).re.getD i 0 := by
 have h0 := jd_zero h
 obtain ⟨_, _, h3⟩ := jd_resp h
 have key : ∀ k, k < m'.tasks.length → ∃ u, Kd.rspR (roA m') (k : Int) = (u, 0) ∧ u ≤ (Kd.rspR (roA m) (k : Int)).1 := by
  intro k hk
  refine Kd.resp_less (ro_right h0) (ro_right h') (by rw [roA_len, roA_len]; exact hl) (fun j r r' hr hr' => ?_) (by rw [roA_len]; exact hk) (Prod.ext rfl (h3 k (by omega)))
  have hj : j < m'.tasks.length := by
   have := (List.getElem?_eq_some_iff.1 hr').1
   rw [roA_len] at this; exact this
  rw [roA_at (by omega)] at hr
  rw [roA_at hj] at hr'
  cases hr; cases hr'
  exact he j hj
 have hz : (jdA m').er = 0 := by
  rw [jd_ok h', Kd.acc_zero (ro_right h') fun j hj => by
   rw [roA_len] at hj
   obtain ⟨u, e, _⟩ := key j hj
   rw [e]]
 refine ⟨hz, fun i hi => ?_⟩
 obtain ⟨u, e, hu⟩ := key i hi
 rw [(jd_at hz hi).2.1, (jd_at h (by omega)).2.1, e]
 exact hu
/-! ### Longer periods. -/
def wdT (f : Int → Int) (t : TkP) : TkP := { t with pe := f t.pe }
def wdM (f : Int → Int) (m : ImP) : ImP := { m with tasks := m.tasks.map (wdT f) }
theorem wd_at (f : Int → Int) {m : ImP} {i : Nat} (hi : i < m.tasks.length) : tkAt (wdM f m) i = wdT f (tkAt m i) := by
 have h := (tk_mem hi).2
 refine tkAt_of ?_
 show (m.tasks.map (wdT f))[i]? = _
 rw [List.getElem?_map, h]; rfl
theorem wd_len (f : Int → Int) (m : ImP) : (wdM f m).tasks.length = m.tasks.length := by show (m.tasks.map _).length = _; simp
theorem wd_outs (f : Int → Int) (l : List TkP) : outsT (l.map (wdT f)) = outsT l := by unfold outsT; rw [List.flatMap_map]; rfl
theorem wd_right {f : Int → Int} (hf : ∀ p, 1 ≤ p → p ≤ 1048576 → p ≤ f p ∧ f p ≤ 1048576) {m : ImP} (h : imE m = true) : imE (wdM f m) = true := by
 obtain ⟨h1, h2, h3, h4⟩ := imE_parts h
 obtain ⟨k1, k2, k3, k4⟩ := tasksE_parts h4
 unfold imE
 have e1 : numE (wdM f m) = numE m := rfl
 have e4 : tasksE (wdM f m) = true := by
  unfold tasksE
  simp only [Bool.and_eq_true, List.all_eq_true]
  refine ⟨by rw [wd_len]; exact inB_iff.2 ⟨by omega, by omega⟩, fun t ht => ?_, ?_⟩
  ·obtain ⟨u, hu, rfl⟩ := List.mem_map.1 ht
   have := k3 u hu
   obtain ⟨q1, q2, q3, q4⟩ := tkE_parts this
   unfold tkE
   have : tkNumE (wdT f u) = true := by
    unfold tkNumE at q1 ⊢
    simp only [Bool.and_eq_true, inB_iff] at q1 ⊢
    have := hf u.pe q1.2.1.1 q1.2.1.2
    refine ⟨q1.1, ⟨?_, this.2⟩, ⟨q1.2.2.1.1, ?_⟩, q1.2.2.2⟩
    ·show 1 ≤ f u.pe; omega
    ·show u.de ≤ f u.pe; omega
   rw [this]
   show (true && (riseE (-1) _ u.bl && (riseE (-1) _ u.ou && codeE u.co))) = true
   have r2 : riseE (-1) ((wdM f m).blocks.length : Int) u.bl = true := q2
   have r3 : riseE (-1) ((wdM f m).safe.length : Int) u.ou = true := q3
   rw [r2, r3, q4]; rfl
  ·show apE [] (outsT (m.tasks.map (wdT f))) = true
   rw [wd_outs]; exact k4
 rw [e1, e4, h1]
 have : blocksE (wdM f m).blocks = true := h3
 rw [this]
 show (true && (decide (m.safe.length ≤ 16) && (true && true))) = true
 rw [decide_eq_true h2]; rfl
theorem wd_ok {f : Int → Int} (hf : ∀ p, 1 ≤ p → p ≤ 1048576 → p ≤ f p ∧ f p ≤ 1048576) {m : ImP} (h : (allE m).2 = 0) : (allE (wdM f m)).2 = 0 := by
 obtain ⟨h1, h2, _⟩ := allE_zero h
 rw [allE_of (wd_right hf h1) fun t ht => ?_]
 obtain ⟨u, hu, rfl⟩ := List.mem_map.1 ht
 rw [wrE_congr (m := m) (m' := wdM f m) rfl rfl]
 exact h2 u hu
theorem wd_tells {f : Int → Int} (hf : ∀ p, 1 ≤ p → p ≤ 1048576 → p ≤ f p ∧ f p ≤ 1048576) {m : ImP} (h : (allE m).2 = 0) {i : Nat} (hi : i < m.tasks.length) : slW (wdM f m) i = slW m i ∧ lkA (wdM f m) i = lkA m i ∧ usT (wdM f m) i = usT m i := by
 have t1 := taskE_of h hi
 have t2 := taskE_of (wd_ok hf h) (by rw [wd_len]; exact hi)
 have e := wd_at f hi
 have a : slW (wdM f m) i = slW m i := by unfold slW; rw [if_pos t1, if_pos t2, e]; rfl
 have b : lkA (wdM f m) i = lkA m i := by unfold lkA; rw [if_pos t1, if_pos t2, e]; rfl
 refine ⟨a, b, ?_⟩
 unfold usT
 rw [b, e]; rfl
theorem wd_uses {f : Int → Int} (hf : ∀ p, 1 ≤ p → p ≤ 1048576 → p ≤ f p ∧ f p ≤ 1048576) {m : ImP} (h : (allE m).2 = 0) : usA (wdM f m) = usA m := by
 unfold usA
 rw [wd_len]
 exact List.map_congr_left fun i hi => (wd_tells hf h (List.mem_range.1 hi)).2.2
theorem jd_wider {f : Int → Int} (hf : ∀ p, 1 ≤ p → p ≤ 1048576 → p ≤ f p ∧ f p ≤ 1048576) {m : ImP} (h : (jdA m).er = 0) :
  (jdA (wdM f m)).er = 0 ∧ (jdA (wdM f m)).re.length = (jdA m).re.length ∧ ∀ i, i < m.tasks.length → (jdA (wdM f m)).re.getD i 0 ≤ (jdA m).re.getD i 0 := by
 have h0 := jd_zero h
 have hw := wd_ok hf h0
 obtain ⟨h1, h2⟩ := jd_less h hw (by rw [wd_len]; exact Nat.le_refl _) fun i hi => by
  rw [wd_len] at hi
  obtain ⟨a, b, _⟩ := wd_tells hf h0 hi
  have e := wd_at f hi
  have t := (tk_ok h0 hi).pe
  have eb : waA (wdM f m) = waA m := by unfold waA; rw [wd_uses hf h0]; rfl
  refine ⟨?_, ?_, ?_, ?_, ?_, ?_⟩
  ·show slW (wdM f m) i ≤ slW m i; omega
  ·show (waA (wdM f m)).getD i 0 ≤ (waA m).getD i 0; rw [eb]; exact Int.le_refl _
  ·show (tkAt m i).pe ≤ (tkAt (wdM f m) i).pe; rw [e]; exact (hf _ t.1 t.2).1
  ·show (tkAt (wdM f m) i).de = (tkAt m i).de; rw [e]; rfl
  ·show (tkAt (wdM f m) i).ji = (tkAt m i).ji; rw [e]; rfl
  ·show (tkAt (wdM f m) i).pr = (tkAt m i).pr; rw [e]; rfl
 refine ⟨h1, by rw [jd_relen h1, jd_relen h, wd_len], fun i hi => h2 i (by rw [wd_len]; exact hi)⟩
/-! ### Without the last task. -/
def fwM (m : ImP) (n : Nat) : ImP := { m with tasks := m.tasks.take n }
theorem fw_len {m : ImP} {n : Nat} (hn : n ≤ m.tasks.length) : (fwM m n).tasks.length = n := by show (m.tasks.take n).length = n; rw [List.length_take]; omega
theorem fw_at {m : ImP} {n i : Nat} (hi : i < n) (hn : n ≤ m.tasks.length) : tkAt (fwM m n) i = tkAt m i := by
 have h := (tk_mem (m := m) (i := i) (by omega)).2
 refine tkAt_of ?_
 show (m.tasks.take n)[i]? = _
 rw [List.getElem?_take, if_pos hi]; exact h
theorem apE_front : ∀ (a b s : List Int), apE s (a ++ b) = true → apE s a = true
 | [], _, _, _ => rfl
 | p :: a, b, s, h => by
  rw [List.cons_append] at h
  unfold apE at h ⊢
  rw [Bool.and_eq_true] at h ⊢
  exact ⟨h.1, apE_front a b (p :: s) h.2⟩
theorem fw_ok {m : ImP} {n : Nat} (h : (allE m).2 = 0) (h1 : 1 ≤ n) (hn : n ≤ m.tasks.length) : (allE (fwM m n)).2 = 0 := by
 obtain ⟨g1, g2, _⟩ := allE_zero h
 obtain ⟨q1, q2, q3, q4⟩ := imE_parts g1
 obtain ⟨k1, k2, k3, k4⟩ := tasksE_parts q4
 have hi : imE (fwM m n) = true := by
  unfold imE
  have e1 : numE (fwM m n) = true := q1
  have e3 : blocksE (fwM m n).blocks = true := q3
  have e4 : tasksE (fwM m n) = true := by
   unfold tasksE
   simp only [Bool.and_eq_true, List.all_eq_true]
   refine ⟨by rw [fw_len hn]; exact inB_iff.2 ⟨by omega, by omega⟩, fun t ht => k3 t (List.mem_of_mem_take ht), ?_⟩
   have : outsT m.tasks = outsT (m.tasks.take n) ++ outsT (m.tasks.drop n) := by
    unfold outsT
    rw [← List.flatMap_append, List.take_append_drop]
   rw [this] at k4
   exact apE_front _ _ _ k4
  rw [e1, e3, e4]
  show (true && (decide (m.safe.length ≤ 16) && (true && true))) = true
  rw [decide_eq_true q2]; rfl
 rw [allE_of hi fun t ht => ?_]
 rw [wrE_congr (m := m) (m' := fwM m n) rfl rfl]
 exact g2 t (List.mem_of_mem_take ht)
theorem fw_tells {m : ImP} {n i : Nat} (h : (allE m).2 = 0) (hi : i < n) (hn : n ≤ m.tasks.length) : slW (fwM m n) i = slW m i ∧ lkA (fwM m n) i = lkA m i ∧ usT (fwM m n) i = usT m i := by
 have t1 := taskE_of h (i := i) (by omega)
 have t2 := taskE_of (fw_ok h (by omega) hn) (i := i) (by rw [fw_len hn]; exact hi)
 have e := fw_at hi hn
 have a : slW (fwM m n) i = slW m i := by unfold slW; rw [if_pos t1, if_pos t2, e]; rfl
 have b : lkA (fwM m n) i = lkA m i := by unfold lkA; rw [if_pos t1, if_pos t2, e]
 refine ⟨a, b, ?_⟩
 unfold usT
 rw [b, e]
theorem fw_uses {m : ImP} {n : Nat} (h : (allE m).2 = 0) (hn : n ≤ m.tasks.length) : ∀ u ∈ usA (fwM m n), u ∈ usA m := by
 intro u hu
 obtain ⟨i, hi, rfl⟩ := usA_mem hu
 rw [fw_len hn] at hi
 rw [(fw_tells h hi hn).2.2]
 exact List.mem_map.2 ⟨i, List.mem_range.2 (by omega), rfl⟩
theorem jd_fewer {m : ImP} {n : Nat} (h : (jdA m).er = 0) (h1 : 1 ≤ n) (hn : n ≤ m.tasks.length) :
  (jdA (fwM m n)).er = 0 ∧ (jdA (fwM m n)).re.length = n ∧ ∀ i, i < n → (jdA (fwM m n)).re.getD i 0 ≤ (jdA m).re.getD i 0 := by
 have h0 := jd_zero h
 have hw := fw_ok h0 h1 hn
 obtain ⟨g1, g2⟩ := jd_less h hw (by rw [fw_len hn]; exact hn) fun i hi => by
  rw [fw_len hn] at hi
  obtain ⟨a, b, _⟩ := fw_tells h0 hi hn
  have e := fw_at hi hn
  refine ⟨?_, ?_, ?_, ?_, ?_, ?_⟩
  ·show slW (fwM m n) i ≤ slW m i; omega
  ·show (waA (fwM m n)).getD i 0 ≤ (waA m).getD i 0
   rw [(waA_at h0 (by omega)).1, (waA_at hw (by rw [fw_len hn]; exact hi)).1, e]
   exact Kc.waB_more (fw_uses h0 hn) _
  ·show (tkAt m i).pe ≤ (tkAt (fwM m n) i).pe; rw [e]; exact Int.le_refl _
  ·show (tkAt (fwM m n) i).de = (tkAt m i).de; rw [e]
  ·show (tkAt (fwM m n) i).ji = (tkAt m i).ji; rw [e]
  ·show (tkAt (fwM m n) i).pr = (tkAt m i).pr; rw [e]
 exact ⟨g1, by rw [jd_relen g1, fw_len hn], fun i hi => g2 i (by rw [fw_len hn]; exact hi)⟩
/-! ### Blocks' ceilings. -/
end Go.Proofs.YtngehojibcmieaaGreatDoor
end
