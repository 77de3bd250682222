/- What is proved here: the steps and the outputs of two rows one behind the other. Conditions: as in Pl11. -/
import Derived.Test.YthhcabddcgckcaaGreatDoorPl11
namespace Go.Proofs.YthhcabddcgckcaaGreatDoor
open Go.RowKit

/-- What the one has, one of the two others has. -/
def Cov (u m n : List (Bool × Int)) : Prop := u.length = 16 ∧ m.length = 16 ∧ n.length = 16 ∧ ∀ i, (u.getD i (false, 0)).1 = true → (m.getD i (false, 0)).1 = true ∨ (n.getD i (false, 0)).1 = true
theorem Cov.set {u m n : List (Bool × Int)} (h : Cov u m n) (a : Nat) (x y : Int) : Cov (u.set a (true, x)) m (n.set a (true, y)) := by
  obtain ⟨h1, h2, h3, h4⟩ := h
  refine ⟨by simpa using h1, h2, by simpa using h3, fun i hi => ?_⟩
  by_cases e : a = i
  · subst e
    by_cases ha : a < 16
    · right
      rw [List.getD_eq_getElem?_getD, List.getElem?_set_self (by omega)]; rfl
    · rw [List.getD_eq_getElem?_getD, List.getElem?_eq_none (by simp; omega)] at hi; cases hi
  · rw [List.getD_eq_getElem?_getD, List.getElem?_set_ne e, ← List.getD_eq_getElem?_getD] at hi
    rcases h4 i hi with h | h
    · exact Or.inl h
    · right
      rw [List.getD_eq_getElem?_getD, List.getElem?_set_ne e, ← List.getD_eq_getElem?_getD]; exact h
theorem outs_count : ∀ (u m n : List (Bool × Int)) (p : Nat), u.length = m.length → u.length = n.length → (∀ i, (u.getD i (false, 0)).1 = true → (m.getD i (false, 0)).1 = true ∨ (n.getD i (false, 0)).1 = true) → (outsOf u p).length ≤ (outsOf m p).length + (outsOf n p).length
  | [], m, n, p, h1, h2, h => by simp [outsOf]
  | x :: u, [], _, _, h1, _, _ => by simp at h1
  | x :: u, _ :: _, [], _, _, h2, _ => by simp at h2
  | x :: u, y :: m, z :: n, p, h1, h2, h => by
    have ih := outs_count u m n (p + 1) (by simpa using h1) (by simpa using h2) (fun i hi => by
      have := h (i + 1) (by simpa using hi)
      simpa using this)
    have h0 := h 0
    simp only [List.getD_cons_zero] at h0
    have e : ∀ (q : Bool × Int) (r : List (Bool × Int)), (outsOf (q :: r) p).length = (outsOf r (p + 1)).length + if q.1 = true then 1 else 0 := fun q r => by
      show (if q.1 = true then ((p : Int), q.2) :: outsOf r (p + 1) else outsOf r (p + 1)).length = _
      by_cases hq : q.1 = true
      · rw [if_pos hq, if_pos hq]; rfl
      · rw [if_neg hq, if_neg hq]; rfl
    rw [e, e, e]
    by_cases hx : x.1 = true
    · rw [if_pos hx]
      rcases h0 hx with hy | hz
      · rw [if_pos hy]; split <;> omega
      · rw [if_pos hz]; split <;> omega
    · rw [if_neg hx]; omega
theorem Cov.count {u m n : List (Bool × Int)} (h : Cov u m n) : (outsOf (u.take 16) 0).length ≤ (outsOf (m.take 16) 0).length + (outsOf (n.take 16) 0).length := by
  obtain ⟨h1, h2, h3, h4⟩ := h
  rw [List.take_of_length_le (by omega), List.take_of_length_le (by omega), List.take_of_length_le (by omega)]
  exact outs_count u m n 0 (by omega) (by omega) h4
/-- The second row's run, behind the first one's. -/
def Sim (d : Nat) (m : List (Bool × Int)) (s0 : Int) (o n : V) : Prop := ∃ l r u f s, o = sh d n l r u f s ∧ Cov u m n.outs ∧ s = n.stp + s0
theorem sh_ahead (d : Nat) (n : V) (l r : List Int) (u : List (Bool × Int)) (f s : Int) : (sh d n l r u f s).ahead = sh d n.ahead l r u f (IntKind.i64.wrap (s + 1)) := by
  unfold sh V.ahead
  simp only
  rw [Nat.add_right_comm]
theorem Sim.step {O B : List (Int × Int × Int)} {d : Nat} {m : List (Bool × Int)} {s0 : Int} {o n : V} (h : Sim d m s0 o n) (hok : Fine B n) (w : Takes B) (hat : ∀ j, at_ O (d + j) = at_ B j)
    (hno : ∀ j, j < B.length → (at_ B j).1 ≠ 11 ∧ (at_ B j).1 ≠ 13) (h1 : 0 ≤ n.stp) (h2 : n.stp ≤ 1000000) (h3 : 0 ≤ s0) (h4 : s0 ≤ 1000000) : Sim d m s0 (nz O o) (nz B n) := by
  obtain ⟨l, r, u, f, s, rfl, hc, hs⟩ := h
  cases hg : n.goes
  · rw [nz_idle hg, nz_idle (show (sh d n l r u f s).goes = false from hg)]
    exact ⟨l, r, u, f, s, rfl, hc, hs⟩
  · have A : Agr B n := by
      rcases hok with h | h
      · exact h
      · rw [h.1] at hg; cases hg
    rw [nz_goes hg, nz_goes (show (sh d n l r u f s).goes = true from hg), sh_ahead]
    rw [show (sh d n l r u f s).pl = d + n.pl from Nat.add_comm _ _, hat]
    have hk := right_kn (w.right A.pl)
    obtain ⟨n1, n2⟩ := hno _ A.pl
    have hst := deed_stp (at_ B n.pl) n.ahead blank
    have hou := deed_outs (at_ B n.pl) n.ahead blank
    obtain ⟨l', r', f', e⟩ := sh_deed d (at_ B n.pl).1 (at_ B n.pl).2.1 (at_ B n.pl).2.2 hk n1 n2 n.ahead l r u f (IntKind.i64.wrap (s + 1))
    refine ⟨l', r', _, f', _, e, ?_, ?_⟩
    · by_cases h16 : (at_ B n.pl).1 = 16
      · rw [if_pos h16]
        have : (deed (at_ B n.pl) n.ahead blank).1.outs = n.outs.set (at_ B n.pl).2.1.toNat (true, n.ahead.top) := by
          rcases hx : at_ B n.pl with ⟨p1, p2, p3⟩
          rw [hx] at h16; simp only at h16; subst h16; rfl
        rw [show (deed ((at_ B n.pl).1, (at_ B n.pl).2.1, (at_ B n.pl).2.2) n.ahead blank).1.outs = (deed (at_ B n.pl) n.ahead blank).1.outs from rfl, this]
        exact hc.set _ _ _
      · rw [if_neg h16]
        rw [show (deed ((at_ B n.pl).1, (at_ B n.pl).2.1, (at_ B n.pl).2.2) n.ahead blank).1.outs = (deed (at_ B n.pl) n.ahead blank).1.outs from rfl, hou h16]
        exact hc
    · rw [show (deed ((at_ B n.pl).1, (at_ B n.pl).2.1, (at_ B n.pl).2.2) n.ahead blank).1.stp = (deed (at_ B n.pl) n.ahead blank).1.stp from rfl, hst]
      show IntKind.i64.wrap (s + 1) = IntKind.i64.wrap (n.stp + 1) + s0
      rw [IntKind.wrap_i64, IntKind.wrap_i64]
      omega
theorem itz_outs {L : List (Int × Int × Int)} {v : V} : ∀ k, (itz L k v).outs.length = v.outs.length
  | 0 => rfl
  | k + 1 => by
    have ih := itz_outs (L := L) (v := v) k
    cases hg : (itz L k v).goes
    · rw [show itz L (k + 1) v = itz L k v from nz_idle hg]; exact ih
    · rw [show itz L (k + 1) v = (deed (at_ L (itz L k v).pl) (itz L k v).ahead blank).1 from nz_goes hg]
      by_cases h16 : (at_ L (itz L k v).pl).1 = 16
      · have : (deed (at_ L (itz L k v).pl) (itz L k v).ahead blank).1.outs = (itz L k v).outs.set (at_ L (itz L k v).pl).2.1.toNat (true, (itz L k v).ahead.top) := by
          rcases hx : at_ L (itz L k v).pl with ⟨p1, p2, p3⟩
          rw [hx] at h16; simp only at h16; subst h16; rfl
        rw [this, List.length_set]; exact ih
      · rw [deed_outs _ _ _ h16]; exact ih
section
variable {A B : List (Int × Int × Int)} (wA : Takes A) (wB : Takes B) (he : sf A (A.length - 1) = []) (ret inp : List Int)
include wA
/-- As long as the first one runs, the two do the same. -/
theorem two_same : ∀ k, (itz A k (begun ret inp)).goes = true → itz (two A B) k (begun ret inp) = itz A k (begun ret inp)
  | 0, _ => rfl
  | k + 1, hg => by
    have hg2 : (itz A k (begun ret inp)).goes = true := by
      cases hq : (itz A k (begun ret inp)).goes
      · rw [show itz A (k + 1) (begun ret inp) = itz A k (begun ret inp) from nz_idle hq, hq] at hg; cases hg
      · rfl
    have ih := two_same k hg2
    have hF := Fine.zit (Or.inl (wA.begun ret inp)) wA k
    have hA : Agr A (itz A k (begun ret inp)) := by
      rcases hF with h | h
      · exact h
      · rw [h.1] at hg2; cases hg2
    have hne : (at_ A (itz A k (begun ret inp)).pl).1 ≠ 25 := by
      intro e
      obtain ⟨e1, _, _⟩ := wA.end_ hA e blank
      rw [show itz A (k + 1) (begun ret inp) = (stp A (itz A k (begun ret inp)) blank).1 from nz_goes hg2, e1] at hg
      cases hg
    have hm := wA.more hA.pl hne
    show nz (two A B) (itz (two A B) k (begun ret inp)) = nz A (itz A k (begun ret inp))
    rw [ih, nz_goes hg2, nz_goes hg2, two_fst (can_len wA.can).1 (by omega)]
include wB he
theorem parts_end (hno : ∀ j, j < B.length → (at_ B j).1 ≠ 11 ∧ (at_ B j).1 ≠ 13) (T : Nat) (hT : T ≤ 3000) (hm : (itz A T (begun ret inp)).goes = false) (hn : (itz B T (begun ret inp)).goes = false) (ho : (itz (two A B) T (begun ret inp)).goes = false) :
    (itz (two A B) T (begun ret inp)).stp = (itz A T (begun ret inp)).stp + (itz B T (begun ret inp)).stp - 1 ∧
    (outTo (itz (two A B) T (begun ret inp)) 16).length ≤ (outTo (itz A T (begun ret inp)) 16).length + (outTo (itz B T (begun ret inp)) 16).length := by
  obtain ⟨k, hkT, hk1, hk2⟩ := itz_last (L := A) (v := begun ret inp) rfl T hm
  have hAk : Agr A (itz A k (begun ret inp)) := by
    rcases Fine.zit (Or.inl (wA.begun ret inp)) wA k with h | h
    · exact h
    · rw [h.1] at hk1; cases hk1
  obtain ⟨f1, f2, f3, f4, f5⟩ := last_facts hAk wA hk2
  have hst : (itz A k (begun ret inp)).stk = [] := by
    have := hAk.typ.1
    rw [f2, he] at this
    simpa using this
  have hin := itz_inp (L := A) (v := begun ret inp) k
  have hol := itz_outs (L := A) (v := begun ret inp) k
  have hsk := itz_steps (L := A) (v := begun ret inp) rfl k (by omega)
  have hs0 := two_same (B := B) wA ret inp k hk1
  -- where the second one begins
  have hbeg : Sim (A.length - 1) (itz A k (begun ret inp)).outs (itz A k (begun ret inp)).stp (itz (two A B) k (begun ret inp)) (begun ret inp) := by
    rw [hs0]
    generalize itz A k (begun ret inp) = v at hk1 f2 f3 f4 hst hin hol
    refine ⟨v.loc, v.ret, v.outs, v.flt, v.stp, ?_, ⟨hol, hol, rfl, fun i hi => Or.inl hi⟩, ?_⟩
    · obtain ⟨v1, v2, v3, v4, v5, v6, v7, v8, v9, v10, v11⟩ := v
      simp only at hk1 f2 f3 f4 hst hin
      subst hk1 f2 f3 f4 hst hin
      unfold sh begun
      simp
    · show v.stp = 0 + v.stp; omega
  have hall : ∀ j, j ≤ 3000 → Sim (A.length - 1) (itz A k (begun ret inp)).outs (itz A k (begun ret inp)).stp (itz (two A B) (j + k) (begun ret inp)) (itz B j (begun ret inp)) := by
    intro j
    induction j with
    | zero => intro _; rw [Nat.zero_add]; exact hbeg
    | succ j ih =>
      intro hj
      have hsj := itz_steps (L := B) (v := begun ret inp) rfl j (by omega)
      have := (ih (by omega)).step (O := two A B) (Fine.zit (Or.inl (wB.begun ret inp)) wB j) wB (two_snd (can_len wA.can).1) hno hsj.1 (by omega) hsk.1 (by omega)
      rw [show j + 1 + k = (j + k) + 1 by omega]
      exact this
  obtain ⟨l, r, u, f, s, e1, e2, e3⟩ := hall (T - k) (by omega)
  rw [show T - k + k = T by omega] at e1
  have hnj : (itz B (T - k) (begun ret inp)).goes = false := by rw [e1] at ho; exact ho
  have hnT : itz B (T - k) (begun ret inp) = itz B T (begun ret inp) := itz_end hnj hn
  have hmT : itz A T (begun ret inp) = { (itz A k (begun ret inp)).ahead with goes := false } := by
    rw [itz_end hm hk2]; exact f5
  rw [hnT] at e1 e2 e3
  constructor
  · rw [e1, hmT]
    show s = IntKind.i64.wrap ((itz A k (begun ret inp)).stp + 1) + _ - 1
    rw [e3, IntKind.wrap_i64]; omega
  · rw [e1, hmT]
    exact e2.count
end
end Go.Proofs.YthhcabddcgckcaaGreatDoor
