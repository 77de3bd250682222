/- What is proved here: plain facts on the parts that the program sums up. Conditions: those each theorem states. -/
import Derived.Test.YtiibbeigkopkeaaCb
import Derived.Test.YtiibbeigkopkeaaRn
namespace Go.Proofs.Ytiibbeigkopkeaa

/-- The slots of one other row: none where it is below. -/
def shV (x : RtR) (wv : Int) (r : RtR) : Int := if r.P < x.P then 0 else ptV r wv (sames x.P r)
/-- The parts of a sum, of the first rows. -/
def pts (x : RtR) (wv : Int) (L : List RtR) (i0 k : Nat) : List Int := x.C :: x.B :: (othTo L 0 i0 k).map (shV x wv)
theorem pts_zero (x : RtR) (wv : Int) (L : List RtR) (i0 : Nat) : pts x wv L i0 0 = [x.C, x.B] := rfl
theorem pts_self {x : RtR} {wv : Int} {L : List RtR} {k : Nat} {y : RtR} (h : L[k]? = some y) : pts x wv L k (k + 1) = pts x wv L k k := by
  unfold pts
  rw [othTo_succ h, if_neg (by simp)]
theorem pts_more {x : RtR} {wv : Int} {L : List RtR} {i0 k : Nat} {y : RtR} (h : L[k]? = some y) (hk : k ≠ i0) (hy : okR y = true) : pts x wv L i0 (k + 1) = pts x wv L i0 k ++ [shV x wv y] := by
  have := (okR_parts hy).2.2.2.2.2
  unfold pts
  rw [othTo_succ h, if_pos ⟨hk, by omega⟩, List.map_append]
  rfl
theorem suB_snoc (o : List RtR) (y : RtR) (p wv : Int) : suB (o ++ [y]) p wv = (suB o p wv || ptB y wv (sames p y)) := by
  unfold suB; rw [List.any_append]; simp
theorem suV_snoc (o : List RtR) (y : RtR) (p wv : Int) : suV (o ++ [y]) p wv = suV o p wv + ptV y wv (sames p y) := by
  unfold suV; rw [List.map_append, List.sum_append]; simp
theorem pts_facts {x : RtR} {wv : Int} {L : List RtR} {i0 : Nat} (hg : rgR L = true) (hx : okR x = true) (hw : rtI wv = true) : ∀ k, k ≤ L.length → suB (othTo L x.P i0 k) x.P wv = false →
    (pts x wv L i0 k).sum = x.C + x.B + suV (othTo L x.P i0 k) x.P wv ∧ al (pts x wv L i0 k) = true
  | 0, _, _ => by
    obtain ⟨⟨p1, p2⟩, ⟨p3, p4⟩, _⟩ := okR_parts hx
    rw [pts_zero]
    refine ⟨by simp [othTo_zero, suV], ?_⟩
    rw [al_iff]; intro z hz; simp at hz; rcases hz with rfl | rfl <;> exact rt_iff.2 (by omega)
  | k + 1, hk, hb => by
    obtain ⟨y, hy⟩ : ∃ y, L[k]? = some y := ⟨_, List.getElem?_eq_getElem (by omega)⟩
    have oy := rgR_mem hg (List.mem_of_getElem? hy)
    by_cases e : k = i0
    · subst e
      rw [othTo_succ hy, if_neg (by simp)] at hb ⊢
      rw [pts_self hy]
      exact pts_facts hg hx hw k (by omega) hb
    · rw [pts_more hy e oy, List.sum_append]
      by_cases c : y.P < x.P
      · rw [othTo_succ hy, if_neg (by omega)] at hb ⊢
        obtain ⟨h1, h2⟩ := pts_facts hg hx hw k (by omega) hb
        have e1 : shV x wv y = 0 := by unfold shV; rw [if_pos c]
        rw [e1]
        refine ⟨by simp [h1], ?_⟩
        rw [al_iff] at h2 ⊢
        intro z hz
        rw [List.mem_append] at hz
        rcases hz with hz | hz
        · exact h2 z hz
        · simp at hz; subst hz; rfl
      · rw [othTo_succ hy, if_pos ⟨e, by omega⟩] at hb ⊢
        rw [suB_snoc, Bool.or_eq_false_iff] at hb
        obtain ⟨h1, h2⟩ := pts_facts hg hx hw k (by omega) hb.1
        have e1 : shV x wv y = ptV y wv (sames x.P y) := by unfold shV; rw [if_neg c]
        have v0 := ptV_pos oy (rtI_iff.1 hw).1 (sames x.P y)
        have v1 : ptV y wv (sames x.P y) < 4611686018427387904 := by
          have := hb.2
          unfold ptB at this
          simp only [Bool.or_eq_false_iff, decide_eq_false_iff_not] at this
          omega
        rw [e1, suV_snoc]
        refine ⟨by simp [h1]; omega, ?_⟩
        rw [al_iff] at h2 ⊢
        intro z hz
        rw [List.mem_append] at hz
        rcases hz with hz | hz
        · exact h2 z hz
        · simp at hz; subst hz; exact rt_iff.2 ⟨v0, v1⟩
/-- The sum of a row that is there. -/
def smR (L : List RtR) (x : RtR) (k : Nat) (wv : Int) : Int × Int := match nxO x (oth L x.P k) wv with | some m => (m, 0) | none => (0, 4)
theorem smR_bad {L : List RtR} {x y : RtR} {i0 k : Nat} {wv : Int} (h : L[k]? = some y) (hk : ¬ k = i0) (hp : ¬ y.P < x.P) (hb : ptB y wv (sames x.P y) = true) : smR L x i0 wv = (0, 4) := by
  unfold smR
  rw [nxO_bad (oth_in h hk (by omega)) hb]
theorem smR_end {L : List RtR} {x : RtR} {i0 : Nat} {wv : Int} (hg : rgR L = true) (hx : okR x = true) (hw : rtI wv = true) (hb : suB (othTo L x.P i0 L.length) x.P wv = false) :
    smR L x i0 wv = (addV (pts x wv L i0 L.length), addE (pts x wv L i0 L.length)) := by
  obtain ⟨h1, h2⟩ := pts_facts hg hx hw L.length (Nat.le_refl _) hb
  rw [othTo_all] at h1 hb
  unfold smR
  by_cases c : x.C + x.B + suV (oth L x.P i0) x.P wv < 4611686018427387904
  · rw [show nxO x (oth L x.P i0) wv = some (x.C + x.B + suV (oth L x.P i0) x.P wv) from nxO_some.2 ⟨hb, c, rfl⟩, (add_ok h2 (by rw [h1]; exact c)).1, (add_ok h2 (by rw [h1]; exact c)).2, h1]
  · rw [show nxO x (oth L x.P i0) wv = none from by unfold nxO; rw [if_pos (Or.inr (by omega))], (add_big h2 (by rw [h1]; omega)).1, (add_big h2 (by rw [h1]; omega)).2]
end Go.Proofs.Ytiibbeigkopkeaa
