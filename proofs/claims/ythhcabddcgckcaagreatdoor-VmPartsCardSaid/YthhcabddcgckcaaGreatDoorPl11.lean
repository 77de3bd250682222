/- What is proved here: a run of two rows one behind the other, without locals and retained numbers that are read, is the first one's and then the second one's. Conditions: New takes the rows; the first one leaves nothing; blocks are 0 at each step. -/
import Derived.Test.YthhcabddcgckcaaGreatDoorPl10
import Derived.Test.YthhcabddcgckcaaGreatDoorPl8
import Derived.Test.YthhcabddcgckcaaGreatDoorTy4
import Derived.Test.YthhcabddcgckcaaGreatDoorGn
namespace Go.Proofs.YthhcabddcgckcaaGreatDoor
open Go.RowKit

/-- A step, if it runs, where the blocks are 0. -/
def nz (L : List (Int × Int × Int)) (v : V) : V := (nxt L (v, blank)).1
def itz (L : List (Int × Int × Int)) : Nat → V → V
  | 0, v => v
  | k + 1, v => nz L (itz L k v)
theorem nz_idle {L : List (Int × Int × Int)} {v : V} (h : v.goes = false) : nz L v = v := by unfold nz nxt; rw [if_neg (by rw [h]; simp)]
theorem nz_goes {L : List (Int × Int × Int)} {v : V} (h : v.goes = true) : nz L v = (deed (at_ L v.pl) v.ahead blank).1 := by unfold nz nxt; rw [if_pos h]; rfl
theorem itz_idle {L : List (Int × Int × Int)} {v : V} (h : v.goes = false) : ∀ k, itz L k v = v
  | 0 => rfl
  | k + 1 => by show nz L (itz L k v) = v; rw [itz_idle h k]; exact nz_idle h
theorem itz_add (L : List (Int × Int × Int)) (v : V) (j : Nat) : ∀ k, itz L (k + j) v = itz L k (itz L j v)
  | 0 => by rw [Nat.zero_add]; rfl
  | k + 1 => by rw [show k + 1 + j = (k + j) + 1 by omega]; show nz L (itz L (k + j) v) = nz L (itz L k (itz L j v)); rw [itz_add L v j k]
theorem itz_end {L : List (Int × Int × Int)} {v : V} {j k : Nat} (h1 : (itz L j v).goes = false) (h2 : (itz L k v).goes = false) : itz L j v = itz L k v := by
  rcases Nat.le_total j k with h | h
  · obtain ⟨d, rfl⟩ : ∃ d, k = d + j := ⟨k - j, by omega⟩
    rw [itz_add, itz_idle h1]
  · obtain ⟨d, rfl⟩ : ∃ d, j = d + k := ⟨j - k, by omega⟩
    rw [itz_add, itz_idle h2]
theorem Fine.zit {L : List (Int × Int × Int)} {v : V} (h : Fine L v) (w : Takes L) : ∀ k, Fine L (itz L k v)
  | 0 => h
  | k + 1 => Fine.next (x := (itz L k v, blank)) (Fine.zit h w k) w
theorem itz_steps {L : List (Int × Int × Int)} {v : V} (h0 : v.stp = 0) : ∀ k : Nat, k ≤ 4000000000000000000 → 0 ≤ (itz L k v).stp ∧ (itz L k v).stp ≤ k
  | 0, _ => by show 0 ≤ v.stp ∧ v.stp ≤ _; omega
  | k + 1, h => by
    obtain ⟨i1, i2⟩ := itz_steps (L := L) h0 k (by omega)
    cases hg : (itz L k v).goes
    · rw [show itz L (k + 1) v = itz L k v from nz_idle hg]; omega
    · rw [show itz L (k + 1) v = (deed (at_ L (itz L k v).pl) (itz L k v).ahead blank).1 from nz_goes hg, deed_stp]
      show 0 ≤ IntKind.i64.wrap ((itz L k v).stp + 1) ∧ IntKind.i64.wrap ((itz L k v).stp + 1) ≤ _
      rw [IntKind.wrap_i64]; omega
theorem itz_inp {L : List (Int × Int × Int)} {v : V} : ∀ k, (itz L k v).inp = v.inp
  | 0 => rfl
  | k + 1 => by
    have ih := itz_inp (L := L) (v := v) k
    cases hg : (itz L k v).goes
    · rw [show itz L (k + 1) v = itz L k v from nz_idle hg]; exact ih
    · rw [show itz L (k + 1) v = (deed (at_ L (itz L k v).pl) (itz L k v).ahead blank).1 from nz_goes hg, deed_inp]; exact ih
/-- The last step of a run. -/
theorem itz_last {L : List (Int × Int × Int)} {v : V} (h0 : v.goes = true) : ∀ T, (itz L T v).goes = false → ∃ k, k < T ∧ (itz L k v).goes = true ∧ (itz L (k + 1) v).goes = false
  | 0, h => by rw [show itz L 0 v = v from rfl, h0] at h; cases h
  | T + 1, h => by
    cases hg : (itz L T v).goes
    · obtain ⟨k, h1, h2, h3⟩ := itz_last h0 T hg
      exact ⟨k, by omega, h2, h3⟩
    · exact ⟨T, by omega, hg, h⟩
/-- Where it stands at the last step. -/
theorem last_facts {L : List (Int × Int × Int)} {v : V} (h : Agr L v) (w : Takes L) (he : (nz L v).goes = false) : (at_ L v.pl).1 = 25 ∧ v.pl = L.length - 1 ∧ v.lps = [] ∧ v.held = 0 ∧ nz L v = { v.ahead with goes := false } := by
  have h25 : (at_ L v.pl).1 = 25 := by
    by_cases e : (at_ L v.pl).1 = 25
    · exact e
    · have := (inv_step h w blank e).goes
      unfold nz nxt at he
      rw [if_pos h.goes] at he
      rw [show (stp L (v, blank).1 (v, blank).2).1 = (stp L v blank).1 from rfl, this] at he; cases he
  obtain ⟨e1, e2, e3⟩ := w.end_ h h25 blank
  refine ⟨h25, by omega, ?_, ?_, ?_⟩
  · have := h.lps
    rw [e3] at this
    cases hq : v.lps.reverse with
    | nil => simpa using hq
    | cons x r => rw [hq] at this; exact this.elim
  · rw [h.held, e3]; rfl
  · unfold nz nxt; rw [if_pos h.goes]; exact congrArg Prod.fst e1
/-- A state of the second row, shifted behind the first one. -/
def sh (d : Nat) (n : V) (l r : List Int) (u : List (Bool × Int)) (f s : Int) : V := { n with pl := n.pl + d, lps := n.lps.map (fun x => (x.1 + d, x.2)), loc := l, ret := r, outs := u, flt := f, stp := s }
theorem last_map (d : Nat) : ∀ (l : List (Nat × Int)), l ≠ [] → (l.map fun x => (x.1 + d, x.2)).getLastD (0, 0) = ((l.getLastD (0, 0)).1 + d, (l.getLastD (0, 0)).2) := by
  intro l h
  obtain ⟨r, x, rfl⟩ : ∃ r x, l = r ++ [x] := ⟨l.dropLast, l.getLast h, (List.dropLast_concat_getLast h).symm⟩
  simp
theorem drop_map (d : Nat) (l : List (Nat × Int)) : (l.map fun x => (x.1 + d, x.2)).dropLast = l.dropLast.map fun x => (x.1 + d, x.2) := by
  rw [List.map_dropLast]
theorem sh_deed (d : Nat) (o a c : Int) (ho : 1 ≤ o ∧ o ≤ 25) (h11 : o ≠ 11) (h13 : o ≠ 13) (n : V) (l r : List Int) (u : List (Bool × Int)) (f s : Int) :
    ∃ l' r' f', (deed (o, a, c) (sh d n l r u f s) blank).1 = sh d (deed (o, a, c) n blank).1 l' r' (if o = 16 then u.set a.toNat (true, n.top) else u) f' s := by
  rcases (show o = 1 ∨ o = 2 ∨ o = 3 ∨ o = 4 ∨ o = 5 ∨ o = 6 ∨ o = 7 ∨ o = 8 ∨ o = 9 ∨ o = 10 ∨ o = 12 ∨ o = 14 ∨ o = 15 ∨ o = 16 ∨ o = 17 ∨ o = 18 ∨ o = 19 ∨ o = 20 ∨ o = 21 ∨ o = 22 ∨ o = 23 ∨ o = 24 ∨ o = 25 by omega) with
    rfl | rfl | rfl | rfl | rfl | rfl | rfl | rfl | rfl | rfl | rfl | rfl | rfl | rfl | rfl | rfl | rfl | rfl | rfl | rfl | rfl | rfl | rfl
  · exact ⟨_, _, _, rfl⟩
  · exact ⟨_, _, _, rfl⟩
  · exact ⟨_, _, _, rfl⟩
  · exact ⟨_, _, _, rfl⟩
  · exact ⟨_, _, _, rfl⟩
  · exact ⟨_, _, _, rfl⟩
  · exact ⟨_, _, _, rfl⟩
  · exact ⟨_, _, _, rfl⟩
  · exact ⟨_, _, _, rfl⟩
  · exact ⟨_, _, _, rfl⟩
  · exact ⟨_, _, _, rfl⟩
  · exact ⟨_, _, _, rfl⟩
  · exact ⟨_, _, _, rfl⟩
  · exact ⟨_, _, _, rfl⟩
  · exact ⟨_, _, _, rfl⟩
  · exact ⟨_, _, _, rfl⟩
  · refine ⟨l, r, f, ?_⟩
    show ({ sh d n l r u f s with pl := n.pl + d + a.toNat } : V) = { sh d n l r u f s with pl := n.pl + a.toNat + d }
    rw [Nat.add_right_comm]
  · refine ⟨l, r, f, ?_⟩
    show ({ (sh d n l r u f s).pop with pl := if n.top = 0 then n.pl + d + a.toNat else n.pl + d } : V) = { (sh d n l r u f s).pop with pl := (if n.top = 0 then n.pl + a.toNat else n.pl) + d }
    split
    · rw [Nat.add_right_comm]
    · rfl
  · refine ⟨l, r, f, ?_⟩
    show ({ sh d n l r u f s with lps := n.lps.map (fun x => (x.1 + d, x.2)) ++ [(n.pl + d, a)] } : V) = { sh d n l r u f s with lps := (n.lps ++ [(n.pl, a)]).map (fun x => (x.1 + d, x.2)) }
    rw [List.map_append]; rfl
  · refine ⟨l, r, f, ?_⟩
    by_cases hl : n.lps = []
    · show (if 0 < ((n.lps.map fun x => (x.1 + d, x.2)).getLastD (0, 0)).2 - 1 then _ else ({ sh d n l r u f s with lps := (n.lps.map fun x => (x.1 + d, x.2)).dropLast } : V)) = sh d (if 0 < (n.lps.getLastD (0, 0)).2 - 1 then _ else { n with lps := n.lps.dropLast }) l r u f s
      rw [hl]; rfl
    · show (if 0 < ((n.lps.map fun x => (x.1 + d, x.2)).getLastD (0, 0)).2 - 1 then ({ sh d n l r u f s with lps := (n.lps.map fun x => (x.1 + d, x.2)).dropLast ++ [(((n.lps.map fun x => (x.1 + d, x.2)).getLastD (0, 0)).1, ((n.lps.map fun x => (x.1 + d, x.2)).getLastD (0, 0)).2 - 1)], pl := ((n.lps.map fun x => (x.1 + d, x.2)).getLastD (0, 0)).1 } : V) else ({ sh d n l r u f s with lps := (n.lps.map fun x => (x.1 + d, x.2)).dropLast } : V)) = sh d (if 0 < (n.lps.getLastD (0, 0)).2 - 1 then { n with lps := n.lps.dropLast ++ [((n.lps.getLastD (0, 0)).1, (n.lps.getLastD (0, 0)).2 - 1)], pl := (n.lps.getLastD (0, 0)).1 } else { n with lps := n.lps.dropLast }) l r u f s
      rw [last_map d _ hl, drop_map]
      simp only
      split
      · unfold sh; simp
      · rfl
  · exact ⟨_, _, _, rfl⟩
  · exact ⟨_, _, _, rfl⟩
  · exact ⟨_, _, _, rfl⟩
end Go.Proofs.YthhcabddcgckcaaGreatDoor
