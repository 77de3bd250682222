/- What is proved here: plain facts on rows of instructions and their bytes: rows are read as they were, what is read has the bytes that were read, and what is cut off in the middle of one is short. Conditions: none beyond those each theorem states. -/
import Derived.Test.YtofmlodfhdjjiaaDoorOp
namespace Go.Proofs.YtofmlodfhdjjiaaDoor

/-- Instructions' bytes, one behind the other. -/
def flatI (L : List (Int × Int × Int)) : List UInt8 := L.flatMap encI
theorem flatI_nil : flatI [] = [] := rfl
theorem flatI_cons (i : Int × Int × Int) (L : List (Int × Int × Int)) : flatI (i :: L) = encI i ++ flatI L := by simp [flatI]
theorem flatI_append (L M : List (Int × Int × Int)) : flatI (L ++ M) = flatI L ++ flatI M := by simp [flatI]
/-- All can be. -/
def allR (L : List (Int × Int × Int)) : Bool := L.all right
theorem allR_cons {i : Int × Int × Int} {L : List (Int × Int × Int)} : allR (i :: L) = (right i && allR L) := by simp [allR]
theorem allR_append {L M : List (Int × Int × Int)} : allR (L ++ M) = (allR L && allR M) := by simp [allR]
def AllFitI (L : List (Int × Int × Int)) : Prop := ∀ i ∈ L, FitsI i
/-- Instructions' bytes, or none. -/
def cod (L : List (Int × Int × Int)) : List UInt8 := if L.length ≤ 200 ∧ allR L = true then flatI L else []
theorem cod_right {L : List (Int × Int × Int)} (h1 : L.length ≤ 200) (h2 : allR L = true) : cod L = flatI L := by unfold cod; rw [if_pos ⟨h1, h2⟩]
theorem cod_long {L : List (Int × Int × Int)} (h1 : 200 < L.length) : cod L = [] := by unfold cod; rw [if_neg (by omega)]
theorem cod_wrong {L : List (Int × Int × Int)} (h2 : allR L = false) : cod L = [] := by unfold cod; rw [if_neg (by simp [h2])]
theorem flatI_len {L : List (Int × Int × Int)} (h : AllFitI L) : (flatI L).length ≤ 21 * L.length := by
  induction L with
  | nil => simp [flatI]
  | cons i L ih =>
    rw [flatI_cons, List.length_append, List.length_cons]
    have h1 := encI_len (h i (by simp))
    have h2 := ih (fun j hj => h j (by simp [hj]))
    omega
theorem cod_len {L : List (Int × Int × Int)} (h : AllFitI L) : (cod L).length ≤ 4200 := by
  unfold cod
  split
  · rename_i h1; have := flatI_len h; omega
  · simp

/-- The instructions from a place on, behind those that are there. -/
def rdF (l : List UInt8) : Nat → List (Int × Int × Int) → Int → List (Int × Int × Int) × Int
  | 0, _, _ => ([], 4)
  | f + 1, out, p =>
    if p < l.length then if out.length = 200 then ([], 4) else if (dec l p).2.2 ≠ 0 then ([], (dec l p).2.2) else rdF l f (out ++ [(dec l p).1]) (dec l p).2.1
    else (out, 0)
def rd (l : List UInt8) : List (Int × Int × Int) × Int := rdF l 202 [] 0
theorem rdF_end {l : List UInt8} {f : Nat} {out : List (Int × Int × Int)} {p : Int} (h : ¬ p < l.length) : rdF l (f + 1) out p = (out, 0) := by rw [rdF, if_neg h]
theorem rdF_big {l : List UInt8} {f : Nat} {out : List (Int × Int × Int)} {p : Int} (h : p < l.length) (ho : out.length = 200) : rdF l (f + 1) out p = ([], 4) := by rw [rdF, if_pos h, if_pos ho]
theorem rdF_err {l : List UInt8} {f : Nat} {out : List (Int × Int × Int)} {p : Int} (h : p < l.length) (ho : out.length ≠ 200) (he : (dec l p).2.2 ≠ 0) : rdF l (f + 1) out p = ([], (dec l p).2.2) := by rw [rdF, if_pos h, if_neg ho, if_pos he]
theorem rdF_ok {l : List UInt8} {f : Nat} {out : List (Int × Int × Int)} {p : Int} (h : p < l.length) (ho : out.length ≠ 200) (he : (dec l p).2.2 = 0) : rdF l (f + 1) out p = rdF l f (out ++ [(dec l p).1]) (dec l p).2.1 := by
  rw [rdF, if_pos h, if_neg ho, if_neg (by simp [he])]

theorem encI_pos {i : Int × Int × Int} (h : right i = true) : 0 < (encI i).length := by rw [encI_right h]; simp

/-- Rows are read as they were; what comes behind them is read then. -/
theorem rdF_flat (L : List (Int × Int × Int)) (hr : allR L = true) (hf : AllFitI L) (pre rest : List UInt8) (f : Nat) (out : List (Int × Int × Int)) (ho : out.length + L.length ≤ 200) :
    rdF (pre ++ (flatI L ++ rest)) (f + L.length) out pre.length = rdF (pre ++ (flatI L ++ rest)) f (out ++ L) (pre.length + (flatI L).length : Nat) := by
  induction L generalizing pre out with
  | nil => simp [flatI]
  | cons i L ih =>
    rw [allR_cons, Bool.and_eq_true] at hr
    have hfi := hf i (by simp)
    have hp := encI_pos hr.1
    have hd := dec_enc hr.1 hfi pre (flatI L ++ rest)
    have e : pre ++ (flatI (i :: L) ++ rest) = pre ++ (encI i ++ (flatI L ++ rest)) := by rw [flatI_cons, List.append_assoc]
    rw [e, List.length_cons, ← Nat.add_assoc]
    simp only [List.length_cons] at ho
    rw [rdF_ok (by simp; omega) (by omega) (by rw [hd]), hd]
    have e2 : pre ++ (encI i ++ (flatI L ++ rest)) = (pre ++ encI i) ++ (flatI L ++ rest) := by simp
    have e3 : (pre.length : Int) + (encI i).length = ((pre ++ encI i).length : Nat) := by simp
    have := ih hr.2 (fun j hj => hf j (by simp [hj])) (pre ++ encI i) (out ++ [i]) (by simp; omega)
    simp only at e3 this ⊢
    rw [e2, e3, this]
    congr 1
    · simp
    · rw [flatI_cons]; simp; omega
theorem rd_flat {L : List (Int × Int × Int)} (hr : allR L = true) (hf : AllFitI L) (hl : L.length ≤ 200) : rd (flatI L) = (L, 0) := by
  have h := rdF_flat L hr hf [] [] (202 - L.length) [] (by simpa using hl)
  rw [List.nil_append, List.append_nil, List.length_nil, Nat.zero_add, List.nil_append, show 202 - L.length + L.length = 202 by omega] at h
  unfold rd
  have h' : rdF (flatI L) 202 [] 0 = rdF (flatI L) (202 - L.length) L ((flatI L).length : Nat) := h
  rw [h', show 202 - L.length = (201 - L.length) + 1 by omega, rdF_end (by omega)]
/-- Cut off in the middle of one it is short. -/
theorem rd_cut {L : List (Int × Int × Int)} {i : Int × Int × Int} (hr : allR L = true) (hf : AllFitI L) (hl : L.length < 200) (hri : right i = true) (hfi : FitsI i) {k : Nat} (hk0 : 0 < k) (hk : k < (encI i).length) :
    rd (flatI L ++ (encI i).take k) = ([], 2) := by
  have h := rdF_flat L hr hf [] ((encI i).take k) (202 - L.length) [] (by simp; omega)
  rw [List.nil_append, List.length_nil, Nat.zero_add, List.nil_append, show 202 - L.length + L.length = 202 by omega] at h
  unfold rd
  have h' : rdF (flatI L ++ (encI i).take k) 202 [] 0 = rdF (flatI L ++ (encI i).take k) (202 - L.length) L ((flatI L).length : Nat) := h
  have hd := dec_cut hri hfi (flatI L) hk
  rw [h', show 202 - L.length = (201 - L.length) + 1 by omega, rdF_err (by simp; omega) (by omega) (by rw [hd]; simp), hd]

/-- What is read has the bytes that were read. -/
theorem rdF_back {l : List UInt8} {f : Nat} {out L : List (Int × Int × Int)} {k : Nat} (hk : k ≤ l.length) (ho : out.length ≤ 200) (h : rdF l f out k = (L, 0)) :
    ∃ M, L = out ++ M ∧ L.length ≤ 200 ∧ allR M = true ∧ AllFitI M ∧ flatI M = l.drop k := by
  induction f generalizing out k with
  | zero => rw [rdF] at h; injection h with h1 h2; simp at h2
  | succ f ih =>
    by_cases hp : (k : Int) < l.length
    · by_cases h2 : out.length = 200
      · rw [rdF_big hp h2] at h; injection h with h1 h2; simp at h2
      · by_cases he : (dec l k).2.2 = 0
        · obtain ⟨t, ht, ht1, ht2, ht3, ht4, ht5⟩ := dec_ok he
          rw [rdF_ok hp h2 he, ht] at h
          obtain ⟨M, hM1, hM2, hM3, hM4, hM5⟩ := ih ht2 (by simp; omega) h
          refine ⟨(dec l k).1 :: M, by rw [hM1]; simp, hM2, by rw [allR_cons, ht3, hM3]; rfl, ?_, ?_⟩
          · intro j hj
            rcases List.mem_cons.1 hj with rfl | hj
            · exact ht4
            · exact hM4 j hj
          · rw [flatI_cons, ht5, hM5]
            have := List.take_append_drop (t - k) (l.drop k)
            rw [List.drop_drop, show k + (t - k) = t by omega] at this
            exact this
        · rw [rdF_err hp h2 he] at h; injection h with h1 h2; exact absurd h2 he
    · rw [rdF_end hp] at h
      injection h with h1 h2
      subst h1
      exact ⟨[], by simp, ho, rfl, (fun _ hj => by cases hj), by rw [List.drop_of_length_le (by omega)]; rfl⟩
theorem rd_back {l : List UInt8} {L : List (Int × Int × Int)} (h : rd l = (L, 0)) : L.length ≤ 200 ∧ allR L = true ∧ AllFitI L ∧ flatI L = l := by
  obtain ⟨M, h1, h2, h3, h4, h5⟩ := rdF_back (k := 0) (by omega) (by simp) h
  rw [List.nil_append] at h1
  subst h1
  exact ⟨h2, h3, h4, by rw [h5]; rfl⟩
/-- Two rows that have bytes are the same just if these are. -/
theorem cod_inj {L M : List (Int × Int × Int)} (hL : AllFitI L) (hM : AllFitI M) (h1 : cod L ≠ []) (h : cod L = cod M) : L = M := by
  have a : ∀ {K : List (Int × Int × Int)}, AllFitI K → cod K ≠ [] → rd (cod K) = (K, 0) := by
    intro K hK hne
    unfold cod at hne ⊢
    split at hne
    · rename_i hc
      rw [if_pos hc]; exact rd_flat hc.2 hK hc.1
    · exact absurd rfl hne
  have b1 := a hL h1
  have b2 := a hM (by rw [← h]; exact h1)
  rw [h, b2] at b1
  injection b1 with b1 _
  exact b1.symm
/-- A read row is no longer than 200. -/
theorem rdF_len {l : List UInt8} {f : Nat} {out : List (Int × Int × Int)} {p : Int} (ho : out.length ≤ 200) : (rdF l f out p).1.length ≤ 200 := by
  induction f generalizing out p with
  | zero => simp [rdF]
  | succ f ih =>
    rw [rdF]
    split
    · split
      · simp
      · split
        · simp
        · exact ih (by simp; omega)
    · exact ho
theorem rd_len (l : List UInt8) : (rd l).1.length ≤ 200 := rdF_len (by simp)
end Go.Proofs.YtofmlodfhdjjiaaDoor
