/- What is proved here: the contract of op.Decode. Conditions: the string has at most a million bytes; the tables of names hold what their initialisers lay ('Nms'). -/
import Derived.Test.YtmahpmoaicjcjaaDoorDec
namespace Go.Proofs.YtmahpmoaicjcjaaDoor
open Go.ChangeShapes Go.WideShapes Go.RowKit

theorem bcell {W w1 : World} (hb : Below W.heap.size W w1) : (∀ b o, b < W.heap.size → w1.cell? ⟨b, o, none⟩ = W.cell? ⟨b, o, none⟩) ∧ (∀ b o, b < W.heap.size → w1.frozen? ⟨b, o, none⟩ = W.frozen? ⟨b, o, none⟩) :=
  ⟨fun b o h => hb.cell (p := ⟨b, o, none⟩) h, fun b o h => hb.frozen (p := ⟨b, o, none⟩) h⟩
theorem opAt_byte (s : ByteArray) (k : Nat) (h : k < s.size) : opAt s.data.toList k = (s[k].toNat : Int) := by
  unfold opAt
  rw [Int.toNat_natCast, List.getD_eq_getElem?_getD, List.getElem?_eq_getElem (by simpa using h), Option.getD_some, byte_list s k h]
theorem wrap_byte (b : UInt8) : wrap64 (b.toNat : Int) = b.toNat := by have := b.toNat_lt; unfold wrap64; omega
/-- Decode's answer beside an error. -/
def badR (e : Int) : (Int × Int × Int) × Int × Int := ((0, 0, 0), 0, e)

theorem decode_out (s : ByteArray) (p : Int) (hs : s.size ≤ 1000000) (h : p < 0 ∨ (s.size : Int) < p) (w : World) :
    Calls Tryd.prog 19 #[.string s, .int .i64 p] w (Got (badR 1) w) := by
  have hb0 := build_none
  rcases h with h | h
  all_goals
    go_enter Tryd.func19, Tryd.ntmps19
    go_wp2
    exact bodyPost_ret (v := .tuple #[.agg #[.int .i64 0, .int .i64 0, .int .i64 0], .int .i64 0, .int .i64 1]) (by simp [results, Tryd.results19, go_sem]) rfl ⟨rfl, (Below.refl _ _).alloc (Nat.le_refl _) _⟩
theorem decode_end (s : ByteArray) (w : World) :
    Calls Tryd.prog 19 #[.string s, .int .i64 s.size] w (Got (badR 2) w) := by
  have hb0 := build_none
  go_enter Tryd.func19, Tryd.ntmps19
  go_wp2
  exact bodyPost_ret (v := .tuple #[.agg #[.int .i64 0, .int .i64 0, .int .i64 0], .int .i64 0, .int .i64 2]) (by simp [results, Tryd.results19, go_sem]) rfl ⟨rfl, (Below.refl _ _).alloc (Nat.le_refl _) _⟩
theorem decode_op (s : ByteArray) (k : Nat) (hlt : k < s.size) (hk : Hid (kn (s[k].toNat : Int) = false)) (w : World) :
    Calls Tryd.prog 19 #[.string s, .int .i64 k] w (Got (badR 6) w) := by
  have hb0 := build_none
  have ck := known_op (s[k].toNat : Int)
  rw [hk.out] at ck
  have CK := Lib.hid ck
  have e1 : (k == s.size) = false := by rw [beq_eq_false_iff_ne]; omega
  have e2 : ((k : Int) == (s.size : Int)) = false := by rw [beq_eq_false_iff_ne]; omega
  have hw := wrap_byte s[k]
  clear ck
  go_enter Tryd.func19, Tryd.ntmps19
  go_wp2_with (go_at_call 26; refine (CK.out _).mono ?_; rintro e w' ⟨rfl, rfl⟩)
  exact bodyPost_ret (v := .tuple #[.agg #[.int .i64 0, .int .i64 0, .int .i64 0], .int .i64 0, .int .i64 6]) (by simp [results, Tryd.results19, go_sem]) rfl ⟨rfl, (Below.refl _ _).alloc (Nat.le_refl _) _⟩
/-- What stands behind the call of withNumbers. -/
theorem decode_num (s : ByteArray) (k : Nat) (hs : s.size ≤ 1000000) (hlt : k < s.size) (hk : Hid (kn (s[k].toNat : Int) = true)) (o a b t E : Int) (hr : Hid (wn s.data.toList (s[k].toNat : Int) ((k : Int) + 1) = ((o, a, b), t, E))) (he : (E != 0) = true) (w : World) :
    Calls Tryd.prog 19 #[.string s, .int .i64 k] w (Got (badR E) w) := by
  have hb0 := build_none
  have ck := known_op (s[k].toNat : Int)
  rw [hk.out] at ck
  have CK := Lib.hid ck
  have cw := fun W => with_any s (s[k].toNat : Int) ((k : Int) + 1) hs (kn_iff.1 hk.out) W
  rw [hr.out] at cw
  have CW := Lib.hid cw
  have e1 : (k == s.size) = false := by rw [beq_eq_false_iff_ne]; omega
  have e2 : ((k : Int) == (s.size : Int)) = false := by rw [beq_eq_false_iff_ne]; omega
  have hw := wrap_byte s[k]
  clear ck cw
  go_enter Tryd.func19, Tryd.ntmps19
  go_wp2_with (first
    | (go_at_call 26; refine (CK.out _).mono ?_; rintro e w' ⟨rfl, rfl⟩)
    | (go_at_call 32; refine (CW.out _).mono ?_; rintro e w1 ⟨rfl, hb⟩; obtain ⟨hc, hf⟩ := bcell hb; have hz := hb.size; simp at hz; have hlt1 : w.heap.size < w1.heap.size := by omega))
  refine bodyPost_ret (v := .tuple #[.agg #[.int .i64 0, .int .i64 0, .int .i64 0], .int .i64 0, .int .i64 E]) (by simp [results, Tryd.results19, go_sem, hc, hlt1]) rfl ⟨rfl, ?_⟩
  have G1 : Below w.heap.size w w1 := ((Below.refl _ _).alloc (Nat.le_refl _) _).trans (hb.mono (by simp))
  exact (((G1.setCell (Nat.le_refl _) _).setCell (Nat.le_refl _) _).setCell (Nat.le_refl _) _).alloc (by simp; omega) _
theorem decode_bad (s : ByteArray) (k : Nat) (hs : s.size ≤ 1000000) (hlt : k < s.size) (hk : Hid (kn (s[k].toNat : Int) = true)) (o a b t : Int) (hr : Hid (wn s.data.toList (s[k].toNat : Int) ((k : Int) + 1) = ((o, a, b), t, 0))) (hg : Hid (right (o, a, b) = false)) (w : World) (hn : Nms w) :
    Calls Tryd.prog 19 #[.string s, .int .i64 k] w (Got (badR 6) w) := by
  have hb0 := build_none
  have ck := known_op (s[k].toNat : Int)
  rw [hk.out] at ck
  have CK := Lib.hid ck
  have cw := fun W => with_any s (s[k].toNat : Int) ((k : Int) + 1) hs (kn_iff.1 hk.out) W
  rw [hr.out] at cw
  have CW := Lib.hid cw
  have cr := fun W h => right_any o a b W h
  rw [hg.out] at cr
  have CR := Lib.hid cr
  have e1 : (k == s.size) = false := by rw [beq_eq_false_iff_ne]; omega
  have e2 : ((k : Int) == (s.size : Int)) = false := by rw [beq_eq_false_iff_ne]; omega
  have hw := wrap_byte s[k]
  have HN := Lib.hid hn
  clear ck cw cr hn
  go_enter Tryd.func19, Tryd.ntmps19
  go_wp2_with (first
    | (go_at_call 26; refine (CK.out _).mono ?_; rintro e w' ⟨rfl, rfl⟩)
    | (go_at_call 32; refine (CW.out _).mono ?_; rintro e w1 ⟨rfl, hb⟩; obtain ⟨hc, hf⟩ := bcell hb; have hz := hb.size; simp at hz; have hlt1 : w.heap.size < w1.heap.size := by omega)
    | fail)
  have G1 : Below w.heap.size w w1 := ((Below.refl _ _).alloc (Nat.le_refl _) _).trans (hb.mono (by simp))
  have G2 := G1.alloc (by omega : w.heap.size ≤ w1.heap.size) (.cells #[.int .i64 o, .int .i64 a, .int .i64 b] 23)
  refine (CR.out _ (HN.out.below G2)).mono ?_
  rintro e w2 ⟨rfl, hb2⟩
  obtain ⟨hc2, hf2⟩ := bcell hb2
  have hz2 := hb2.size
  simp at hz2
  have hlt2 : w.heap.size < w2.heap.size := by omega
  have hlt3 : w.heap.size < w1.heap.size + 1 := by omega
  have d0 : w2.cell? ⟨w.heap.size, 0, none⟩ = some (.int .i64 0) := by rw [hc2 _ _ (by simp; omega), World.cell?_alloc_lt _ _ _ hlt1, hc _ _ (by simp)]; simp
  have d1 : w2.cell? ⟨w.heap.size, 1, none⟩ = some (.int .i64 0) := by rw [hc2 _ _ (by simp; omega), World.cell?_alloc_lt _ _ _ hlt1, hc _ _ (by simp)]; simp
  have d2 : w2.cell? ⟨w.heap.size, 2, none⟩ = some (.int .i64 0) := by rw [hc2 _ _ (by simp; omega), World.cell?_alloc_lt _ _ _ hlt1, hc _ _ (by simp)]; simp
  have G3 := G2.trans (hb2.mono (by simp; omega))
  go_wp2
  exact bodyPost_ret (v := .tuple #[.agg #[.int .i64 0, .int .i64 0, .int .i64 0], .int .i64 0, .int .i64 6]) (by simp [results, Tryd.results19, go_sem, d0, d1, d2]) rfl ⟨rfl, ((G3.setCell (Nat.le_refl _) _).setCell (Nat.le_refl _) _).setCell (Nat.le_refl _) _⟩
theorem decode_good (s : ByteArray) (k : Nat) (hs : s.size ≤ 1000000) (hlt : k < s.size) (hk : Hid (kn (s[k].toNat : Int) = true)) (o a b t : Int) (hr : Hid (wn s.data.toList (s[k].toNat : Int) ((k : Int) + 1) = ((o, a, b), t, 0))) (hg : Hid (right (o, a, b) = true)) (w : World) (hn : Nms w) :
    Calls Tryd.prog 19 #[.string s, .int .i64 k] w (Got ((o, a, b), t, 0) w) := by
  have ck := known_op (s[k].toNat : Int)
  rw [hk.out] at ck
  have CK := Lib.hid ck
  have cw := fun W => with_any s (s[k].toNat : Int) ((k : Int) + 1) hs (kn_iff.1 hk.out) W
  rw [hr.out] at cw
  have CW := Lib.hid cw
  have cr := fun W h => right_any o a b W h
  rw [hg.out] at cr
  have CR := Lib.hid cr
  have e1 : (k == s.size) = false := by rw [beq_eq_false_iff_ne]; omega
  have e2 : ((k : Int) == (s.size : Int)) = false := by rw [beq_eq_false_iff_ne]; omega
  have hw := wrap_byte s[k]
  have HN := Lib.hid hn
  clear ck cw cr hn
  go_enter Tryd.func19, Tryd.ntmps19
  go_wp2_with (first
    | (go_at_call 26; refine (CK.out _).mono ?_; rintro e w' ⟨rfl, rfl⟩)
    | (go_at_call 32; refine (CW.out _).mono ?_; rintro e w1 ⟨rfl, hb⟩; obtain ⟨hc, hf⟩ := bcell hb; have hz := hb.size; simp at hz; have hlt1 : w.heap.size < w1.heap.size := by omega)
    | fail)
  have G1 : Below w.heap.size w w1 := ((Below.refl _ _).alloc (Nat.le_refl _) _).trans (hb.mono (by simp))
  have G2 := G1.alloc (by omega : w.heap.size ≤ w1.heap.size) (.cells #[.int .i64 o, .int .i64 a, .int .i64 b] 23)
  refine (CR.out _ (HN.out.below G2)).mono ?_
  rintro e w2 ⟨rfl, hb2⟩
  obtain ⟨hc2, hf2⟩ := bcell hb2
  have hz2 := hb2.size
  simp at hz2
  have hlt2 : w.heap.size < w2.heap.size := by omega
  have hlt3 : w.heap.size < w1.heap.size + 1 := by omega
  have d0 : w2.cell? ⟨w.heap.size, 0, none⟩ = some (.int .i64 0) := by rw [hc2 _ _ (by simp; omega), World.cell?_alloc_lt _ _ _ hlt1, hc _ _ (by simp)]; simp
  have d1 : w2.cell? ⟨w.heap.size, 1, none⟩ = some (.int .i64 0) := by rw [hc2 _ _ (by simp; omega), World.cell?_alloc_lt _ _ _ hlt1, hc _ _ (by simp)]; simp
  have d2 : w2.cell? ⟨w.heap.size, 2, none⟩ = some (.int .i64 0) := by rw [hc2 _ _ (by simp; omega), World.cell?_alloc_lt _ _ _ hlt1, hc _ _ (by simp)]; simp
  have f0 : w2.cell? ⟨w1.heap.size, 0, none⟩ = some (.int .i64 o) := by rw [hc2 _ _ (by simp)]; simp
  have f1 : w2.cell? ⟨w1.heap.size, 1, none⟩ = some (.int .i64 a) := by rw [hc2 _ _ (by simp)]; simp
  have f2 : w2.cell? ⟨w1.heap.size, 2, none⟩ = some (.int .i64 b) := by rw [hc2 _ _ (by simp)]; simp
  have G3 := G2.trans (hb2.mono (by simp; omega))
  go_wp2
  exact bodyPost_ret (v := .tuple #[.agg #[.int .i64 o, .int .i64 a, .int .i64 b], .int .i64 t, .int .i64 0]) (by simp [results, Tryd.results19, go_sem, d0, d1, d2]) rfl ⟨rfl, ((G3.setCell (Nat.le_refl _) _).setCell (Nat.le_refl _) _).setCell (Nat.le_refl _) _⟩

theorem decode_any (s : ByteArray) (p : Int) (hs : s.size ≤ 1000000) (w : World) (hn : Nms w) :
    Calls Tryd.prog 19 #[.string s, .int .i64 p] w (Got (dec s.data.toList p) w) := by
  have hsz : s.data.toList.length = s.size := by simp
  by_cases h0 : p < 0 ∨ (s.size : Int) < p
  · rw [dec_out (by omega)]; exact decode_out s p hs h0 w
  obtain ⟨k, rfl⟩ : ∃ k : Nat, p = k := ⟨p.toNat, by omega⟩
  by_cases h2 : k = s.size
  · subst h2; rw [dec_end (by omega)]; exact decode_end s w
  have hlt : k < s.size := by omega
  have hop := opAt_byte s k hlt
  cases hkn : kn (s[k].toNat : Int)
  · rw [dec_op (by omega) (by omega) (by rw [hop]; exact hkn)]; exact decode_op s k hlt hkn w
  have hnum := dec_num (l := s.data.toList) (p := k) (by omega) (by omega) (by rw [hop]; exact hkn)
  have hbad := dec_bad (l := s.data.toList) (p := k) (by omega) (by omega) (by rw [hop]; exact hkn)
  have hgood := dec_good (l := s.data.toList) (p := k) (by omega) (by omega) (by rw [hop]; exact hkn)
  rw [hop] at hnum hbad hgood
  obtain ⟨⟨⟨o, a, b⟩, t, E⟩, hR⟩ : ∃ R, wn s.data.toList (s[k].toNat : Int) ((k : Int) + 1) = R := ⟨_, rfl⟩
  rw [hR] at hnum hbad hgood
  by_cases he : E = 0
  · subst he
    cases hr : right (o, a, b)
    · rw [hbad rfl hr]; exact decode_bad s k hs hlt hkn o a b t hR hr w hn
    · rw [hgood rfl hr]; exact decode_good s k hs hlt hkn o a b t hR hr w hn
  · rw [hnum he]; exact decode_num s k hs hlt hkn o a b t E hR (by simpa using he) w
end Go.Proofs.YtmahpmoaicjcjaaDoor
