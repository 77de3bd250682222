/- What is proved here: how a row of strings that a call owns reads, and the contract of the document's cut. Conditions: the text has at most a million bytes. -/
import Derived.Test.YtofmlodfhdjjiaaDoorPc
import Derived.Test.YtofmlodfhdjjiaaDoorIns
import Derived.Test.YtofmlodfhdjjiaaDoorOwn
namespace Go.Proofs.YtofmlodfhdjjiaaDoor
open Go.ChangeShapes Go.WideShapes Go.RowKit

/-- A slice of strings reads as a list of texts. -/
def RowS (w : World) (a : Option Addr) (n : Nat) (P : List (List UInt8)) : Prop :=
  n = P.length ∧ (0 < n → ∃ b off, a = some ⟨b, off, none⟩ ∧ b < w.heap.size ∧ ∀ i, i < n → w.cell? ⟨b, off + i, none⟩ = some (.string (bs (P.getD i []))))
theorem RowS.below {w w' : World} {a : Option Addr} {n : Nat} {P : List (List UInt8)} (h : RowS w a n P) (hb : Below w.heap.size w w') : RowS w' a n P := by
  refine ⟨h.1, fun hn => ?_⟩
  obtain ⟨b, off, rfl, hlt, hc⟩ := h.2 hn
  exact ⟨b, off, rfl, Nat.lt_of_lt_of_le hlt hb.size, fun i hi => (hb.cell (p := ⟨b, off + i, none⟩) hlt).trans (hc i hi)⟩
def cellsS (P : List (List UInt8)) : List Value := P.map fun p => .string (bs p)
theorem cellsS_snoc (P : List (List UInt8)) (p : List UInt8) : cellsS (P ++ [p]) = cellsS P ++ [.string (bs p)] := by simp [cellsS]
theorem RowS.own {w : World} {base : Nat} {v : Value} {m : Nat} {P : List (List UInt8)} (h : w.ownsRow base 9 1 v m (cellsS P)) : ∃ a c, v = .slice a m c ∧ RowS w a m P := by
  have hml : m = P.length := by have := h.1; simp only [cellsS, List.length_map] at this; omega
  subst hml
  have hl := h.lt
  have hc := fun g => h.cells (g := g)
  rcases h.2 with ⟨hv, h0⟩ | ⟨g, cap, _, hv, _⟩
  · subst hv
    rw [h0]
    exact ⟨none, 0, rfl, h0.symm, fun h => absurd h (by omega)⟩
  · subst hv
    refine ⟨_, _, rfl, rfl, fun _ => ⟨g, 0, rfl, (hl g rfl).2, fun i hi => ?_⟩⟩
    have hx : (cellsS P)[i]? = some (.string (bs (P.getD i []))) := by
      unfold cellsS
      rw [List.getElem?_map, List.getElem?_eq_getElem hi, List.getD_eq_getElem?_getD, List.getElem?_eq_getElem hi]; rfl
    have k1 := hc g rfl _ _ hx
    rw [Lib.add_plain] at k1
    exact k1
theorem str_info : (Tryd.prog.info? 9).map (fun i => (i.zero, i.size, i.bytes)) = some (some (.string ⟨#[]⟩), 1, 16) := by kernel_rfl
/-- What cut leaves. -/
def GotS (P : List (List UInt8)) (w : World) (e : Ending) (w' : World) : Prop := ∃ a n c, e = .returned (.slice a n c) ∧ RowS w' a n P ∧ Below w.heap.size w w'
theorem piece_take {l : List UInt8} {f k : Nat} (hk : k < l.length) (hf : f ≤ k) : (l.take (k + 1)).drop f = (l.take k).drop f ++ [l[k]] := by
  rw [List.take_add_one, List.getElem?_eq_getElem hk, List.drop_append_of_le_length (by simp; omega)]; rfl
theorem drop_at {l : List UInt8} {k : Nat} (hk : k < l.length) : l.drop k = l[k] :: l.drop (k + 1) := List.drop_eq_getElem_cons hk
theorem extract_bs (s : ByteArray) (f k : Nat) : s.extract f k = bs ((s.data.toList.take k).drop f) := by
  rw [← bs_of (s.extract f k), Lib.extract_data, List.drop_take]
theorem extract_end (s : ByteArray) (f : Nat) : s.extract f s.size = bs (s.data.toList.drop f) := by
  rw [← bs_of (s.extract f s.size), extract_list]

set_option maxHeartbeats 2000000 in
set_option maxRecDepth 100000 in
theorem cutR_any (s : ByteArray) (c : UInt8) (z : Int) (hz : z = c.toNat) (hs : s.size ≤ 1000000) (w : World) :
    Calls Tryd.prog 33 #[.string s, .int .u8 z] w (GotS (pcs c s.data.toList) w) := by
  obtain ⟨i0, hi, hz0, hz1, hz2⟩ := info_parts str_info
  obtain ⟨R, hR⟩ : ∃ R, R = pcs c s.data.toList := ⟨_, rfl⟩
  rw [← hR]
  have H0 : Hid (R = [] ++ pcsA c ((s.data.toList.take 0).drop 0) (s.data.toList.drop 0)) := by show _ = _; rw [hR]; rfl
  have HZ := Lib.hid hz
  clear hR hz
  go_enter Tryd.func33, Tryd.ntmps33
  go_wp2
  go_loopw [5, 6, 7] (fun v f i wr => ∃ (out : List (List UInt8)) (from' k : Nat), k ≤ s.size ∧ from' ≤ k ∧ out.length ≤ k ∧ i = .int .i64 k ∧ f = .int .i64 from' ∧ Hid (R = out ++ pcsA c ((s.data.toList.take k).drop from') (s.data.toList.drop k)) ∧ wr.ownsRow w.heap.size 9 1 v out.length (cellsS out) ∧ Below w.heap.size w wr)
    (fun _ _ i _ => s.size - (intOf i).toNat)
  case atStart => exact ⟨[], 0, 0, by omega, by omega, by simp, rfl, rfl, H0, World.ownsRow_nil _ _ _ _, Below.refl _ _⟩
  case round =>
    obtain ⟨out, f, k, hk, hf, hol, rfl, rfl, HS, hown, hbl⟩ := hrel
    clear H0
    have hbs := hbl.size
    obtain ⟨A, n, rfl, _⟩ := RowS.own hown
    by_cases hlt : k < s.size
    · have hdr := drop_at (l := s.data.toList) (k := k) (by simpa using hlt)
      have htk := piece_take (l := s.data.toList) (k := k) (f := f) (by simpa using hlt) hf
      rw [byte_list s k hlt] at hdr htk
      have HS' := HS.out
      rw [hdr, pcsA] at HS'
      by_cases hc : s[k] = c
      · rw [if_pos hc] at HS'
        have HS2 : Hid (R = (out ++ [(s.data.toList.take k).drop f]) ++ pcsA c ((s.data.toList.take (k + 1)).drop (k + 1)) (s.data.toList.drop (k + 1))) := by
          show _ = _
          have e : (s.data.toList.take (k + 1)).drop (k + 1) = [] := List.drop_eq_nil_of_le (by rw [List.length_take]; omega)
          rw [HS', e]; simp
        have e1 : ((s[k].toNat : Int) == z) = true := by rw [HZ.out, hc]; simp
        have e2 : decide ((s[k].toNat : Int) = z) = true := by rw [HZ.out, hc]; simp
        have e3 : (s[k].toNat : Int) = z := by rw [HZ.out, hc]
        clear HS' hdr htk HS hc
        go_wp2_with (at_builtin; refine wpList_append_own _ rfl _ _ 57 rfl w.heap.size 9 i0 (.string ⟨#[]⟩) 1 16 Tryd.underlying57 hi hz0 hz1 hz2 rfl (by decide) _ _ _ rfl (hown.alloc _) ⟨wr.heap.size, 0, none⟩ 1 1 [.string (s.extract f k)] rfl rfl ?c1 ?c2 ?c3 ?c4 ?c5 ?_)
        case c1 =>
          intro j u hj
          match j, hj with
          | 0, hj => simp at hj; subst hj; simp [Addr.add]
        case c2 => intro u hu; simp at hu; rw [hu]; rfl
        case c3 => unfold maxLen; omega
        case c4 => omega
        case c5 => simp; omega
        intro v' w3 hown' hgrow _
        have hb1 : Below w.heap.size w w3 := (hbl.alloc (by omega) _).grown hgrow (by simp; omega) (fun g hg => (hown.lt g hg).1)
        have hown2 : w3.ownsRow w.heap.size 9 1 v' (out ++ [(s.data.toList.take k).drop f]).length (cellsS (out ++ [(s.data.toList.take k).drop f])) := by
          rw [cellsS_snoc, List.length_append, ← extract_bs]; exact hown'
        clear hown' hgrow hbl hown
        go_wp2
        go_roundw
        case rel => exact ⟨out ++ [(s.data.toList.take k).drop f], k + 1, k + 1, by omega, by omega, by simp; omega, by go_num, by go_num, HS2, hown2, hb1⟩
        case measure => simp [intOf]; omega
      · rw [if_neg hc, ← htk] at HS'
        have HS2 := Lib.hid HS'
        have e0 : (s[k].toNat : Int) ≠ z := by rw [HZ.out]; intro e; exact hc (UInt8.toNat_inj.1 (by omega))
        have e1 : ((s[k].toNat : Int) == z) = false := by rw [beq_eq_false_iff_ne]; exact e0
        clear HS' hdr htk HS hc
        go_wp2
        go_roundw
        case rel => exact ⟨out, f, k + 1, by omega, by omega, by omega, by go_num, rfl, HS2, hown, hbl⟩
        case measure => simp [intOf]; omega
    · have HQ : Hid (R = out ++ [s.data.toList.drop f]) := by
        show _ = _
        have hks : s.data.toList.length ≤ k := by rw [← Lib.size_eq]; omega
        rw [HS.out, List.drop_eq_nil_of_le hks, List.take_of_length_le hks]; rfl
      clear HS
      go_wp2_with (at_builtin; refine wpList_append_own _ rfl _ _ 57 rfl w.heap.size 9 i0 (.string ⟨#[]⟩) 1 16 Tryd.underlying57 hi hz0 hz1 hz2 rfl (by decide) _ _ _ rfl (hown.alloc _) ⟨wr.heap.size, 0, none⟩ 1 1 [.string (s.extract f s.size)] rfl rfl ?c1 ?c2 ?c3 ?c4 ?c5 ?_)
      case c1 =>
        intro j u hj
        match j, hj with
        | 0, hj => simp at hj; subst hj; simp [Addr.add]
      case c2 => intro u hu; simp at hu; rw [hu]; rfl
      case c3 => unfold maxLen; omega
      case c4 => omega
      case c5 => simp; omega
      intro v' w3 hown' hgrow _
      have hb1 : Below w.heap.size w w3 := (hbl.alloc (by omega) _).grown hgrow (by simp; omega) (fun g hg => (hown.lt g hg).1)
      have hown2 : w3.ownsRow w.heap.size 9 1 v' (out ++ [s.data.toList.drop f]).length (cellsS (out ++ [s.data.toList.drop f])) := by
        rw [cellsS_snoc, List.length_append, ← extract_end]; exact hown'
      clear hown' hgrow hbl hown
      obtain ⟨A2, c2, rfl, hrow⟩ := RowS.own hown2
      go_wp2
      go_ret
      rw [HQ.out]
      exact ⟨_, _, _, rfl, hrow, hb1⟩
end Go.Proofs.YtofmlodfhdjjiaaDoor
