/- What is proved here: contracts of the two functions of crc that lay a sum behind bytes, of crc.Open and of strings.Clone. Conditions: the table of half bytes holds what it is laid as; each string is no longer than its theorem says (a million bytes, for Seal and Open). -/
import Derived.Test.YtdkhefloooadhaaDoorCalls
import Derived.Test.YtdkhefloooadhaaDoorShelf
import Derived.Laws.MakeOwn
import Derived.Deep.QuietTactic
import Derived.BigQuiet
import Derived.IntWalk
namespace Go.Proofs.YtdkhefloooadhaaDoor
open Go.ChangeShapes Go.WideShapes Go.RowKit

/-- Bytes as a string. -/
def bs (l : List UInt8) : ByteArray := ⟨l.toArray⟩
theorem bs_data (l : List UInt8) : (bs l).data.toList = l := by simp [bs]
theorem bs_size (l : List UInt8) : (bs l).size = l.length := by simp [bs, ByteArray.size]
theorem bs_of (s : ByteArray) : bs s.data.toList = s := by simp [bs]
theorem app_list (a b : ByteArray) : (a ++ b).data.toList = a.data.toList ++ b.data.toList := by simp [ByteArray.data_append]

/-- string([]byte{x, y}) of a new block. -/
theorem conv_two (u v : Int) (x y : UInt8) (hu : u = x.toNat) (hv : v = y.toNat) : ∀ W : World,
    (convert 32 9 (.slice (some ⟨W.heap.size, 0, none⟩) 2 2)).run Tryd.prog (W.alloc (.cells #[.int .u8 u, .int .u8 v] 5)) = .ok (.string (bs [x, y])) (W.alloc (.cells #[.int .u8 u, .int .u8 v] 5)) := fun W =>
  run_convert_bytes_back (W.alloc (.cells #[.int .u8 u, .int .u8 v] 5)) 32 9 5 ⟨W.heap.size, 0, none⟩ 2 [x, y] Tryd.underlying32 Tryd.underlying5 Tryd.underlying9 (fun j hj => by
    match j, hj with
    | 0, _ => subst hu; simp [Addr.add]
    | 1, _ => subst hv; simp [Addr.add])

set_option maxRecDepth 100000 in
theorem clone_any (s : ByteArray) (hs : s.size ≤ 281474976710656) (w : World) :
    Calls Tryd.prog 20 #[.string s] w fun e w' => e = .returned (.string s) ∧ Below w.heap.size w w' := by
  have C := Lib.hid (fun W => Tryd.clone_lite s W hs)
  go_enter Tryd.func20, Tryd.ntmps20
  go_wp2_with (go_at_call 22; refine (C.out _).mono ?_; rintro e w' ⟨rfl, hb⟩)
  go_ret
  exact ⟨rfl, hb⟩

/-- A sum's two bytes. -/
def sb (l : List UInt8) : List UInt8 := [hiB (crc 0#16 l), loB (crc 0#16 l)]

set_option maxHeartbeats 1000000 in
set_option maxRecDepth 100000 in
theorem seal_any (s : ByteArray) (hs : s.size ≤ maxLen) (w : World) (hn : Hal w) :
    Calls Tryd.prog 19 #[.string s] w fun e w' => e = .returned (.string (bs (sb s.data.toList))) ∧ Below w.heap.size w w' := by
  have C := Lib.hid (of_any s hs w hn)
  obtain ⟨c, hc⟩ : ∃ c, crc 0#16 s.data.toList = c := ⟨_, rfl⟩
  unfold sb
  rw [hc] at C ⊢
  have hcv := conv_two ((c.toNat : Int) / 256) ((c.toNat : Int) % 256) (hiB c) (loB c) (by rw [hiB_nat]; omega) (by rw [loB_nat]; omega) w
  obtain ⟨B, hB⟩ : ∃ B, bs [hiB c, loB c] = B := ⟨_, rfl⟩
  rw [hB] at hcv ⊢
  clear hc hn hB
  go_enter Tryd.func19, Tryd.ntmps19
  go_wp2_with (go_at_call 13; refine C.out.mono ?_; rintro e w' ⟨rfl, rfl⟩)
  go_ret
  exact ⟨rfl, (Below.refl _ _).alloc (Nat.le_refl _) _⟩
theorem sb_size (l : List UInt8) : (bs (sb l)).size = 2 := by rw [bs_size]; rfl

set_option maxHeartbeats 1000000 in
set_option maxRecDepth 100000 in
theorem sealed_any (s : ByteArray) (hs : s.size ≤ 1000000) (w : World) (hn : Hal w) :
    Calls Tryd.prog 17 #[.string s] w fun e w' => e = .returned (.string (bs (s.data.toList ++ sb s.data.toList))) ∧ Below w.heap.size w w' := by
  have C := Lib.hid (seal_any s (by unfold maxLen; omega) w hn)
  have hz := sb_size s.data.toList
  have HE : Hid (bs (s.data.toList ++ sb s.data.toList) = s ++ bs (sb s.data.toList)) := by
    show _ = _
    rw [← bs_of (s ++ _), app_list, bs_data]
  obtain ⟨B, hB⟩ : ∃ B, bs (sb s.data.toList) = B := ⟨_, rfl⟩
  rw [hB] at C hz HE
  have hz2 : B.size ≤ 2 := by omega
  rw [HE.out]
  clear hB hz HE
  go_enter Tryd.func17, Tryd.ntmps17
  go_wp2_with (go_at_call 19; refine C.out.mono ?_; rintro e w' ⟨rfl, hb⟩)
  go_ret
  exact ⟨rfl, hb⟩

theorem below_drewN (B n : Nat) (w : World) : Below B w (w.drewN n) := ⟨rfl, rfl, rfl, Nat.le_refl _, fun _ _ => rfl⟩
theorem hal_drewN {w : World} (h : Hal w) (n : Nat) : Hal (w.drewN n) := h.below (below_drewN _ n w)
/-- What bytes open to. -/
def opn (l : List UInt8) : List UInt8 × Int :=
  if l.length < 2 then ([], 2) else if l.drop (l.length - 2) = sb (l.take (l.length - 2)) then (l.take (l.length - 2), 0) else ([], 5)

set_option maxHeartbeats 2000000 in
set_option maxRecDepth 100000 in
theorem open_any (s : ByteArray) (hs : s.size ≤ 1000000) (w : World) (hn : Hal w) :
    Calls Tryd.prog 11 #[.string s] w fun e w' => e = .returned (.tuple #[.string (bs (opn s.data.toList).1), .int .i64 (opn s.data.toList).2]) ∧ Below w.heap.size w w' := by
  have hsz : s.data.toList.length = s.size := by simp
  by_cases h2 : s.size < 2
  · have H : Hid (opn s.data.toList = ([], 2)) := by show _ = _; unfold opn; rw [if_pos (by omega)]
    rw [H.out]
    clear hsz H
    go_enter Tryd.func11, Tryd.ntmps11
    go_wp2
    go_ret2
    exact ⟨rfl, Below.refl _ _⟩
  obtain ⟨m, hm⟩ : ∃ m : Nat, s.size = m + 2 := ⟨s.size - 2, by omega⟩
  have hX : (s.extract 0 m).data.toList = s.data.toList.take m := by rw [Lib.extract_data]; simp
  have hY : (s.extract m (m + 2)).data.toList = s.data.toList.drop m := by
    rw [Lib.extract_data, List.take_of_length_le]
    rw [List.length_drop]; omega
  obtain ⟨X, hXe⟩ : ∃ X, s.extract 0 m = X := ⟨_, rfl⟩
  obtain ⟨Y, hYe⟩ : ∃ Y, s.extract m (m + 2) = Y := ⟨_, rfl⟩
  rw [hXe] at hX
  rw [hYe] at hY
  have hXs : X.size ≤ 1000000 := by rw [Lib.size_eq, hX, List.length_take]; omega
  have C := Lib.hid (fun W h => seal_any X (by unfold maxLen; omega) W h)
  have CC := Lib.hid (fun W => clone_any X (by omega) W)
  obtain ⟨B, hB⟩ : ∃ B, bs (sb X.data.toList) = B := ⟨_, rfl⟩
  rw [hB] at C
  have c1 : (0 : Int) ≤ (m : Int) := by omega
  have c2 : (m : Int) ≤ (m : Int) + 2 := by omega
  have c3 : ((m : Int) + 2).toNat = m + 2 := by omega
  by_cases hq : Y.data.toList = sb X.data.toList
  · have H : Hid (opn s.data.toList = (X.data.toList, 0)) := by
      show _ = _; unfold opn
      rw [if_neg (by omega), hsz, hm, show m + 2 - 2 = m by omega, ← hY, ← hX, if_pos hq]
    rw [H.out]
    have hq2 : (Y.toList == B.toList) = true := by rw [Lib.toList_data, Lib.toList_data, ← hB, bs_data, hq, beq_self_eq_true]
    have H2 : Hid (bs X.data.toList = X) := bs_of X
    clear hsz hq hB hX hY H
    go_enter Tryd.func11, Tryd.ntmps11
    go_wp2
    go_quiet (fail)
    go_wp2_with fail
    refine (C.out _ (hal_drewN hn _)).mono ?_; rintro e w1 ⟨rfl, hb⟩
    replace hb := (below_drewN w.heap.size _ w).trans hb
    go_wp2_with fail
    refine (CC.out _).mono ?_; rintro e w2 ⟨rfl, hb2⟩
    go_wp2
    go_ret2
    exact ⟨by rw [H2.out]; rfl, hb.trans (hb2.mono hb.size)⟩
  · have H : Hid (opn s.data.toList = ([], 5)) := by
      show _ = _; unfold opn
      rw [if_neg (by omega), hsz, hm, show m + 2 - 2 = m by omega, ← hY, ← hX, if_neg hq]
    rw [H.out]
    have hq2 : (Y.toList == B.toList) = false := by rw [Lib.toList_data, Lib.toList_data, ← hB, bs_data, beq_eq_false_iff_ne]; exact hq
    clear hsz hq hB hX hY H
    go_enter Tryd.func11, Tryd.ntmps11
    go_wp2
    go_quiet (fail)
    go_wp2_with fail
    refine (C.out _ (hal_drewN hn _)).mono ?_; rintro e w1 ⟨rfl, hb⟩
    replace hb := (below_drewN w.heap.size _ w).trans hb
    go_wp2
    go_ret2
    exact ⟨rfl, hb⟩
end Go.Proofs.YtdkhefloooadhaaDoor
