/- What is proved here: the walk of the law CrcOn. Condition: the table of half bytes holds what it is laid as. -/
import Derived.Test.YtdkhefloooadhaaDoorW2
import Derived.Test.YtdkhefloooadhaaDoorRef
import Derived.StillTailTactics
import Derived.RegionTactic
import Derived.ChangeAlike
import Derived.WalkLawsBesides
import Derived.Deep.AppendLies
import Derived.Deep.RegionLaw
namespace Go.Proofs.YtdkhefloooadhaaDoor
open Go.ChangeShapes Go.WideShapes Go.RowKit

/-- Bytes as cells. -/
def cs (l : List UInt8) : List Value := l.map fun b => .int .u8 b.toNat
theorem cs_append (a b : List UInt8) : cs (a ++ b) = cs a ++ cs b := by simp [cs]
theorem cs_length (a : List UInt8) : (cs a).length = a.length := by simp [cs]
theorem conv_nil (w : World) : (convert 32 9 (.slice none 0 0)).run Tryd.prog w = .ok (.string ⟨#[]⟩) w := by
  rw [run_convert_bytes_string w 32 9 5 none 0 0 Tryd.underlying32 Tryd.underlying5 Tryd.underlying9]; rfl
/-- string(b), where b is the call's own. -/
theorem own_string {w : World} {base m : Nat} {v : Value} {l : List UInt8} (h : w.ownsRow base 5 1 v m (cs l)) :
    (convert 32 9 v).run Tryd.prog w = .ok (.string (bs l)) w := by
  have hml : m = l.length := by have := h.1; rw [cs_length] at this; omega
  subst hml
  rcases h.2 with ⟨hv, h0⟩ | ⟨g, cap, _, hv, _⟩
  · have hl : l = [] := List.eq_nil_of_length_eq_zero h0
    subst hl hv
    exact conv_nil w
  · subst hv
    exact run_convert_bytes_back w 32 9 5 ⟨g, 0, none⟩ cap l Tryd.underlying32 Tryd.underlying5 Tryd.underlying9 (fun j hj => by
      have := h.cells (g := g) rfl j (.int .u8 (l[j].toNat : Int)) (by simp [cs, hj])
      exact this)
theorem over_step (s t : List UInt8) (k : Nat) (h1 : k < s.length) (h2 : k < t.length) : (over s t).take (k + 1) = (over s t).take k ++ [s[k] ^^^ t[k]] := by
  have hk : k < (over s t).length := by rw [over_length]; omega
  rw [List.take_succ_eq_append_getElem hk]
  have := over_get s t k h1 h2
  rw [List.getElem?_eq_getElem hk] at this
  rw [Option.some.inj this]
theorem xor_bytes (x y : UInt8) : bits .xor .u8 (x.toNat : Int) (y.toNat : Int) = ((x ^^^ y).toNat : Int) := by
  rw [u8_xor_nat _ _ x.toNat_lt y.toNat_lt, UInt8.toNat_xor]

theorem sm_ofNat (n : Nat) : sm (n : Int) = BitVec.ofNat 16 n := by unfold sm; exact BitVec.ofInt_natCast 16 n
theorem over_all (s t : List UInt8) (m : Nat) (h : m = min s.length t.length) : (over s t).take m = over s t := List.take_of_length_le (by rw [over_length]; omega)
theorem on_over (a b : Nat) (s t : List UInt8) (m : Nat) (h : m = min s.length t.length) :
    crc (sm ((a ^^^ b : Nat) : Int)) (over s t) = crc (sm (a : Int)) (s.take m) ^^^ crc (sm (b : Int)) (t.take m) := by
  rw [← crc_over _ _ _ _ (by simp; omega), over_take, over_all s t m h, sm_ofNat, sm_ofNat, sm_ofNat, ofNat_xor]
theorem still_of {f : FuncId} {args : Array Value} {w : World} {v : Value} (h : Calls Tryd.prog f args w fun e w' => e = .returned v ∧ w = w') : Calls Tryd.prog f args w fun e w'' => e = .returned v ∧ w'' = w :=
  h.mono fun _ _ ⟨h1, h2⟩ => ⟨h1, h2.symm⟩

set_option maxHeartbeats 1000000 in
set_option maxRecDepth 100000 in
theorem on_walk (s t : ByteArray) (a b : Nat) (hs : s.size ≤ maxLen) (ht : t.size ≤ maxLen) (ha : a < 65536) (hb : b < 65536) (w : World) (hn : Hal w) :
    Calls Tryd.prog 4 #[.string s, .string t, .agg #[.int .u16 a, .int .u16 b]] w fun e w' => e = .returned (.bool true) ∧ Below w.heap.size w w' := by
  replace hs : s.size ≤ 9223372036854775807 := hs
  replace ht : t.size ≤ 9223372036854775807 := ht
  have KN := Lib.hid known_any
  have G1 : ∀ o, Below w.heap.size w (w.alloc o) := fun o => (Below.refl _ _).alloc (Nat.le_refl _) _
  by_cases h1 : 500 < s.size
  · go_enter Tryd.func4, Tryd.ntmps4
    go_wp2_with (go_at_call 10; refine (KN.out _ (hn.below (G1 _))).mono ?_; rintro e w' ⟨rfl, hb⟩; replace hb := (G1 _).trans (hb.mono (G1 _).size))
    go_ret
    exact ⟨rfl, hb⟩
  by_cases h2 : 500 < t.size
  · go_enter Tryd.func4, Tryd.ntmps4
    go_wp2_with (go_at_call 10; refine (KN.out _ (hn.below (G1 _))).mono ?_; rintro e w' ⟨rfl, hb⟩; replace hb := (G1 _).trans (hb.mono (G1 _).size))
    go_ret
    exact ⟨rfl, hb⟩
  have h3 : s.size ≤ 500 := by omega
  have h4 : t.size ≤ 500 := by omega
  clear h1 h2 hs ht
  obtain ⟨m, hm⟩ : ∃ m : Nat, min (s.size : Int) (t.size : Int) = m := ⟨min s.size t.size, by omega⟩
  have hms : m ≤ s.size := by omega
  have hmt : m ≤ t.size := by omega
  have hm5 : m ≤ 500 := by omega
  have HM : Hid (m = min s.size t.size) := by show _ = _; omega
  obtain ⟨i0, hi, hz0, hz1, hz2⟩ := info_parts u8_info
  have G0 := G1 (.cells #[.int .u16 a, .int .u16 b] 31)
  go_enter Tryd.func4, Tryd.ntmps4
  go_wp2
  generalize w.alloc (.cells #[.int .u16 a, .int .u16 b] 31) = w1 at G0 ⊢
  clear G1
  go_loopw [10, 11] (fun v i wr => ∃ (k : Nat), k ≤ m ∧ i = .int .i64 k ∧ wr.ownsRow w1.heap.size 5 1 v k (cs ((over s.data.toList t.data.toList).take k)) ∧ Below w1.heap.size w1 wr)
    (fun _ i _ => m - (intOf i).toNat)
  case atStart => exact ⟨0, by omega, rfl, World.ownsRow_nil _ _ _ _, Below.refl _ _⟩
  case round =>
    obtain ⟨k, hk, rfl, hown, hbl⟩ := hrel
    by_cases hlt : k < m
    · have hks : k < s.size := by omega
      have hkt : k < t.size := by omega
      have c1 : (0 : Int) ≤ (k : Int) := by omega
      have c2 : (k : Int) < (s.size : Int) := by omega
      have c3 : (k : Int) < (t.size : Int) := by omega
      obtain ⟨z, hz⟩ : ∃ z, s[k] ^^^ t[k] = z := ⟨_, rfl⟩
      have hx : bits .xor .u8 (s[k].toNat : Int) (t[k].toNat : Int) = (z.toNat : Int) := by rw [xor_bytes, hz]
      have HO : Hid ((over s.data.toList t.data.toList).take (k + 1) = (over s.data.toList t.data.toList).take k ++ [z]) := by
        show _ = _
        rw [over_step _ _ k (by simpa using hks) (by simpa using hkt), ← hz]; rfl
      clear hz
      have hown2 : ((wr.alloc (.cells #[.int .u8 z.toNat] 5)).drew).ownsRow w1.heap.size 5 1 u10 k (cs ((over s.data.toList t.data.toList).take k)) := hown.alloc _
      have hnews : ∀ j u, ([.int .u8 z.toNat] : List Value)[j]? = some u → ((wr.alloc (.cells #[.int .u8 z.toNat] 5)).drew).cell? ((⟨wr.heap.size, 0, none⟩ : Addr).add j) = some u := by
        intro j u hj
        match j, hj with
        | 0, hj => simp at hj; subst hj; simp [Addr.add]
      have hone : ∀ u ∈ ([.int .u8 z.toNat] : List Value), u.oneCell' = true := by intro u hu; simp at hu; subst hu; rfl
      have hbs := hbl.size
      have hbase : w1.heap.size ≤ ((wr.alloc (.cells #[.int .u8 z.toNat] 5)).drew).heap.size := by simp; omega
      have h63 : k + 1 ≤ maxLen := by unfold maxLen; omega
      go_wp2_with fail
      go_region_law (refine step_append_lies _ rfl (.tmp 35) (.tmp 43) 32 rfl w1.heap.size 5 i0 (.int .u8 0) 1 1 Tryd.underlying32 hi hz0 hz1 hz2 rfl (by decide) u10 k (cs ((over s.data.toList t.data.toList).take k)) (by simp [Act.eval]) hown2 ⟨wr.heap.size, 0, none⟩ 1 1 [.int .u8 z.toNat] (by simp [Act.eval]) rfl hnews hone (by omega) h63 (by omega) hbase _ rfl ?_; intro g cap w2 hown3 hgrow hat hltg)
      all_goals
        have hb1 : Below w1.heap.size w1 w2 := ((hbl.alloc hbs _).drew).grown hgrow (by simp; omega) (fun g hg => (hown.lt g hg).1)
        have hown4 : w2.ownsRow w1.heap.size 5 1 (.slice (some ⟨g, 0, none⟩) (k + 1) cap) (k + 1) (cs ((over s.data.toList t.data.toList).take (k + 1))) := by
          rw [HO.out, cs_append]; exact hown3
        clear hown hown2 hown3 hnews hone hgrow hat hx HO hbl hbase
        go_wp2
        go_roundw
        case rel => exact ⟨k + 1, by omega, by go_num, hown4, hb1⟩
        case measure => simp [intOf]; omega
    · obtain rfl : k = m := by omega
      have hl1 : s.data.toList.length = s.size := by simp
      have hl2 : t.data.toList.length = t.size := by simp
      have hkm : k = min s.data.toList.length t.data.toList.length := by rw [hl1, hl2]; exact HM.out
      rw [over_all _ _ _ hkm] at hown
      have hcv : (convert 32 9 u10).run Tryd.prog wr.drew = .ok (.string (bs (over s.data.toList t.data.toList))) wr.drew := own_string (w := wr.drew) (base := w1.heap.size) (m := k) hown
      obtain ⟨X, hX⟩ : ∃ X, bs (over s.data.toList t.data.toList) = X := ⟨_, rfl⟩
      have hXl : X.data.toList = over s.data.toList t.data.toList := by rw [← hX, bs_data]
      have hXs : X.size ≤ 500 := by rw [Lib.size_eq, hXl, over_length]; omega
      rw [hX] at hcv
      obtain ⟨P1, hP1⟩ : ∃ P, s.extract 0 k = P := ⟨_, rfl⟩
      obtain ⟨P2, hP2⟩ : ∃ P, t.extract 0 k = P := ⟨_, rfl⟩
      have hP1l : P1.data.toList = s.data.toList.take k := by rw [← hP1, Lib.extract_data]; simp
      have hP2l : P2.data.toList = t.data.toList.take k := by rw [← hP2, Lib.extract_data]; simp
      have hP1s : P1.size ≤ 500 := by rw [Lib.size_eq, hP1l, List.length_take]; omega
      have hP2s : P2.size ≤ 500 := by rw [Lib.size_eq, hP2l, List.length_take]; omega
      obtain ⟨M, hM⟩ : ∃ M : Int, ((crc 0#16 s.data.toList).toNat : Int) = M := ⟨_, rfl⟩
      obtain ⟨N, hN⟩ : ∃ N : Int, ((crc (crc 0#16 s.data.toList) t.data.toList).toNat : Int) = N := ⟨_, rfl⟩
      obtain ⟨A, hA⟩ : ∃ A : Int, ((a ^^^ b : Nat) : Int) = A := ⟨_, rfl⟩
      obtain ⟨Y, hY⟩ : ∃ Y : Int, ((crc (sm A) (over s.data.toList t.data.toList)).toNat : Int) = Y := ⟨_, rfl⟩
      obtain ⟨Y1, hY1⟩ : ∃ Y : Int, ((crc (sm (a : Int)) (s.data.toList.take k)).toNat : Int) = Y := ⟨_, rfl⟩
      obtain ⟨Y2, hY2⟩ : ∃ Y : Int, ((crc (sm (b : Int)) (t.data.toList.take k)).toNat : Int) = Y := ⟨_, rfl⟩
      have hab : bits .xor .u16 (a : Int) (b : Int) = A := by rw [u16_xor_nat _ _ ha hb, hA]
      have hyy : bits .xor .i64 Y1 Y2 = Y := by
        rw [← hY1, ← hY2, xor_i64 _ _ (BitVec.isLt _) (BitVec.isLt _), ← hY, ← hA, on_over a b _ _ k hkm, BitVec.toNat_xor]
      have C1 := Lib.hid (of_at (s := s) (n := M) (by omega) hM)
      have C2 := Lib.hid (on_at (s := t) (m := M) (n := N) (by omega) (by rw [← hM, sm_nat, hN]))
      have C3 := Lib.hid (of_at (s := s ++ t) (n := N) (by simp; omega) (by rw [app_list, crc_append, hN]))
      have C4 := Lib.hid (on_at (s := X) (m := A) (n := Y) (by omega) (by rw [hXl, hY]))
      have C5 := Lib.hid (on_at (s := P1) (m := (a : Int)) (n := Y1) (by omega) (by rw [hP1l, hY1]))
      have C6 := Lib.hid (on_at (s := P2) (m := (b : Int)) (n := Y2) (by omega) (by rw [hP2l, hY2]))
      have hAb : (a ^^^ b) < 2 ^ 16 := Nat.xor_lt_two_pow (by omega) (by omega)
      have wA : IntKind.i64.wrap A = A := IntWalk.i64_in _ (by omega)
      have wa : IntKind.i64.wrap (a : Int) = a := IntWalk.i64_in _ (by omega)
      have wb : IntKind.i64.wrap (b : Int) = b := IntWalk.i64_in _ (by omega)
      have hcat : ¬ (9223372036854775807 < s.size + t.size) := by omega
      have c1 : (0 : Int) ≤ (k : Int) := by omega
      have c2 : (k : Int) ≤ (s.size : Int) := by omega
      have c3 : (k : Int) ≤ (t.size : Int) := by omega
      have G2 : Below w.heap.size w wr.drew := (G0.trans (hbl.mono G0.size)).drew
      have hn2 : Hal wr.drew := hn.below G2
      clear hAb hM hN hA hY hY1 hY2 hX hXl hP1l hP2l hl1 hl2 hkm HM hown hbl
      go_wp2_with fail
      go_still_tail 33, (by kernel_rfl)
      still_call (still_of (C1.out _ hn2))
      repeat still_step
      still_call (still_of (C2.out _ hn2))
      repeat still_step
      still_call (still_of (C3.out _ hn2))
      repeat still_step
      still_call (still_of (C4.out _ hn2))
      repeat still_step
      still_call (still_of (C5.out _ hn2))
      repeat still_step
      still_call (still_of (C6.out _ hn2))
      repeat still_step
      refine wpStill_nil ?_
      change wpList _ _ _ _ _ wr.drew
      clear hcv
      generalize wr.drew = w5 at hn2 G2 ⊢
      go_wp2_with fail
      refine (KN.out _ hn2).mono ?_; rintro e w6 ⟨rfl, hbk⟩
      go_wp2
      go_ret
      exact ⟨rfl, G2.trans (hbk.mono G2.size)⟩
end Go.Proofs.YtdkhefloooadhaaDoor
