/- What is proved here: contracts of strings.Builder's copyCheck, WriteString and String at this program. Conditions: the builder is the call's own, and its bytes are few. how a slice of instructions reads as a list, and the contracts of slices.Equal, op.Same and the document's Same. Conditions: lists are not too long. the contract of op.Code. Conditions: the numbers fit 64 bits; the tables of names hold what their initialisers lay ('Nms'). how a row that a call owns reads as a list of instructions, and the contract of op.Read. Conditions: the string has at most a million bytes; the tables of names hold what their initialisers lay ('Nms'). -/
import Derived.Test.YtngehojibcmieaaGreatDoorQB2
set_option maxRecDepth 100000
set_option maxHeartbeats 8000000
section
namespace Go.Proofs.YtngehojibcmieaaGreatDoor.Kb
open Go.ChangeShapes Go.WideShapes Go.RowKit
theorem bld_size : (Tryz.prog.info? 106).map (·.size) = some 2 := by kernel_rfl
theorem check_used (b : Nat) (w : World) (h0 : w.cell? ⟨b, 0, none⟩ = some (.pointer (some ⟨b, 0, none⟩))) :
  Calls Tryz.prog 101 #[.pointer (some ⟨b, 0, none⟩)] w fun e w' => e = .returned (.tuple #[]) ∧ w' = w := by
 obtain ⟨j, hj, _⟩ := Option.map_eq_some_iff.1 bld_size
 go_enter Tryz.func101, Tryz.ntmps101
 go_wp2
 rw [Lib.run_neq_ptr_same w _ Tryz.underlying104 hj]
 go_wp2
 go_end0
 exact ⟨rfl, rfl⟩
theorem check_fresh (b : Nat) (w : World) (h0 : w.cell? ⟨b, 0, none⟩ = some (.pointer none)) (hsh : w.shape? b = some (106, 2)) (hfz : w.frozen? ⟨b, 0, none⟩ = false) :
  Calls Tryz.prog 101 #[.pointer (some ⟨b, 0, none⟩)] w fun e w' => e = .returned (.tuple #[]) ∧ w' = w.setCell ⟨b, 0, none⟩ (.pointer (some ⟨b, 0, none⟩)) := by
 obtain ⟨j, hj, hjs⟩ := Option.map_eq_some_iff.1 bld_size
 go_enter Tryz.func101, Tryz.ntmps101
 go_wp2
 rw [Lib.run_to_unsafe w ⟨b, 0, none⟩ Tryz.underlying104 Tryz.underlying201 hj (by rw [hjs]; decide) hsh (Nat.zero_lt_succ 1)]
 simp only [Result.andThen]
 rw [Oper.upon_value]
 go_wp2
 rw [run_callFunc_extern Tryz.func146 (by kernel_rfl) (by kernel_rfl) (by kernel_rfl) (e := Extern.AbiNoEscape.same) (by kernel_rfl)]
 rw [Lib.run_noEscape]
 simp only [Result.andThen]
 rw [Oper.upon_value]
 go_wp2
 rw [Lib.run_from_unsafe w ⟨b, 0, none⟩ Tryz.underlying201 Tryz.underlying104 hj hsh Tryz.Builder_Extra_169.liesBuilder]
 simp only [Result.andThen]
 rw [Oper.upon_value]
 go_wp2
 go_end0
 exact ⟨rfl, rfl⟩
theorem check_any (B b : Nat) (xs : List Value) (w : World) (h : Lib.IsBuilder 106 5 B b xs w) :
  Calls Tryz.prog 101 #[.pointer (some ⟨b, 0, none⟩)] w fun e w' => e = .returned (.tuple #[]) ∧ (Lib.BuilderAt 106 5 B b (.pointer (some ⟨b, 0, none⟩)) xs w' ∧ Below B w w') := by
 rcases h with h | h
 ·refine (check_fresh b w h.cell0 h.shape h.frozen0).mono ?_
  rintro e w' ⟨rfl, rfl⟩
  exact ⟨rfl, h.used _, (Below.refl B w).setCell (p := ⟨b, 0, none⟩) h.1 _⟩
 ·refine (check_used b w h.cell0).mono ?_
  rintro e w' ⟨rfl, rfl⟩
  exact ⟨rfl, h, Below.refl B _⟩
theorem write_any (B b : Nat) (xs : List Value) (s : ByteArray) (w : World) (h : Lib.IsBuilder 106 5 B b xs w) (hlen : xs.length + s.size ≤ 140737488355328) (hBw : B ≤ w.heap.size) :
  Calls Tryz.prog 53 #[.pointer (some ⟨b, 0, none⟩), .string s] w fun e w' => e = .returned (.tuple #[.int .i64 s.size, .nilIface]) ∧ (Lib.BuilderAt 106 5 B b (.pointer (some ⟨b, 0, none⟩)) (xs ++ Lib.strCells s) w' ∧ Below B w w') := by
 obtain ⟨i0, hi, hz0, hz1, hz2⟩ := info_parts u8_info
 go_enter Tryz.func53, Tryz.ntmps53
 go_wp2_with (go_at_call 101; refine (check_any B b xs _ h).mono ?_)
 rintro e w1 ⟨rfl, h1, hb1⟩
 obtain ⟨hB, v, hbk, hown, hne⟩ := h1
 have c0 : w1.cell? ⟨b, 0, none⟩ = some (.pointer (some ⟨b, 0, none⟩)) := by rw [Lib.cell_of_heap hbk]; rfl
 have c1 : w1.cell? ⟨b, 1, none⟩ = some v := by rw [Lib.cell_of_heap hbk]; rfl
 go_wp2_with (at_builtin; refine Lib.wpList_append_own_string _ rfl _ _ 85 9 rfl B 5 i0 Tryz.underlying85 Tryz.underlying9 hi hz0 hz1 hz2 _ _ _ rfl hown s rfl ?c3 ?c4 ?c5 ?_)
 case c3 => unfold maxLen; omega
 case c4 => omega
 case c5 => have := hb1.size; omega
 intro v' w2 hown' hgrow _
 have hlt : b < w1.heap.size := by
  rcases Nat.lt_or_ge b w1.heap.size with h' | h'
  ·exact h'
  ·simp [Array.getElem?_eq_none h'] at hbk
 have hb2 : w2.heap[b]? = some (.cells #[.pointer (some ⟨b, 0, none⟩), v] 106 (0, 0)) := by
  rw [hgrow.block b hlt (fun e => hne e.symm)]
  exact hbk
 have d0 : w2.cell? ⟨b, 0, none⟩ = some (.pointer (some ⟨b, 0, none⟩)) := by rw [Lib.cell_of_heap hb2]; rfl
 have d1 : w2.cell? ⟨b, 1, none⟩ = some v := by rw [Lib.cell_of_heap hb2]; rfl
 have f1 : w2.frozen? ⟨b, 1, none⟩ = false := Lib.frozen_of_heap hb2 1
 obtain ⟨ao, n', cap, rfl⟩ : ∃ ao n' cap, v' = .slice ao n' cap := by
  rcases hown'.2 with ⟨hv, _⟩ | ⟨g, cap, cur, hv, _⟩
  ·exact ⟨_, _, _, hv⟩
  ·exact ⟨_, _, _, hv⟩
 go_wp2
 go_ret2
 refine ⟨rfl, ?_, ?_⟩
 ·exact Lib.BuilderAt.put (T := 106) (e := 5) hB hb2 (bs' := xs ++ Lib.strCells s) (by simpa [Lib.strCells_length] using hown') (by decide)
 ·exact (hb1.grown hgrow (by have := hb1.size; omega) (fun k hk => (hown.lt k hk).1)).setCell (p := ⟨b, 1, none⟩) hB _
theorem equal_any (a b : Option Addr) (n m c d : Nat) (L M : List (Int × Int × Int)) (w : World) (ha : RowI w a n L) (hb : RowI w b m M) (hn : n ≤ 1000000) (hm : m ≤ 1000000) :
  Calls Tryz.prog 150 #[.slice a n c, .slice b m d] w fun e w' => e = .returned (.bool (decide (L = M))) ∧ Below w.heap.size w w' := by
 obtain ⟨R, hR⟩ : ∃ R, R = decide (L = M) := ⟨_, rfl⟩
 rw [← hR]
 have HR := Lib.hid hR
 clear hR
 by_cases hnm : n ≠ m
 ·have HQ := Lib.hid (row_len (L := L) (M := M) (by rw [← ha.1, ← hb.1]; exact hnm))
  have e1 : (n == m) = false := by rw [beq_eq_false_iff_ne]; exact hnm
  have e2 : ((n : Int) == (m : Int)) = false := by rw [beq_eq_false_iff_ne]; omega
  have e3 : (n != m) = true := by simpa using hnm
  have e4 : ((n : Int) != (m : Int)) = true := by simpa [bne] using e2
  clear ha hb hnm
  go_enter Tryz.func150, Tryz.ntmps150
  go_wp2
  go_ret
  exact ⟨by rw [HR.out, HQ.out]; rfl, Below.refl _ _⟩
 obtain rfl : n = m := by omega
 clear hnm
 have HL := Lib.hid ha.1
 have HM := Lib.hid hb.1
 go_enter Tryz.func150, Tryz.ntmps150
 go_wp2
 go_loopw [13] (fun i wr => ∃ k : Nat, k ≤ n ∧ i = .int .i64 k ∧ Hid (L.take k = M.take k) ∧ Below w.heap.size w wr) (fun i _ => n - (intOf i).toNat)
 case atStart => exact ⟨0, by omega, rfl, rfl, Below.refl _ _⟩
 case round =>
  obtain ⟨k, hk, rfl, HT, hbl⟩ := hrel
  by_cases hlt : k < n
  ·obtain ⟨b1, o1, p1, p2, p3, rfl, hB1, hx, hc1, hc2, hc3⟩ := (ha.below hbl).at_ hlt
   obtain ⟨b2, o2, q1, q2, q3, rfl, hB2, hy, hd1, hd2, hd3⟩ := (hb.below hbl).at_ hlt
   have HX := Lib.hid hx
   have HY := Lib.hid hy
   clear hx hy
   by_cases g1 : p1 = q1
   ·subst g1
    by_cases g2 : p2 = q2
    ·subst g2
     by_cases g3 : p3 = q3
     ·subst g3
      have HT2 := Lib.hid (take_same HX.out HY.out HT.out)
      clear HX HY HT
      go_wp2
      go_quiet (fail)
      go_wp2
      go_roundw
      case rel => exact ⟨k + 1, by omega, by go_num, HT2, hbl.trans ⟨rfl, rfl, rfl, Nat.le_refl _, fun _ _ => rfl⟩⟩
      case measure => simp [intOf]; omega
     ·have HQ := Lib.hid (row_ne HX.out HY.out (by simp [g3]))
      have e1 : (p3 == q3) = false := by rw [beq_eq_false_iff_ne]; exact g3
      clear HX HY HT g3
      go_wp2
      go_quiet (fail)
      go_wp2
      go_ret
      exact ⟨by rw [HR.out, HQ.out]; rfl, hbl.trans ⟨rfl, rfl, rfl, Nat.le_refl _, fun _ _ => rfl⟩⟩
    ·have HQ := Lib.hid (row_ne HX.out HY.out (by simp [g2]))
     have e1 : (p2 == q2) = false := by rw [beq_eq_false_iff_ne]; exact g2
     clear HX HY HT g2
     go_wp2
     go_quiet (fail)
     go_wp2
     go_ret
     exact ⟨by rw [HR.out, HQ.out]; rfl, hbl.trans ⟨rfl, rfl, rfl, Nat.le_refl _, fun _ _ => rfl⟩⟩
   ·have HQ := Lib.hid (row_ne HX.out HY.out (by simp [g1]))
    have e1 : (p1 == q1) = false := by rw [beq_eq_false_iff_ne]; exact g1
    clear HX HY HT g1
    go_wp2
    go_quiet (fail)
    go_wp2
    go_ret
    exact ⟨by rw [HR.out, HQ.out]; rfl, hbl.trans ⟨rfl, rfl, rfl, Nat.le_refl _, fun _ _ => rfl⟩⟩
  ·have HQ : Hid (decide (L = M) = true) := by
    show _ = _
    rw [decide_eq_true_iff]
    have := HT.out
    rw [List.take_of_length_le (by rw [← HL.out]; omega), List.take_of_length_le (by rw [← HM.out]; omega)] at this
    exact this
   go_wp2
   go_ret
   exact ⟨by rw [HR.out, HQ.out]; rfl, hbl⟩
theorem sameIns_any (a b : Option Addr) (n m c d : Nat) (L M : List (Int × Int × Int)) (w : World) (ha : RowI w a n L) (hb : RowI w b m M) (hn : n ≤ 1000000) (hm : m ≤ 1000000) :
  Calls Tryz.prog 106 #[.slice a n c, .slice b m d] w fun e w' => e = .returned (.bool (decide (L = M))) ∧ Below w.heap.size w w' := by
 have c := equal_any a b n m c d L M w ha hb hn hm
 obtain ⟨R, hR⟩ : ∃ R, R = decide (L = M) := ⟨_, rfl⟩
 rw [← hR] at c ⊢
 have C := Lib.hid c
 clear c hR
 go_enter Tryz.func106, Tryz.ntmps106
 go_wp2_with (go_at_call 150; refine C.out.mono ?_; rintro e w' ⟨rfl, hg⟩)
 go_ret
 exact ⟨rfl, hg⟩
theorem new_block (w : World) (o : Obj) : (w.alloc o).heap[w.heap.size]? = some o := by unfold World.alloc; exact Array.getElem?_push_size
theorem builder_below {B b : Nat} {xs : List Value} {w w' : World} (h : Lib.IsBuilder 106 5 B b xs w) (hb : Below w.heap.size w w') : Lib.IsBuilder 106 5 B b xs w' := by
 have go : ∀ p, Lib.BuilderAt 106 5 B b p xs w → Lib.BuilderAt 106 5 B b p xs w' := by
  intro p h
  have hlt := h.lt
  obtain ⟨hB, v, hbk, hown, hne⟩ := h
  refine ⟨hB, v, (hb.block b hlt).trans hbk, ?_, hne⟩
  exact hown.kept (row := none) ⟨hb.os, hb.tape, hb.output, hb.size, fun i hi _ => hb.block i hi⟩ (by
   cases h : v.ownBlock with
   | none => exact Or.inl rfl
   | some _ => exact Or.inr (by simp))
 rcases h with h | h
 ·exact Or.inl (go _ h)
 ·exact Or.inr (go _ h)
theorem flat_succI {L : List (Int × Int × Int)} {k : Nat} {x : Int × Int × Int} (h : L[k]? = some x) : flatI (L.take (k + 1)) = flatI (L.take k) ++ encI x := by
 rw [List.take_add_one, h, flatI_append]; simp [flatI]
theorem allR_take {L : List (Int × Int × Int)} {k : Nat} {x : Int × Int × Int} (h : L[k]? = some x) (h1 : allR (L.take k) = true) (h2 : right x = true) : allR (L.take (k + 1)) = true := by
 rw [List.take_add_one, h, allR_append, h1]; simp [allR, h2]
theorem allR_not {L : List (Int × Int × Int)} {k : Nat} {x : Int × Int × Int} (h : L[k]? = some x) (h2 : right x = false) : allR L = false := by
 unfold allR
 rw [List.all_eq_false]
 exact ⟨x, List.mem_of_getElem? h, by simp [h2]⟩
theorem flat_lenI {L : List (Int × Int × Int)} (hf : AllFitI L) {k : Nat} (hk : k ≤ 200) : (flatI (L.take k)).length ≤ 4200 := by
 have := flatI_len (L := L.take k) (fun i hi => hf i (List.mem_of_mem_take hi))
 have h2 := List.length_take_le k L
 omega
theorem encI_some {i : Int × Int × Int} (h : right i = true) : (bs (encI i)).toList.isEmpty = false := by
 rw [Lib.toList_data, bs_data, encI_right h]; rfl
theorem code_long (a : Option Addr) (n c : Nat) (L : List (Int × Int × Int)) (w : World) (hr : RowI w a n L) (hn : 200 < n) :
  Calls Tryz.prog 104 #[.slice a n c] w fun e w' => e = .returned (.string (bs (cod L))) ∧ Below w.heap.size w w' := by
 rw [cod_long (by rw [← hr.1]; exact hn)]
 clear hr
 go_enter Tryz.func104, Tryz.ntmps104
 go_wp2
 go_ret
 exact ⟨rfl, Below.refl _ _⟩
theorem code_short (a : Option Addr) (n c : Nat) (L : List (Int × Int × Int)) (w : World) (hr : RowI w a n L) (hf : AllFitI L) (hn : n ≤ 200) (hN : Nms w) :
  Calls Tryz.prog 104 #[.slice a n c] w fun e w' => e = .returned (.string (bs (cod L))) ∧ Below w.heap.size w w' := by
 obtain ⟨R, hR⟩ : ∃ R, R = bs (cod L) := ⟨_, rfl⟩
 rw [← hR]
 have HR := Lib.hid hR
 have HF := Lib.hid hf
 have HL := Lib.hid hr.1
 have HN := Lib.hid hN
 clear hR hf hN
 go_enter Tryz.func104, Tryz.ntmps104
 go_wp2
 go_loopw [12] (fun i wr => ∃ k : Nat, k ≤ n ∧ i = .int .i64 k ∧ Hid (allR (L.take k) = true) ∧ Hid (Lib.IsBuilder 106 5 w.heap.size w.heap.size (Lib.byteCells (flatI (L.take k))) wr) ∧ Below w.heap.size w wr) (fun i _ => n - (intOf i).toNat)
 case atStart =>
  refine ⟨0, by omega, rfl, rfl, Or.inl ⟨Nat.le_refl _, .slice none 0 0, ?_, World.ownsRow_nil _ _ _ _, by simp [Value.ownBlock]⟩, (Below.refl _ _).alloc (Nat.le_refl _) _⟩
  exact new_block w _
 case round =>
  obtain ⟨k, hk, rfl, HA, HB, hbl⟩ := hrel
  by_cases hlt : k < n
  ·obtain ⟨b1, o1, p1, p2, p3, rfl, hB1, hx, hc1, hc2, hc3⟩ := (hr.below hbl).at_ hlt
   have hbs := hbl.size
   have hfx : FitsI (p1, p2, p3) := HF.out _ (List.mem_of_getElem? hx)
   have G1 := hbl.alloc hbs (.cells #[.int .i64 p1, .int .i64 p2, .int .i64 p3] 103)
   have ce := encode_any p1 p2 p3 _ (HN.out.below G1) hfx
   cases hri : right (p1, p2, p3)
   ·have HQ := Lib.hid (cod_wrong (allR_not hx hri))
    rw [encI_wrong hri] at ce
    have CE : Hid (Calls Tryz.prog 149 #[.agg #[.int .i64 p1, .int .i64 p2, .int .i64 p3]] (wr.alloc (.cells #[.int .i64 p1, .int .i64 p2, .int .i64 p3] 103)) fun e w' => e = .returned (.string ⟨#[]⟩) ∧ Below (wr.alloc (.cells #[.int .i64 p1, .int .i64 p2, .int .i64 p3] 103)).heap.size (wr.alloc (.cells #[.int .i64 p1, .int .i64 p2, .int .i64 p3] 103)) w') := ce
    clear ce hx hri
    go_wp2_with (go_at_call 149; refine CE.out.mono ?_; rintro e w2 ⟨rfl, hb2⟩)
    go_ret
    exact ⟨by rw [HR.out, HQ.out]; rfl, G1.trans (hb2.mono (by simp; omega))⟩
   ·obtain ⟨S, hS⟩ : ∃ S, S = bs (encI (p1, p2, p3)) := ⟨_, rfl⟩
    rw [← hS] at ce
    have CE := Lib.hid ce
    have h1 := encI_some hri
    rw [← hS] at h1
    have h2 : ¬ S.toList = [] := by intro h; rw [h] at h1; cases h1
    have h3 : (S.toList == []) = false := by simpa using h2
    have HA2 := Lib.hid (allR_take hx HA.out hri)
    have HF2 := Lib.hid (flat_succI hx)
    have hSl : S.size ≤ 21 := by rw [hS, bs_size]; exact encI_len hfx
    have HS := Lib.hid hS
    have hlen := flat_lenI HF.out (k := k) (by omega)
    clear ce hx hri hS
    go_wp2_with (go_at_call 149; refine CE.out.mono ?_; rintro e w2 ⟨rfl, hb2⟩)
    have HB2 := builder_below (HB.out) ((Below.refl _ _).alloc (Nat.le_refl _) (.cells #[.int .i64 p1, .int .i64 p2, .int .i64 p3] 103))
    have HB3 := builder_below HB2 hb2
    have G2 := G1.trans (hb2.mono (by simp; omega))
    have hz := G2.size
    refine (write_any _ _ _ S _ HB3 (by rw [Lib.byteCells_length]; omega) hz).mono ?_
    rintro e w3 ⟨rfl, h4, hb3⟩
    clear HB HB2 HB3 CE
    go_wp2
    go_roundw
    case rel =>
     refine ⟨k + 1, by omega, by go_num, HA2, ?_, G2.trans hb3⟩
     refine Or.inr ?_
     rw [HF2.out, Lib.byteCells_append, ← bs_data (encI (p1, p2, p3)), ← HS.out]
     exact h4
    case measure => simp [intOf]; omega
  ·have hkn : k = n := by omega
   have hz := hbl.size
   have HQ : Hid (cod L = flatI (L.take k)) := by
    show _ = _
    have e : L.take k = L := List.take_of_length_le (by rw [← HL.out]; omega)
    have h1 := HA.out
    rw [e] at h1 ⊢
    exact cod_right (by rw [← HL.out]; exact hn) h1
   clear hkn
   have CS := Lib.hid (Tryz.Builder_String_any _ _ _ wr HB.out hz)
   go_wp2_with (go_at_call 58; refine CS.out.mono ?_; rintro e w3 ⟨rfl, hb3⟩)
   go_ret
   exact ⟨by rw [HR.out, HQ.out]; rfl, hbl.trans hb3⟩
theorem code_any (a : Option Addr) (n c : Nat) (L : List (Int × Int × Int)) (w : World) (hr : RowI w a n L) (hf : AllFitI L) (hN : Nms w) :
  Calls Tryz.prog 104 #[.slice a n c] w fun e w' => e = .returned (.string (bs (cod L))) ∧ Below w.heap.size w w' := by
 rcases Nat.lt_or_ge 200 n with h | h
 ·exact code_long a n c L w hr h
 ·exact code_short a n c L w hr hf h hN
def GotR (r : List (Int × Int × Int) × Int) (w : World) (e : Ending) (w' : World) : Prop :=
 ∃ a n c, e = .returned (.tuple #[.slice a n c, .int .i64 r.2]) ∧ RowI w' a n r.1 ∧ Below w.heap.size w w' ∧ ∀ ad, a = some ad → w.heap.size ≤ ad.block
theorem read_any (s : ByteArray) (hs : s.size ≤ 1000000) (w : World) (hN : Nms w) :
  Calls Tryz.prog 173 #[.string s] w (GotR (rd s.data.toList) w) := by
 obtain ⟨i0, hi, hz0, hz1, hz2⟩ := info_parts ins_info
 obtain ⟨R, hR⟩ : ∃ R, R = rd s.data.toList := ⟨_, rfl⟩
 rw [← hR]
 have hlen : s.data.toList.length = s.size := by simp
 have HLen := Lib.hid hlen
 have HN := Lib.hid hN
 have H0 : Hid (R = rdF s.data.toList (202 - ([] : List (Int × Int × Int)).length) [] ((0 : Nat) : Int)) := hR
 clear hR hlen hN
 go_enter Tryz.func173, Tryz.ntmps173
 go_wp2
 go_loopw [4, 5] (fun v t wr => ∃ (out : List (Int × Int × Int)) (q : Nat), t = .int .i64 q ∧ q ≤ s.size ∧ out.length ≤ 200 ∧ Hid (R = rdF s.data.toList (202 - out.length) out q) ∧ wr.ownsRow w.heap.size 103 3 v out.length (cellsI out) ∧ Below w.heap.size w wr)
  (fun _ t _ => s.size - (intOf t).toNat)
 case atStart => exact ⟨[], 0, rfl, by omega, by simp, H0, World.ownsRow_nil _ _ _ _, Below.refl _ _⟩
 case round =>
  obtain ⟨out, q, rfl, hq, hol, HS, hown, hbl⟩ := hrel
  clear H0
  have hbs := hbl.size
  have hfuel : 202 - out.length = (201 - out.length) + 1 := by omega
  obtain ⟨A, n, c, rfl, rfl, hRow⟩ := own_form hown
  by_cases hlt : q < s.size
  ·by_cases h200 : out.length = 200
   ·have HQ : Hid (R = ([], 4)) := by
     show _ = _
     rw [HS.out, hfuel, rdF_big (by rw [HLen.out]; omega) h200]
    have e2 : (out.length == 200) = true := by simpa using h200
    have e3 : ((out.length : Int) == 200) = true := by rw [beq_iff_eq]; omega
    clear hfuel hRow h200
    go_wp2
    go_ret2
    rw [HQ.out]
    exact ⟨none, 0, 0, rfl, RowI.nil _ _, hbl, fun _ h => by cases h⟩
   ·have hol2 : out.length + 1 ≤ 200 := by omega
    have e2 : (out.length == 200) = false := by rw [beq_eq_false_iff_ne]; omega
    have e3 : ((out.length : Int) == 200) = false := by rw [beq_eq_false_iff_ne]; omega
    obtain ⟨D, hD⟩ : ∃ D, D = dec s.data.toList q := ⟨_, rfl⟩
    have cD := fun (W : World) (hW : W = wr) => (by rw [hW]; exact decode_any s q hs wr (HN.out.below hbl) : Calls Tryz.prog 213 #[.string s, .int .i64 q] W (Got (dec s.data.toList q) W))
    rw [← hD] at cD
    have hok := dec_ok (l := s.data.toList) (k := q)
    have herr := rdF_err (l := s.data.toList) (f := 201 - out.length) (out := out) (p := q) (by rw [HLen.out]; omega) h200
    have hgo := rdF_ok (l := s.data.toList) (f := 201 - out.length) (out := out) (p := q) (by rw [HLen.out]; omega) h200
    rw [← hD] at hok herr hgo
    obtain ⟨⟨o, a, b⟩, t, E⟩ := D
    simp only at hok herr hgo
    have CD := Lib.hid cD
    have HS' := HS.out
    rw [hfuel] at HS'
    clear cD hD HS hRow h200 hfuel
    by_cases he : E = 0
    ·subst he
     obtain ⟨t', ht, ht1, ht2, _⟩ := hok rfl
     subst ht
     rw [hgo rfl] at HS'
     have HS2 : Hid (R = rdF s.data.toList (202 - (out ++ [(o, a, b)]).length) (out ++ [(o, a, b)]) t') := by
      show _ = _
      rw [HS', show 202 - (out ++ [(o, a, b)]).length = 201 - out.length by simp]
     rw [HLen.out] at ht2
     clear HS' hok herr hgo
     go_wp2_with fail
     refine (CD.out _ rfl).mono ?_
     rintro e w2 ⟨rfl, hb2⟩
     have hown1 := own_below hown hb2
     replace hbl := hbl.trans (hb2.mono hbs)
     clear hown hb2 hbs
     have hbs := hbl.size
     go_wp2_with (at_builtin; refine wpList_append_own _ rfl _ _ 57 rfl w.heap.size 103 i0 (.agg #[.int .i64 0, .int .i64 0, .int .i64 0]) 3 24 Tryz.underlying57 hi hz0 hz1 hz2 rfl (by decide) _ _ _ rfl ((hown1.alloc _).alloc _) ⟨w2.heap.size + 1, 0, none⟩ 1 1 [.int .i64 o, .int .i64 a, .int .i64 b] rfl rfl ?c1 ?c2 ?c3 ?c4 ?c5 ?_)
     case c1 =>
      intro j u hj
      match j, hj with
      | 0, hj => simp at hj; subst hj; simp [Addr.add]
      | 1, hj => simp at hj; subst hj; simp [Addr.add]
      | 2, hj => simp at hj; subst hj; simp [Addr.add]
     case c2 => intro u hu; simp at hu; rcases hu with rfl | rfl | rfl <;> rfl
     case c3 => unfold maxLen; omega
     case c4 => omega
     case c5 => simp; omega
     intro v' w3 hown' hgrow _
     have hb1 : Below w.heap.size w w3 := ((hbl.alloc (by omega) _).alloc (by simp; omega) _).grown hgrow (by simp; omega) (fun g hg => (hown1.lt g hg).1)
     have hown2 : w3.ownsRow w.heap.size 103 3 v' (out ++ [(o, a, b)]).length (cellsI (out ++ [(o, a, b)])) := by
      rw [cellsI_snoc, List.length_append]; exact hown'
     clear hown' hgrow hbl hown1
     go_wp2
     go_roundw
     case rel => exact ⟨out ++ [(o, a, b)], t', rfl, ht2, by simp; omega, HS2, hown2, hb1⟩
     case measure => simp [intOf]; omega
    ·have HQ : Hid (R = ([], E)) := by
      show _ = _
      rw [HS', herr he]
     have hE1 : (E != 0) = true := by simpa using he
     clear HS' hok herr hgo he
     go_wp2_with fail
     refine (CD.out _ rfl).mono ?_
     rintro e w2 ⟨rfl, hb2⟩
     go_wp2
     go_ret2
     rw [HQ.out]
     exact ⟨none, 0, 0, rfl, RowI.nil _ _, (hbl.trans (hb2.mono hbs)).alloc (by have := hb2.size; omega) _, fun _ h => by cases h⟩
  ·have HQ : Hid (R = (out, 0)) := by
    show _ = _
    rw [HS.out, hfuel, rdF_end (by rw [HLen.out]; omega)]
   clear hfuel
   have hk : s.size ≤ q := by omega
   go_wp2
   go_ret2
   rw [HQ.out]
   exact ⟨_, _, _, rfl, hRow, hbl, fun ad e => by subst e; exact (hown.lt _ rfl).1⟩
end Go.Proofs.YtngehojibcmieaaGreatDoor.Kb
end
