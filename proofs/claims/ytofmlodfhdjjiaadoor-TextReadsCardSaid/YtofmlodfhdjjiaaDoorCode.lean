/- What is proved here: the contract of op.Code. Conditions: the numbers fit 64 bits; the tables of names hold what their initialisers lay ('Nms'). -/
import Derived.Test.YtofmlodfhdjjiaaDoorRowI
namespace Go.Proofs.YtofmlodfhdjjiaaDoor
open Go.ChangeShapes Go.WideShapes Go.RowKit

theorem new_block (w : World) (o : Obj) : (w.alloc o).heap[w.heap.size]? = some o := by unfold World.alloc; exact Array.getElem?_push_size
theorem builder_below {B b : Nat} {xs : List Value} {w w' : World} (h : Lib.IsBuilder 46 5 B b xs w) (hb : Below w.heap.size w w') : Lib.IsBuilder 46 5 B b xs w' := by
  have go : ∀ p, Lib.BuilderAt 46 5 B b p xs w → Lib.BuilderAt 46 5 B b p xs w' := by
    intro p h
    have hlt := h.lt
    obtain ⟨hB, v, hbk, hown, hne⟩ := h
    refine ⟨hB, v, (hb.block b hlt).trans hbk, ?_, hne⟩
    exact hown.kept (row := none) ⟨hb.os, hb.tape, hb.output, hb.size, fun i hi _ => hb.block i hi⟩ (by
      cases h : v.ownBlock with
      | none => exact Or.inl rfl
      | some _ => exact Or.inr (by simp))
  rcases h with h | h
  · exact Or.inl (go _ h)
  · exact Or.inr (go _ h)
theorem flat_succI {L : List (Int × Int × Int)} {k : Nat} {x : Int × Int × Int} (h : L[k]? = some x) : flatI (L.take (k + 1)) = flatI (L.take k) ++ encI x := by
  rw [List.take_add_one, h, flatI_append]; simp [flatI]
theorem allR_take {L : List (Int × Int × Int)} {k : Nat} {x : Int × Int × Int} (h : L[k]? = some x) (h1 : allR (L.take k) = true) (h2 : right x = true) : allR (L.take (k + 1)) = true := by
  rw [List.take_add_one, h, allR_append, h1]; simp [allR, h2]
theorem allR_not {L : List (Int × Int × Int)} {k : Nat} {x : Int × Int × Int} (h : L[k]? = some x) (h2 : right x = false) : allR L = false := by
  unfold allR
  rw [List.all_eq_false]
  exact ⟨x, List.mem_of_getElem? h, by simp [h2]⟩
theorem flat_lenI {L : List (Int × Int × Int)} (hf : AllFitI L) {k : Nat} (hk : k ≤ 200) : (flatI (L.take k)).length ≤ 4200 := by
  have := flatI_len (L := L.take k) (fun i hi => hf i (List.mem_of_mem_take hi))
  have h2 := List.length_take_le k L
  omega
theorem encI_some {i : Int × Int × Int} (h : right i = true) : (bs (encI i)).toList.isEmpty = false := by
  rw [Lib.toList_data, bs_data, encI_right h]; rfl

theorem code_long (a : Option Addr) (n c : Nat) (L : List (Int × Int × Int)) (w : World) (hr : RowI w a n L) (hn : 200 < n) :
    Calls Tryd.prog 20 #[.slice a n c] w fun e w' => e = .returned (.string (bs (cod L))) ∧ Below w.heap.size w w' := by
  rw [cod_long (by rw [← hr.1]; exact hn)]
  clear hr
  go_enter Tryd.func20, Tryd.ntmps20
  go_wp2
  go_ret
  exact ⟨rfl, Below.refl _ _⟩

set_option maxHeartbeats 2000000 in
set_option maxRecDepth 100000 in
theorem code_short (a : Option Addr) (n c : Nat) (L : List (Int × Int × Int)) (w : World) (hr : RowI w a n L) (hf : AllFitI L) (hn : n ≤ 200) (hN : Nms w) :
    Calls Tryd.prog 20 #[.slice a n c] w fun e w' => e = .returned (.string (bs (cod L))) ∧ Below w.heap.size w w' := by
  obtain ⟨R, hR⟩ : ∃ R, R = bs (cod L) := ⟨_, rfl⟩
  rw [← hR]
  have HR := Lib.hid hR
  have HF := Lib.hid hf
  have HL := Lib.hid hr.1
  have HN := Lib.hid hN
  clear hR hf hN
  go_enter Tryd.func20, Tryd.ntmps20
  go_wp2
  go_loopw [12] (fun i wr => ∃ k : Nat, k ≤ n ∧ i = .int .i64 k ∧ Hid (allR (L.take k) = true) ∧ Hid (Lib.IsBuilder 46 5 w.heap.size w.heap.size (Lib.byteCells (flatI (L.take k))) wr) ∧ Below w.heap.size w wr) (fun i _ => n - (intOf i).toNat)
  case atStart =>
    refine ⟨0, by omega, rfl, rfl, Or.inl ⟨Nat.le_refl _, .slice none 0 0, ?_, World.ownsRow_nil _ _ _ _, by simp [Value.ownBlock]⟩, (Below.refl _ _).alloc (Nat.le_refl _) _⟩
    exact new_block w _
  case round =>
    obtain ⟨k, hk, rfl, HA, HB, hbl⟩ := hrel
    by_cases hlt : k < n
    · obtain ⟨b1, o1, p1, p2, p3, rfl, hB1, hx, hc1, hc2, hc3⟩ := (hr.below hbl).at_ hlt
      have hbs := hbl.size
      have hfx : FitsI (p1, p2, p3) := HF.out _ (List.mem_of_getElem? hx)
      have G1 := hbl.alloc hbs (.cells #[.int .i64 p1, .int .i64 p2, .int .i64 p3] 24)
      have ce := encode_any p1 p2 p3 _ (HN.out.below G1) hfx
      cases hri : right (p1, p2, p3)
      · have HQ := Lib.hid (cod_wrong (allR_not hx hri))
        rw [encI_wrong hri] at ce
        have CE : Hid (Calls Tryd.prog 36 #[.agg #[.int .i64 p1, .int .i64 p2, .int .i64 p3]] (wr.alloc (.cells #[.int .i64 p1, .int .i64 p2, .int .i64 p3] 24)) fun e w' => e = .returned (.string ⟨#[]⟩) ∧ Below (wr.alloc (.cells #[.int .i64 p1, .int .i64 p2, .int .i64 p3] 24)).heap.size (wr.alloc (.cells #[.int .i64 p1, .int .i64 p2, .int .i64 p3] 24)) w') := ce
        clear ce hx hri
        go_wp2_with (go_at_call 36; refine CE.out.mono ?_; rintro e w2 ⟨rfl, hb2⟩)
        go_ret
        exact ⟨by rw [HR.out, HQ.out]; rfl, G1.trans (hb2.mono (by simp; omega))⟩
      · obtain ⟨S, hS⟩ : ∃ S, S = bs (encI (p1, p2, p3)) := ⟨_, rfl⟩
        rw [← hS] at ce
        have CE := Lib.hid ce
        have h1 := encI_some hri
        rw [← hS] at h1
        have h2 : ¬ S.toList = [] := by intro h; rw [h] at h1; cases h1
        have h3 : (S.toList == []) = false := by simpa using h2
        have HA2 := Lib.hid (allR_take hx HA.out hri)
        have HF2 := Lib.hid (flat_succI hx)
        have hSl : S.size ≤ 21 := by rw [hS, bs_size]; exact encI_len hfx
        have HS := Lib.hid hS
        have hlen := flat_lenI HF.out (k := k) (by omega)
        clear ce hx hri hS
        go_wp2_with (go_at_call 36; refine CE.out.mono ?_; rintro e w2 ⟨rfl, hb2⟩)
        have HB2 := builder_below (HB.out) ((Below.refl _ _).alloc (Nat.le_refl _) (.cells #[.int .i64 p1, .int .i64 p2, .int .i64 p3] 24))
        have HB3 := builder_below HB2 hb2
        have G2 := G1.trans (hb2.mono (by simp; omega))
        have hz := G2.size
        refine (write_any _ _ _ S _ HB3 (by rw [Lib.byteCells_length]; omega) hz).mono ?_
        rintro e w3 ⟨rfl, h4, hb3⟩
        clear HB HB2 HB3 CE
        go_wp2
        go_roundw
        case rel =>
          refine ⟨k + 1, by omega, by go_num, HA2, ?_, G2.trans hb3⟩
          refine Or.inr ?_
          rw [HF2.out, Lib.byteCells_append, ← bs_data (encI (p1, p2, p3)), ← HS.out]
          exact h4
        case measure => simp [intOf]; omega
    · have hkn : k = n := by omega
      have hz := hbl.size
      have HQ : Hid (cod L = flatI (L.take k)) := by
        show _ = _
        have e : L.take k = L := List.take_of_length_le (by rw [← HL.out]; omega)
        have h1 := HA.out
        rw [e] at h1 ⊢
        exact cod_right (by rw [← HL.out]; exact hn) h1
      clear hkn
      have CS := Lib.hid (Tryd.Builder_String_any _ _ _ wr HB.out hz)
      go_wp2_with (go_at_call 30; refine CS.out.mono ?_; rintro e w3 ⟨rfl, hb3⟩)
      go_ret
      exact ⟨by rw [HR.out, HQ.out]; rfl, hbl.trans hb3⟩
theorem code_any (a : Option Addr) (n c : Nat) (L : List (Int × Int × Int)) (w : World) (hr : RowI w a n L) (hf : AllFitI L) (hN : Nms w) :
    Calls Tryd.prog 20 #[.slice a n c] w fun e w' => e = .returned (.string (bs (cod L))) ∧ Below w.heap.size w w' := by
  rcases Nat.lt_or_ge 200 n with h | h
  · exact code_long a n c L w hr h
  · exact code_short a n c L w hr hf h hN
end Go.Proofs.YtofmlodfhdjjiaaDoor
