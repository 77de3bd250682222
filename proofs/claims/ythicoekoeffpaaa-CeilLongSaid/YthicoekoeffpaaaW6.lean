/- What is proved here: the walk of the law CeilLong. Conditions: the row is not too long. -/
import Derived.Test.YthicoekoeffpaaaTw
namespace Go.Proofs.Ythicoekoeffpaaa
open Go.ChangeShapes Go.WideShapes Go.RowKit Go.Maps

set_option maxHeartbeats 8000000 in
set_option maxRecDepth 100000 in
theorem long_walk (B : Int) (a : Option Addr) (n c : Nat) (L : List UsP) (w : World) (hr : RowU w a n L) (hn : n ≤ 140737488355328) :
    Calls Try.prog 8 #[.int .i64 B, .slice a n c] w fun e w' => e = .returned (.bool true) ∧ Below w.heap.size w w' := by
  obtain ⟨lt, hlt⟩ : ∃ r, litE L = r := ⟨_, rfl⟩
  have CL := Lib.hid (light_any a n c L w hr hn lt hlt)
  have CK := Lib.hid (fun W => known_any W)
  cases lt
  · go_enter Try.func8, Try.ntmps8
    go_wp2_with (first
      | (go_at_call 10; refine CL.out.mono ?_; rintro e w1 ⟨rfl, rfl⟩)
      | (go_at_call 11; refine (CK.out _).mono ?_; rintro e w2 ⟨rfl, hb2⟩))
    go_ret
    exact ⟨rfl, hb2⟩
  obtain ⟨r, hq⟩ : ∃ r, okL B L = r := ⟨_, rfl⟩
  have CR := Lib.hid (right_any B a n c L w hr hn r hq)
  cases r
  · go_enter Try.func8, Try.ntmps8
    go_wp2_with (first
      | (go_at_call 10; refine CL.out.mono ?_; rintro e w1 ⟨rfl, rfl⟩)
      | (go_at_call 12; refine CR.out.mono ?_; rintro e w2 ⟨rfl, hb2⟩)
      | (go_at_call 11; refine (CK.out _).mono ?_; rintro e w3 ⟨rfl, hb3⟩))
    go_ret
    exact ⟨rfl, keep_below hb2 hb3⟩
  have O := Lib.hid (okL_of hq)
  have LT := Lib.hid (lit_of hlt)
  have HL := Lib.hid hr.1
  have hn8 : n ≤ 8 := by rw [hr.1]; exact O.out.len
  have CW := Lib.hid (fun W (hb : Below w.heap.size w W) => waits_any B a n c L W (hr.below hb) hn _ (wL_yes hq))
  unfold GotN at CW
  have HQ := Lib.hid hq
  obtain ⟨i0, hi0, hz0, hz1, hz2⟩ := info_parts us_info
  obtain ⟨j0, hj0, jz0, jz1, jz2⟩ := info_parts int_info
  clear hq hlt
  go_enter Try.func8, Try.ntmps8
  go_wp2_with (first
    | (go_at_call 10; refine CL.out.mono ?_; rintro e w1 ⟨rfl, hw1⟩; have hw1 := hw1.symm; subst hw1)
    | (go_at_call 12; refine CR.out.mono ?_; rintro e w2 ⟨rfl, hb2⟩))
  have b2 := Lib.hid hb2
  clear hb2 CL CR
  go_loopw [5, 6, 7] (fun m v x wr => ∃ (ii : Nat) (M : Int) (VV : List UsV), ii ≤ n ∧ x = .int .i64 ii ∧ m = .int .i64 M ∧ Hid (0 ≤ M ∧ ∀ u ∈ L.take ii, ∀ x ∈ u.le, x ≤ M) ∧ Hid (Tw w2 wr v ii VV ((L.take ii).map twU))) (fun _ _ x _ => n - (intOf x).toNat)
  case atStart => exact ⟨0, 0, [], by omega, rfl, rfl, ⟨Int.le_refl _, fun u hu => by simp at hu⟩, Tw.nil w2⟩
  case round =>
    obtain ⟨ii, M, VV, hi, rfl, rfl, HM, HT⟩ := hrel
    by_cases hlt : ii < n
    · obtain ⟨b1, o1, u, xa, xn, xc, la, ln, lc, rfl, hB1, hx, ⟨hX, hXm⟩, ⟨hE, hEm⟩, f0, f1, f2⟩ := hr.item (Below.refl _ _) hlt
      have H0 := Lib.hid f0
      have H1 := Lib.hid f1
      have H2 := Lib.hid f2
      have HX := Lib.hid hX
      have HE := Lib.hid hE
      have HU := Lib.hid (O.out.all u (List.mem_of_getElem? hx))
      have HTK := Lib.hid (twL_at hx)
      have HTC := Lib.hid (take_cat hx)
      have hln : ln ≤ 50 := by rw [hE.1]; exact LT.out.le u (List.mem_of_getElem? hx)
      have HBi := Lib.hid (keep_below b2.out HT.out.bel)
      have i1 : (0 : Int) ≤ (ii : Int) := by omega
      have i2 : (ii : Int) < (n : Int) := by omega
      clear hx hX hE f0 f1 f2
      go_wp2_with fail
      generalize wr = Wi at *
      refine region_chain3 141 12 2 (fun t => ([11, 12] : List Nat).getD t 0) (fun i => ([29, 30, 31, 32, 33, 34, 35, 36, 37, 38, 39, 8, 141] : List Nat).getD i 0) (fun i => ([[], [], [0, 1], [2], [3], [], [], [5, 6], [7], [8], [4, 9], [], [11, 10]] : List (List Nat)).getD i []) (fun i v => ([(fun v : Value => v = .slice (some ⟨b1, o1, none⟩) n c), (fun v : Value => v = .int .i64 (ii : Int)), (fun v : Value => v = .pointer (some ⟨b1, o1 + ii * 3, none⟩)), (fun v : Value => v = .pointer (some ⟨b1, o1 + ii * 3, none⟩)), (fun v : Value => v = .int .i64 u.pr), (fun v : Value => v = .slice (some ⟨b1, o1, none⟩) n c), (fun v : Value => v = .int .i64 (ii : Int)), (fun v : Value => v = .pointer (some ⟨b1, o1 + ii * 3, none⟩)), (fun v : Value => v = .pointer (some ⟨b1, o1 + ii * 3 + 1, none⟩)), (fun v : Value => v = .slice xa xn xc), (fun v : Value => v = .agg #[.int .i64 u.pr, .slice xa xn xc, .slice none 0 0]), (fun _ : Value => True), (fun _ : Value => True)] : List (Value → Prop)).getD i (fun _ => True) v) (fun t v => ([(fun v : Value => v = .pointer (some ⟨Wi.heap.size, 0, none⟩)), (fun _ : Value => True)] : List (Value → Prop)).getD t (fun _ => True) v) (fun t v V => ([(fun _ V => Below Wi.heap.size Wi V ∧ V.heap.size = Wi.heap.size), (fun v V => (Below Wi.heap.size Wi V ∧ v = .pointer (some ⟨Wi.heap.size, 0, none⟩)) ∧ V.rowIs Wi.heap.size 37 3 (fun j => ([.int .i64 0, .slice none 0 0, .slice none 0 0] : List Value).getD j undef)), (fun _ V => Inn Wi V Wi.heap.size u.pr ⟨xa, xn, xc⟩ (.slice none 0 0) 0 [])] : List (Value → World → Prop)).getD t (fun _ _ => False) v V) (by kernel_rfl) rfl (fun i j hi hj => (by decide : ∀ i, i ≤ 12 → ∀ j, j ≤ 12 → (fun i => ([29, 30, 31, 32, 33, 34, 35, 36, 37, 38, 39, 8, 141] : List Nat).getD i 0) i = (fun i => ([29, 30, 31, 32, 33, 34, 35, 36, 37, 38, 39, 8, 141] : List Nat).getD i 0) j → i = j) i hi j hj) rfl (by decide) rfl (fun s t hs ht => (by decide : ∀ s, s < 2 → ∀ t, t < 2 → (fun t => ([11, 12] : List Nat).getD t 0) s = (fun t => ([11, 12] : List Nat).getD t 0) t → s = t) s hs t ht) (by decide) (fun t ht => (by decide : ∀ t, t < 1 → (fun t => ([11, 12] : List Nat).getD t 0) t ∈ (fun i => ([[], [], [0, 1], [2], [3], [], [], [5, 6], [7], [8], [4, 9], [], [11, 10]] : List (List Nat)).getD i []) ((fun t => ([11, 12] : List Nat).getD t 0) (t + 1))) t (by omega)) ?_ ?_ ?_ ?_ ⟨⟨rfl, rfl, rfl, Nat.le_refl _, fun _ _ => rfl⟩, rfl⟩ ?_
      · intro i o ho
        match i, ho with
        | 0, ho => obtain rfl := Option.some.inj ho; exact ⟨Or.inl ⟨rfl, by decide⟩, rfl, by decide, by decide⟩
        | 1, ho => obtain rfl := Option.some.inj ho; exact ⟨Or.inl ⟨rfl, by decide⟩, rfl, by decide, by decide⟩
        | 2, ho => obtain rfl := Option.some.inj ho; exact ⟨Or.inl ⟨rfl, by decide⟩, rfl, by decide, by decide⟩
        | 3, ho => obtain rfl := Option.some.inj ho; exact ⟨Or.inl ⟨rfl, by decide⟩, rfl, by decide, by decide⟩
        | 4, ho => obtain rfl := Option.some.inj ho; exact ⟨Or.inl ⟨rfl, by decide⟩, rfl, by decide, by decide⟩
        | 5, ho => obtain rfl := Option.some.inj ho; exact ⟨Or.inl ⟨rfl, by decide⟩, rfl, by decide, by decide⟩
        | 6, ho => obtain rfl := Option.some.inj ho; exact ⟨Or.inl ⟨rfl, by decide⟩, rfl, by decide, by decide⟩
        | 7, ho => obtain rfl := Option.some.inj ho; exact ⟨Or.inl ⟨rfl, by decide⟩, rfl, by decide, by decide⟩
        | 8, ho => obtain rfl := Option.some.inj ho; exact ⟨Or.inl ⟨rfl, by decide⟩, rfl, by decide, by decide⟩
        | 9, ho => obtain rfl := Option.some.inj ho; exact ⟨Or.inl ⟨rfl, by decide⟩, rfl, by decide, by decide⟩
        | 10, ho => obtain rfl := Option.some.inj ho; exact ⟨Or.inl ⟨rfl, by decide⟩, rfl, by decide, by decide⟩
        | 11, ho => obtain rfl := Option.some.inj ho; exact ⟨Or.inl ⟨rfl, by decide⟩, rfl, by decide, by decide⟩
        | 12, ho => obtain rfl := Option.some.inj ho; exact ⟨Or.inr ⟨rfl, rfl, fun _ _ _ h => h, fun _ => trivial⟩, rfl, by decide, by decide⟩
        | k + 13, ho => simp at ho
      · intro i hi
        match i, hi with
        | 0, _ => exact ⟨2, by decide, by decide, by decide⟩
        | 1, _ => exact ⟨2, by decide, by decide, by decide⟩
        | 2, _ => exact ⟨3, by decide, by decide, by decide⟩
        | 3, _ => exact ⟨4, by decide, by decide, by decide⟩
        | 4, _ => exact ⟨10, by decide, by decide, by decide⟩
        | 5, _ => exact ⟨7, by decide, by decide, by decide⟩
        | 6, _ => exact ⟨7, by decide, by decide, by decide⟩
        | 7, _ => exact ⟨8, by decide, by decide, by decide⟩
        | 8, _ => exact ⟨9, by decide, by decide, by decide⟩
        | 9, _ => exact ⟨10, by decide, by decide, by decide⟩
        | 10, _ => exact ⟨12, by decide, by decide, by decide⟩
        | 11, _ => exact ⟨12, by decide, by decide, by decide⟩
        | k + 12, hi => omega
      · intro i o hi hq ho a' V j v hj hSV hoth hd
        have hC : (fun V : World => Below Wi.heap.size Wi V) V := by
          match j, hj, hSV with
          | 0, _, h => exact h.1
          | 1, _, h => exact h.1.1
          | k + 2, hj, _ => omega
        clear hSV hj
        have oS1 : a'.eval (.tmp 1) = .slice (some ⟨b1, o1, none⟩) n c := hoth 1 (by decide)
        have oS7 : a'.eval (.tmp 7) = .int .i64 (ii : Int) := hoth 7 (by decide)
        clear hoth
        obtain ⟨ρ, hρ⟩ : ∃ ρ, ρ = a'.eval := ⟨_, rfl⟩
        have hc : ∀ v, ρ (.const v) = v := fun v => by rw [hρ]; rfl
        simp only [← hρ] at hd ⊢
        rw [← hρ] at oS1
        rw [← hρ] at oS7
        clear hρ
        match i, hi, hq, ho with
        | 0, _, _, ho =>
          obtain rfl := Option.some.inj ho
          clear hd hq
          exact ⟨.slice (some ⟨b1, o1, none⟩) n c, by simp only [execOp]; go_simp, rfl⟩
        | 1, _, _, ho =>
          obtain rfl := Option.some.inj ho
          clear hd hq
          exact ⟨.int .i64 (ii : Int), by simp only [execOp]; go_simp, rfl⟩
        | 2, _, _, ho =>
          obtain rfl := Option.some.inj ho
          have e0 : ρ (.tmp 29) = .slice (some ⟨b1, o1, none⟩) n c := hd 0 (by decide) (by decide)
          have e1 : ρ (.tmp 30) = .int .i64 (ii : Int) := hd 1 (by decide) (by decide)
          clear hd hq
          exact ⟨.pointer (some ⟨b1, o1 + ii * 3, none⟩), by simp only [execOp]; go_simp, rfl⟩
        | 3, _, _, ho =>
          obtain rfl := Option.some.inj ho
          have e2 : ρ (.tmp 31) = .pointer (some ⟨b1, o1 + ii * 3, none⟩) := hd 2 (by decide) (by decide)
          clear hd hq
          exact ⟨.pointer (some ⟨b1, o1 + ii * 3, none⟩), by simp only [execOp]; go_simp, rfl⟩
        | 4, _, _, ho =>
          obtain rfl := Option.some.inj ho
          have e3 : ρ (.tmp 32) = .pointer (some ⟨b1, o1 + ii * 3, none⟩) := hd 3 (by decide) (by decide)
          clear hd hq
          have c0 := keep_cell (keep_below HBi.out hC) H0.out
          exact ⟨.int .i64 u.pr, by simp only [execOp]; go_simp, rfl⟩
        | 5, _, _, ho =>
          obtain rfl := Option.some.inj ho
          clear hd hq
          exact ⟨.slice (some ⟨b1, o1, none⟩) n c, by simp only [execOp]; go_simp, rfl⟩
        | 6, _, _, ho =>
          obtain rfl := Option.some.inj ho
          clear hd hq
          exact ⟨.int .i64 (ii : Int), by simp only [execOp]; go_simp, rfl⟩
        | 7, _, _, ho =>
          obtain rfl := Option.some.inj ho
          have e5 : ρ (.tmp 34) = .slice (some ⟨b1, o1, none⟩) n c := hd 5 (by decide) (by decide)
          have e6 : ρ (.tmp 35) = .int .i64 (ii : Int) := hd 6 (by decide) (by decide)
          clear hd hq
          exact ⟨.pointer (some ⟨b1, o1 + ii * 3, none⟩), by simp only [execOp]; go_simp, rfl⟩
        | 8, _, _, ho =>
          obtain rfl := Option.some.inj ho
          have e7 : ρ (.tmp 36) = .pointer (some ⟨b1, o1 + ii * 3, none⟩) := hd 7 (by decide) (by decide)
          clear hd hq
          exact ⟨.pointer (some ⟨b1, o1 + ii * 3 + 1, none⟩), by simp only [execOp]; go_simp, rfl⟩
        | 9, _, _, ho =>
          obtain rfl := Option.some.inj ho
          have e8 : ρ (.tmp 37) = .pointer (some ⟨b1, o1 + ii * 3 + 1, none⟩) := hd 8 (by decide) (by decide)
          clear hd hq
          have c1 := keep_cell (keep_below HBi.out hC) H1.out
          exact ⟨.slice xa xn xc, by simp only [execOp]; go_simp, rfl⟩
        | 10, _, _, ho =>
          obtain rfl := Option.some.inj ho
          have e4 : ρ (.tmp 33) = .int .i64 u.pr := hd 4 (by decide) (by decide)
          have e9 : ρ (.tmp 38) = .slice xa xn xc := hd 9 (by decide) (by decide)
          clear hd hq
          exact ⟨.agg #[.int .i64 u.pr, .slice xa xn xc, .slice none 0 0], by simp only [execOp]; go_simp, rfl⟩
        | 11, _, hq, _ => exact absurd rfl (hq 0 (by decide))
        | 12, _, hq, _ => exact absurd rfl (hq 1 (by decide))
        | k + 13, hi, _, _ => exact absurd hi (by omega)
      · intro t o ht ho a' V v hSV hv hoth hd K hK
        have oS1 : a'.eval (.tmp 1) = .slice (some ⟨b1, o1, none⟩) n c := hoth 1 (by decide)
        have oS7 : a'.eval (.tmp 7) = .int .i64 (ii : Int) := hoth 7 (by decide)
        clear hoth
        match t, ht, ho, hSV, hv, hd, hK with
        | 0, _, ho, hSV, hv, hd, hK =>
          obtain rfl := Option.some.inj ho
          have hSV : (fun _ V => Below Wi.heap.size Wi V ∧ V.heap.size = Wi.heap.size : Value → World → Prop) v V := hSV
          have hK : ∀ v' W', (fun v V => (Below Wi.heap.size Wi V ∧ v = .pointer (some ⟨Wi.heap.size, 0, none⟩)) ∧ V.rowIs Wi.heap.size 37 3 (fun j => ([.int .i64 0, .slice none 0 0, .slice none 0 0] : List Value).getD j undef) : Value → World → Prop) v' W' → (fun v : Value => v = .pointer (some ⟨Wi.heap.size, 0, none⟩)) v' → K (a'.put (some 8) v') W' := hK
          clear hd
          obtain ⟨ρ, hρ⟩ : ∃ ρ, ρ = a'.eval := ⟨_, rfl⟩
          have q1 : ρ (.tmp 1) = .slice (some ⟨b1, o1, none⟩) n c := by rw [hρ]; exact oS1
          have q7 : ρ (.tmp 7) = .int .i64 (ii : Int) := by rw [hρ]; exact oS7
          have r := World.rowIs_alloc V #[.int .i64 0, .slice none 0 0, .slice none 0 0] 37 (fun j => ([.int .i64 0, .slice none 0 0, .slice none 0 0] : List Value).getD j undef) (fun j hj => by rcases (show j = 0 ∨ j = 1 ∨ j = 2 by have : j < 3 := hj; omega) with rfl | rfl | rfl <;> rfl)
          rw [hSV.2] at r
          refine wp_value (v := .pointer (some ⟨V.heap.size, 0, none⟩)) (w' := V.alloc (.cells #[.int .i64 0, .slice none 0 0, .slice none 0 0] 37)) (by rw [← hρ]; clear hρ; simp only [execOp]; go_simp) (hK _ _ ⟨⟨hSV.1.alloc hSV.1.size _, by rw [hSV.2]⟩, r⟩ (by show _ = _; rw [hSV.2]))
        | 1, _, ho, hSV, hv, hd, hK =>
          obtain rfl := Option.some.inj ho
          have hSV : (fun v V => (Below Wi.heap.size Wi V ∧ v = .pointer (some ⟨Wi.heap.size, 0, none⟩)) ∧ V.rowIs Wi.heap.size 37 3 (fun j => ([.int .i64 0, .slice none 0 0, .slice none 0 0] : List Value).getD j undef) : Value → World → Prop) v V := hSV
          have hK : ∀ v' W', (fun _ V => Inn Wi V Wi.heap.size u.pr ⟨xa, xn, xc⟩ (.slice none 0 0) 0 [] : Value → World → Prop) v' W' → True → K (a'.put none v') W' := hK
          have e10 : a'.eval (.tmp 39) = .agg #[.int .i64 u.pr, .slice xa xn xc, .slice none 0 0] := hd 10 (by decide) (by decide)
          have hv : v = a'.eval (.tmp 8) := hv (by decide)
          clear hd
          obtain ⟨ρ, hρ⟩ : ∃ ρ, ρ = a'.eval := ⟨_, rfl⟩
          have r10 : ρ (.tmp 39) = .agg #[.int .i64 u.pr, .slice xa xn xc, .slice none 0 0] := by rw [hρ]; exact e10
          have q1 : ρ (.tmp 1) = .slice (some ⟨b1, o1, none⟩) n c := by rw [hρ]; exact oS1
          have q7 : ρ (.tmp 7) = .int .i64 (ii : Int) := by rw [hρ]; exact oS7
          have hvp := hSV.1.2
          have rr := hSV.2
          have hp : a'.eval (.tmp 8) = .pointer (some ⟨Wi.heap.size, 0, none⟩) := by rw [← hv]; exact hvp
          have rp : ρ (.tmp 8) = .pointer (some ⟨Wi.heap.size, 0, none⟩) := by rw [hρ]; exact hp
          have k0 := rr.cell (i := 0) (by decide)
          have k1 := rr.cell (i := 1) (by decide)
          have k2 := rr.cell (i := 2) (by decide)
          have f0 := rr.frozen 0
          have f1 := rr.frozen 1
          have f2 := rr.frozen 2
          simp only [List.getD_cons_zero, List.getD_cons_succ] at k0 k1 k2
          refine wp_skip (w' := ((V.setCell ⟨Wi.heap.size, 0, none⟩ (.int .i64 u.pr)).setCell ⟨Wi.heap.size, 1, none⟩ (.slice xa xn xc)).setCell ⟨Wi.heap.size, 2, none⟩ (.slice none 0 0)) (by rw [← hρ]; clear hρ hK hv hp; simp only [execOp]; go_simp) (hK undef _ (stored_new hSV.1.1 rr) trivial)
        | k + 2, ht, _, _, _, _, _ => exact absurd ht (by omega)
      · intro a' V hsz hdef hoth hS hmo
        have hS : (fun _ V => Inn Wi V Wi.heap.size u.pr ⟨xa, xn, xc⟩ (.slice none 0 0) 0 [] : Value → World → Prop) (a'.eval (.tmp 141)) V := hS
        have hcov : ∀ i, i ≤ 12 → 29 ≤ (fun i => ([29, 30, 31, 32, 33, 34, 35, 36, 37, 38, 39, 8, 141] : List Nat).getD i 0) i ∧ (fun i => ([29, 30, 31, 32, 33, 34, 35, 36, 37, 38, 39, 8, 141] : List Nat).getD i 0) i < 40 ∨ (fun i => ([29, 30, 31, 32, 33, 34, 35, 36, 37, 38, 39, 8, 141] : List Nat).getD i 0) i = 8 ∨ (fun i => ([29, 30, 31, 32, 33, 34, 35, 36, 37, 38, 39, 8, 141] : List Nat).getD i 0) i = 141 := by decide
        have hv9 : a'.eval (.tmp 8) = .pointer (some ⟨Wi.heap.size, 0, none⟩) := hmo 0 (by decide)
        obtain ⟨us, hu1, rfl⟩ := act_mix1 29 11 8 (.pointer (some ⟨Wi.heap.size, 0, none⟩)) rfl hsz hdef (by simp) (by simp) hv9 (by decide) (fun k hkd hk => by
          by_cases hkT : k = 141
          · subst hkT; unfold Act.eval; simp [hsz]
          · exact hoth k (fun i hi => by have := hcov i hi; dsimp only at this ⊢; omega))
        match us, hu1 with
        | [u29, u30, u31, u32, u33, u34, u35, u36, u37, u38, u39], _ =>
          have HI0 := Lib.hid hS
          have HW9 : Hid (Wi.heap.size = Wi.heap.size) := rfl
          clear hS hv9 hmo hoth
          obtain ⟨bu, hbu⟩ : ∃ bu, bu = Wi.heap.size := ⟨_, rfl⟩
          rw [← hbu] at HI0 ⊢
          have HBU := Lib.hid hbu
          clear hbu HW9
          go_wp2
          go_loopw [5, 9] (fun m x wr => ∃ (q : Nat) (N : Int) (lv : Value), q ≤ ln ∧ x = .int .i64 q ∧ m = .int .i64 N ∧ Hid (M ≤ N ∧ ∀ x ∈ u.le.take q, x ≤ N) ∧ Hid (Inn Wi wr bu u.pr ⟨xa, xn, xc⟩ lv q ((u.le.take q).map fun x => 2 * x))) (fun _ x _ => ln - (intOf x).toNat)
          case atStart => exact ⟨0, M, .slice none 0 0, by omega, rfl, rfl, ⟨Int.le_refl _, fun u hu => by simp at hu⟩, HI0⟩
          case round =>
            obtain ⟨q, N, lv, hq, rfl, rfl, HN, HI⟩ := hrel
            have h2 := keep_cell (keep_below HBi.out HI.out.bel) H2.out
            by_cases hlt2 : q < ln
            · obtain ⟨b4, o4, y, rfl, hB4, hy, hc4⟩ := HE.out.item hlt2
              have HY := Lib.hid hc4
              obtain ⟨y0, y9⟩ := HU.out.le y (List.mem_of_getElem? hy)
              have w2y : IntKind.i64.wrap (2 * y) = 2 * y := IntWalk.i64_in _ (by omega)
              have HYS : Hid ((u.le.take (q + 1)).map (fun x => 2 * x) = (u.le.take q).map (fun x => 2 * x) ++ [2 * y]) := by
                show _ = _
                rw [take_cat hy, List.map_append]; rfl
              have HN2 : Hid (M ≤ max N y ∧ ∀ x ∈ u.le.take (q + 1), x ≤ max N y) := by
                refine ⟨by have := HN.out.1; omega, fun x hx => ?_⟩
                rw [take_cat hy] at hx
                rcases List.mem_append.1 hx with hx | hx
                · have := HN.out.2 x hx; omega
                · simp at hx; subst hx; omega
              have hy2 := keep_cell (keep_below HBi.out HI.out.bel) HY.out
              have j1 : (0 : Int) ≤ (q : Int) := by omega
              have j2 : (q : Int) < (ln : Int) := by omega
              generalize hys : (u.le.take q).map (fun x => 2 * x) = ys at HI HYS
              clear hy hc4 HN hys
              go_wp2_with fail
              clear h2 hy2
              refine region_chain3 141 14 3 (fun t => ([11, 12, 14] : List Nat).getD t 0) (fun i => ([60, 61, 62, 63, 64, 65, 66, 67, 68, 69, 70, 71, 72, 73, 141] : List Nat).getD i 0) (fun i => ([[], [0], [], [], [2, 3], [4], [5], [], [6, 7], [8], [9], [10], [1, 11], [], [13, 12]] : List (List Nat)).getD i []) (fun i v => ([(fun v : Value => v = .pointer (some ⟨bu, 2, none⟩)), (fun v : Value => v = lv), (fun v : Value => v = .slice (some ⟨b1, o1, none⟩) n c), (fun v : Value => v = .int .i64 (ii : Int)), (fun v : Value => v = .pointer (some ⟨b1, o1 + ii * 3, none⟩)), (fun v : Value => v = .pointer (some ⟨b1, o1 + ii * 3 + 2, none⟩)), (fun v : Value => v = .slice (some ⟨b4, o4, none⟩) ln lc), (fun v : Value => v = .int .i64 (q : Int)), (fun v : Value => v = .pointer (some ⟨b4, o4 + q, none⟩)), (fun v : Value => v = .int .i64 y), (fun v : Value => v = .int .i64 (2 * y)), (fun _ : Value => True), (fun _ : Value => True), (fun v : Value => v = .pointer (some ⟨bu, 2, none⟩)), (fun _ : Value => True)] : List (Value → Prop)).getD i (fun _ => True) v) (fun t v => ([(fun _ : Value => True), (fun _ : Value => True), (fun _ : Value => True)] : List (Value → Prop)).getD t (fun _ => True) v) (fun t v V => ([(fun _ V => Inn Wi V bu u.pr ⟨xa, xn, xc⟩ lv q ys), (fun v V => Inn Wi V bu u.pr ⟨xa, xn, xc⟩ lv q ys ∧ ∃ g, v = .slice (some ⟨g, 0, none⟩) 1 1 ∧ ∀ j x, ([.int .i64 (2 * y)] : List Value)[j]? = some x → V.cell? ⟨g, j, none⟩ = some x), (fun v V => Mid Wi V bu u.pr ⟨xa, xn, xc⟩ lv v (q + 1) (ys ++ [2 * y])), (fun _ V => ∃ lv', Inn Wi V bu u.pr ⟨xa, xn, xc⟩ lv' (q + 1) (ys ++ [2 * y]))] : List (Value → World → Prop)).getD t (fun _ _ => False) v V) (by kernel_rfl) rfl (fun i j hi hj => (by decide : ∀ i, i ≤ 14 → ∀ j, j ≤ 14 → (fun i => ([60, 61, 62, 63, 64, 65, 66, 67, 68, 69, 70, 71, 72, 73, 141] : List Nat).getD i 0) i = (fun i => ([60, 61, 62, 63, 64, 65, 66, 67, 68, 69, 70, 71, 72, 73, 141] : List Nat).getD i 0) j → i = j) i hi j hj) rfl (by decide) rfl (fun s t hs ht => (by decide : ∀ s, s < 3 → ∀ t, t < 3 → (fun t => ([11, 12, 14] : List Nat).getD t 0) s = (fun t => ([11, 12, 14] : List Nat).getD t 0) t → s = t) s hs t ht) (by decide) (fun t ht => (by decide : ∀ t, t < 2 → (fun t => ([11, 12, 14] : List Nat).getD t 0) t ∈ (fun i => ([[], [0], [], [], [2, 3], [4], [5], [], [6, 7], [8], [9], [10], [1, 11], [], [13, 12]] : List (List Nat)).getD i []) ((fun t => ([11, 12, 14] : List Nat).getD t 0) (t + 1))) t (by omega)) ?_ ?_ ?_ ?_ (HI.out.keep ⟨rfl, rfl, rfl, Nat.le_refl _, fun _ _ => rfl⟩) ?_
              · intro i o ho
                match i, ho with
                | 0, ho => obtain rfl := Option.some.inj ho; exact ⟨Or.inl ⟨rfl, by decide⟩, rfl, by decide, by decide⟩
                | 1, ho => obtain rfl := Option.some.inj ho; exact ⟨Or.inl ⟨rfl, by decide⟩, rfl, by decide, by decide⟩
                | 2, ho => obtain rfl := Option.some.inj ho; exact ⟨Or.inl ⟨rfl, by decide⟩, rfl, by decide, by decide⟩
                | 3, ho => obtain rfl := Option.some.inj ho; exact ⟨Or.inl ⟨rfl, by decide⟩, rfl, by decide, by decide⟩
                | 4, ho => obtain rfl := Option.some.inj ho; exact ⟨Or.inl ⟨rfl, by decide⟩, rfl, by decide, by decide⟩
                | 5, ho => obtain rfl := Option.some.inj ho; exact ⟨Or.inl ⟨rfl, by decide⟩, rfl, by decide, by decide⟩
                | 6, ho => obtain rfl := Option.some.inj ho; exact ⟨Or.inl ⟨rfl, by decide⟩, rfl, by decide, by decide⟩
                | 7, ho => obtain rfl := Option.some.inj ho; exact ⟨Or.inl ⟨rfl, by decide⟩, rfl, by decide, by decide⟩
                | 8, ho => obtain rfl := Option.some.inj ho; exact ⟨Or.inl ⟨rfl, by decide⟩, rfl, by decide, by decide⟩
                | 9, ho => obtain rfl := Option.some.inj ho; exact ⟨Or.inl ⟨rfl, by decide⟩, rfl, by decide, by decide⟩
                | 10, ho => obtain rfl := Option.some.inj ho; exact ⟨Or.inl ⟨rfl, by decide⟩, rfl, by decide, by decide⟩
                | 11, ho => obtain rfl := Option.some.inj ho; exact ⟨Or.inl ⟨rfl, by decide⟩, rfl, by decide, by decide⟩
                | 12, ho => obtain rfl := Option.some.inj ho; exact ⟨Or.inl ⟨rfl, by decide⟩, rfl, by decide, by decide⟩
                | 13, ho => obtain rfl := Option.some.inj ho; exact ⟨Or.inl ⟨rfl, by decide⟩, rfl, by decide, by decide⟩
                | 14, ho => obtain rfl := Option.some.inj ho; exact ⟨Or.inr ⟨rfl, rfl, fun _ _ _ h => h, fun _ => trivial⟩, rfl, by decide, by decide⟩
                | k + 15, ho => simp at ho
              · intro i hi
                match i, hi with
                | 0, _ => exact ⟨1, by decide, by decide, by decide⟩
                | 1, _ => exact ⟨12, by decide, by decide, by decide⟩
                | 2, _ => exact ⟨4, by decide, by decide, by decide⟩
                | 3, _ => exact ⟨4, by decide, by decide, by decide⟩
                | 4, _ => exact ⟨5, by decide, by decide, by decide⟩
                | 5, _ => exact ⟨6, by decide, by decide, by decide⟩
                | 6, _ => exact ⟨8, by decide, by decide, by decide⟩
                | 7, _ => exact ⟨8, by decide, by decide, by decide⟩
                | 8, _ => exact ⟨9, by decide, by decide, by decide⟩
                | 9, _ => exact ⟨10, by decide, by decide, by decide⟩
                | 10, _ => exact ⟨11, by decide, by decide, by decide⟩
                | 11, _ => exact ⟨12, by decide, by decide, by decide⟩
                | 12, _ => exact ⟨14, by decide, by decide, by decide⟩
                | 13, _ => exact ⟨14, by decide, by decide, by decide⟩
                | k + 14, hi => omega
              · intro i o hi hq ho a' V j v hj hSV hoth hd
                have hC : (fun V : World => Below Wi.heap.size Wi V ∧ V.cell? ⟨bu, 2, none⟩ = some lv) V := by
                  match j, hj, hSV with
                  | 0, _, h => exact ⟨h.bel, h.cell 2 _ rfl⟩
                  | 1, _, h => exact ⟨h.1.bel, h.1.cell 2 _ rfl⟩
                  | 2, _, h => exact ⟨h.bel, h.cell 2 _ rfl⟩
                  | k + 3, hj, _ => omega
                clear hSV hj
                have oS1 : a'.eval (.tmp 1) = .slice (some ⟨b1, o1, none⟩) n c := hoth 1 (by decide)
                have oS7 : a'.eval (.tmp 7) = .int .i64 (ii : Int) := hoth 7 (by decide)
                have oS8 : a'.eval (.tmp 8) = .pointer (some ⟨bu, 0, none⟩) := hoth 8 (by decide)
                have oS9 : a'.eval (.tmp 9) = .int .i64 (q : Int) := hoth 9 (by decide)
                clear hoth
                obtain ⟨ρ, hρ⟩ : ∃ ρ, ρ = a'.eval := ⟨_, rfl⟩
                have hc : ∀ v, ρ (.const v) = v := fun v => by rw [hρ]; rfl
                simp only [← hρ] at hd ⊢
                rw [← hρ] at oS1
                rw [← hρ] at oS7
                rw [← hρ] at oS8
                rw [← hρ] at oS9
                clear hρ
                match i, hi, hq, ho with
                | 0, _, _, ho =>
                  obtain rfl := Option.some.inj ho
                  clear hd hq
                  exact ⟨.pointer (some ⟨bu, 2, none⟩), by simp only [execOp]; go_simp, rfl⟩
                | 1, _, _, ho =>
                  obtain rfl := Option.some.inj ho
                  have e0 : ρ (.tmp 60) = .pointer (some ⟨bu, 2, none⟩) := hd 0 (by decide) (by decide)
                  clear hd hq
                  have c2 := hC.2
                  exact ⟨lv, by simp only [execOp]; go_simp, rfl⟩
                | 2, _, _, ho =>
                  obtain rfl := Option.some.inj ho
                  clear hd hq
                  exact ⟨.slice (some ⟨b1, o1, none⟩) n c, by simp only [execOp]; go_simp, rfl⟩
                | 3, _, _, ho =>
                  obtain rfl := Option.some.inj ho
                  clear hd hq
                  exact ⟨.int .i64 (ii : Int), by simp only [execOp]; go_simp, rfl⟩
                | 4, _, _, ho =>
                  obtain rfl := Option.some.inj ho
                  have e2 : ρ (.tmp 62) = .slice (some ⟨b1, o1, none⟩) n c := hd 2 (by decide) (by decide)
                  have e3 : ρ (.tmp 63) = .int .i64 (ii : Int) := hd 3 (by decide) (by decide)
                  clear hd hq
                  exact ⟨.pointer (some ⟨b1, o1 + ii * 3, none⟩), by simp only [execOp]; go_simp, rfl⟩
                | 5, _, _, ho =>
                  obtain rfl := Option.some.inj ho
                  have e4 : ρ (.tmp 64) = .pointer (some ⟨b1, o1 + ii * 3, none⟩) := hd 4 (by decide) (by decide)
                  clear hd hq
                  exact ⟨.pointer (some ⟨b1, o1 + ii * 3 + 2, none⟩), by simp only [execOp]; go_simp, rfl⟩
                | 6, _, _, ho =>
                  obtain rfl := Option.some.inj ho
                  have e5 : ρ (.tmp 65) = .pointer (some ⟨b1, o1 + ii * 3 + 2, none⟩) := hd 5 (by decide) (by decide)
                  clear hd hq
                  have c2 := keep_cell (keep_below HBi.out hC.1) H2.out
                  exact ⟨.slice (some ⟨b4, o4, none⟩) ln lc, by simp only [execOp]; go_simp, rfl⟩
                | 7, _, _, ho =>
                  obtain rfl := Option.some.inj ho
                  clear hd hq
                  exact ⟨.int .i64 (q : Int), by simp only [execOp]; go_simp, rfl⟩
                | 8, _, _, ho =>
                  obtain rfl := Option.some.inj ho
                  have e6 : ρ (.tmp 66) = .slice (some ⟨b4, o4, none⟩) ln lc := hd 6 (by decide) (by decide)
                  have e7 : ρ (.tmp 67) = .int .i64 (q : Int) := hd 7 (by decide) (by decide)
                  clear hd hq
                  exact ⟨.pointer (some ⟨b4, o4 + q, none⟩), by simp only [execOp]; go_simp, rfl⟩
                | 9, _, _, ho =>
                  obtain rfl := Option.some.inj ho
                  have e8 : ρ (.tmp 68) = .pointer (some ⟨b4, o4 + q, none⟩) := hd 8 (by decide) (by decide)
                  clear hd hq
                  have c3 := keep_cell (keep_below HBi.out hC.1) HY.out
                  exact ⟨.int .i64 y, by simp only [execOp]; go_simp, rfl⟩
                | 10, _, _, ho =>
                  obtain rfl := Option.some.inj ho
                  have e9 : ρ (.tmp 69) = .int .i64 y := hd 9 (by decide) (by decide)
                  clear hd hq
                  exact ⟨.int .i64 (2 * y), by simp only [execOp]; go_simp, rfl⟩
                | 11, _, hq, _ => exact absurd rfl (hq 0 (by decide))
                | 12, _, hq, _ => exact absurd rfl (hq 1 (by decide))
                | 13, _, _, ho =>
                  obtain rfl := Option.some.inj ho
                  clear hd hq
                  exact ⟨.pointer (some ⟨bu, 2, none⟩), by simp only [execOp]; go_simp, rfl⟩
                | 14, _, hq, _ => exact absurd rfl (hq 2 (by decide))
                | k + 15, hi, _, _ => exact absurd hi (by omega)
              · intro t o ht ho a' V v hSV hv hoth hd K hK
                have oS1 : a'.eval (.tmp 1) = .slice (some ⟨b1, o1, none⟩) n c := hoth 1 (by decide)
                have oS7 : a'.eval (.tmp 7) = .int .i64 (ii : Int) := hoth 7 (by decide)
                have oS8 : a'.eval (.tmp 8) = .pointer (some ⟨bu, 0, none⟩) := hoth 8 (by decide)
                have oS9 : a'.eval (.tmp 9) = .int .i64 (q : Int) := hoth 9 (by decide)
                clear hoth
                match t, ht, ho, hSV, hv, hd, hK with
                | 0, _, ho, hSV, hv, hd, hK =>
                  obtain rfl := Option.some.inj ho
                  have hSV : (fun _ V => Inn Wi V bu u.pr ⟨xa, xn, xc⟩ lv q ys : Value → World → Prop) v V := hSV
                  have hK : ∀ v' W', (fun v V => Inn Wi V bu u.pr ⟨xa, xn, xc⟩ lv q ys ∧ ∃ g, v = .slice (some ⟨g, 0, none⟩) 1 1 ∧ ∀ j x, ([.int .i64 (2 * y)] : List Value)[j]? = some x → V.cell? ⟨g, j, none⟩ = some x : Value → World → Prop) v' W' → True → K (a'.put (some 71) v') W' := hK
                  have e10 : a'.eval (.tmp 70) = .int .i64 (2 * y) := hd 10 (by decide) (by decide)
                  clear hd
                  obtain ⟨ρ, hρ⟩ : ∃ ρ, ρ = a'.eval := ⟨_, rfl⟩
                  have r10 : ρ (.tmp 70) = .int .i64 (2 * y) := by rw [hρ]; exact e10
                  have q1 : ρ (.tmp 1) = .slice (some ⟨b1, o1, none⟩) n c := by rw [hρ]; exact oS1
                  have q7 : ρ (.tmp 7) = .int .i64 (ii : Int) := by rw [hρ]; exact oS7
                  have q8 : ρ (.tmp 8) = .pointer (some ⟨bu, 0, none⟩) := by rw [hρ]; exact oS8
                  have q9 : ρ (.tmp 9) = .int .i64 (q : Int) := by rw [hρ]; exact oS9
                  refine wp_value (v := .slice (some ⟨V.heap.size, 0, none⟩) 1 1) (w' := V.alloc (.cells #[.int .i64 (2 * y)] 3)) (by rw [← hρ]; clear hρ; simp only [execOp]; go_simp) (hK _ _ ⟨hSV.alloc _, V.heap.size, rfl, cells_new V _ _⟩ trivial)
                | 1, _, ho, hSV, hv, hd, hK =>
                  obtain rfl := Option.some.inj ho
                  have hSV : (fun v V => Inn Wi V bu u.pr ⟨xa, xn, xc⟩ lv q ys ∧ ∃ g, v = .slice (some ⟨g, 0, none⟩) 1 1 ∧ ∀ j x, ([.int .i64 (2 * y)] : List Value)[j]? = some x → V.cell? ⟨g, j, none⟩ = some x : Value → World → Prop) v V := hSV
                  have hK : ∀ v' W', (fun v V => Mid Wi V bu u.pr ⟨xa, xn, xc⟩ lv v (q + 1) (ys ++ [2 * y]) : Value → World → Prop) v' W' → True → K (a'.put (some 72) v') W' := hK
                  have e1 : a'.eval (.tmp 61) = lv := hd 1 (by decide) (by decide)
                  have hv : v = a'.eval (.tmp 71) := hv (by decide)
                  clear hd
                  obtain ⟨ρ, hρ⟩ : ∃ ρ, ρ = a'.eval := ⟨_, rfl⟩
                  have r1 : ρ (.tmp 61) = lv := by rw [hρ]; exact e1
                  have q1 : ρ (.tmp 1) = .slice (some ⟨b1, o1, none⟩) n c := by rw [hρ]; exact oS1
                  have q7 : ρ (.tmp 7) = .int .i64 (ii : Int) := by rw [hρ]; exact oS7
                  have q8 : ρ (.tmp 8) = .pointer (some ⟨bu, 0, none⟩) := by rw [hρ]; exact oS8
                  have q9 : ρ (.tmp 9) = .int .i64 (q : Int) := by rw [hρ]; exact oS9
                  obtain ⟨hI, g, hg, hcs⟩ := hSV
                  rw [hg] at hv
                  exact wp_append_own V (.tmp 61) (.tmp 71) 30 rfl (bu + 1) 3 j0 (.int .i64 0) 1 8 Try.underlying30 hj0 jz0 jz1 jz2 rfl (by decide) lv q (ys.map (Value.int .i64)) e1 hI.own ⟨g, 0, none⟩ 1 1 [.int .i64 (2 * y)] hv.symm rfl (fun j x hj => by rw [add_plain', Nat.zero_add]; exact hcs j x hj) (fun x hx => by simp at hx; subst hx; rfl) (by unfold maxLen; omega) (by omega) (by have := hI.row.lt; omega) (fun v' W' h1 h2 _ => hK v' W' (hI.step h1 h2) trivial)
                | 2, _, ho, hSV, hv, hd, hK =>
                  obtain rfl := Option.some.inj ho
                  have hSV : (fun v V => Mid Wi V bu u.pr ⟨xa, xn, xc⟩ lv v (q + 1) (ys ++ [2 * y]) : Value → World → Prop) v V := hSV
                  have hK : ∀ v' W', (fun _ V => ∃ lv', Inn Wi V bu u.pr ⟨xa, xn, xc⟩ lv' (q + 1) (ys ++ [2 * y]) : Value → World → Prop) v' W' → True → K (a'.put none v') W' := hK
                  have e13 : a'.eval (.tmp 73) = .pointer (some ⟨bu, 2, none⟩) := hd 13 (by decide) (by decide)
                  have hv : v = a'.eval (.tmp 72) := hv (by decide)
                  clear hd
                  obtain ⟨ρ, hρ⟩ : ∃ ρ, ρ = a'.eval := ⟨_, rfl⟩
                  have r13 : ρ (.tmp 73) = .pointer (some ⟨bu, 2, none⟩) := by rw [hρ]; exact e13
                  have q1 : ρ (.tmp 1) = .slice (some ⟨b1, o1, none⟩) n c := by rw [hρ]; exact oS1
                  have q7 : ρ (.tmp 7) = .int .i64 (ii : Int) := by rw [hρ]; exact oS7
                  have q8 : ρ (.tmp 8) = .pointer (some ⟨bu, 0, none⟩) := by rw [hρ]; exact oS8
                  have q9 : ρ (.tmp 9) = .int .i64 (q : Int) := by rw [hρ]; exact oS9
                  obtain ⟨a5, n5, c5, ev, -, -, -⟩ := own_slice hSV.own
                  have rv : ρ (.tmp 72) = .slice a5 n5 c5 := by rw [hρ, ← ev]; exact hv.symm
                  have k2 := hSV.row.cell (i := 2) (by decide)
                  have f2 := hSV.row.frozen 2
                  exact wp_skip (w' := V.setCell ⟨bu, 2, none⟩ (.slice a5 n5 c5)) (by rw [← hρ]; clear hρ hK hv ev; simp only [execOp]; go_simp) (hK undef _ ⟨v, by rw [← ev]; exact hSV.store⟩ trivial)
                | k + 3, ht, _, _, _, _, _ => exact absurd ht (by omega)
              · intro a' V hsz hdef hoth hS hmo
                have hS : (fun _ V => ∃ lv', Inn Wi V bu u.pr ⟨xa, xn, xc⟩ lv' (q + 1) (ys ++ [2 * y]) : Value → World → Prop) (a'.eval (.tmp 141)) V := hS
                have hcov : ∀ i, i ≤ 14 → 60 ≤ (fun i => ([60, 61, 62, 63, 64, 65, 66, 67, 68, 69, 70, 71, 72, 73, 141] : List Nat).getD i 0) i ∧ (fun i => ([60, 61, 62, 63, 64, 65, 66, 67, 68, 69, 70, 71, 72, 73, 141] : List Nat).getD i 0) i < 74 ∨ (fun i => ([60, 61, 62, 63, 64, 65, 66, 67, 68, 69, 70, 71, 72, 73, 141] : List Nat).getD i 0) i = 141 := by decide
                obtain ⟨us, hu1, hu2, rfl⟩ := act_mix 60 14 rfl hsz hdef (by simp) (fun k hk => by
                  by_cases hkT : k = 141
                  · subst hkT; unfold Act.eval; simp [hsz]
                  · exact hoth k (fun i hi => by have := hcov i hi; dsimp only at this ⊢; omega))
                match us, hu1 with
                | [u60, u61, u62, u63, u64, u65, u66, u67, u68, u69, u70, u71, u72, u73], _ =>
                  obtain ⟨lv', hI'⟩ := hS
                  have HI2 : Hid (Inn Wi V bu u.pr ⟨xa, xn, xc⟩ lv' (q + 1) ((u.le.take (q + 1)).map fun x => 2 * x)) := by
                    show Inn _ _ _ _ _ _ _ _
                    rw [HYS.out]; exact hI'
                  clear hI' hmo hoth hu2
                  go_wp2
                  go_roundw
                  case rel => exact ⟨q + 1, max N y, lv', by omega, by go_num, rfl, HN2, HI2⟩
                  case measure => simp [intOf]; omega
            · obtain rfl : ln = q := by omega
              have c0 := HI.out.cell 0 _ rfl
              have c1 := HI.out.cell 1 _ rfl
              have c2 := HI.out.cell 2 _ rfl
              obtain ⟨ga, gn, gc, rfl, hrow, rfl, hgb⟩ := own_slice HI.out.own
              have TK := Lib.hid (HT.out.keep HI.out.bel)
              have hyl : (u.le.take gn).map (fun x => 2 * x) = (twU u).le := by
                rw [List.take_of_length_le (by rw [HE.out.1]; exact Nat.le_refl _)]; rfl
              rw [hyl] at hrow
              have HIs : Hid (UsV.Is wr ⟨u.pr, ⟨xa, xn, xc⟩, ⟨ga, gn, gc⟩⟩ (twU u)) := ⟨rfl, ⟨HX.out.below (keep_below HBi.out HI.out.bel), hXm⟩, ⟨hrow, hEm⟩⟩
              have HOff : Hid (Off ⟨u.pr, ⟨xa, xn, xc⟩, ⟨ga, gn, gc⟩⟩ u6.ownBlock) := by
                refine ⟨fun hn p hp e => ?_, fun hn p hp e => ?_⟩
                · have h1 := row_lt HX.out hn hp
                  have h2 := (HT.out.own.lt _ e).1
                  have h3 := b2.out.size
                  omega
                · have h1 := (hgb p hp).2
                  have h2 := (HT.out.own.lt _ e).2
                  have h3 := HBU.out
                  omega
              have HN2 : Hid (0 ≤ N ∧ ∀ u ∈ L.take (ii + 1), ∀ x ∈ u.le, x ≤ N) := by
                have n1 := HN.out.1
                have n2 := HM.out.1
                refine ⟨by omega, fun u' hu x hx => ?_⟩
                rw [HTC.out] at hu
                rcases List.mem_append.1 hu with hu | hu
                · have := HM.out.2 u' hu x hx; omega
                · simp at hu; subst hu
                  have := HN.out.2 x (by rw [List.take_of_length_le (by rw [HE.out.1]; exact Nat.le_refl _)]; exact hx)
                  exact this
              have HBE := Lib.hid (keep_below HT.out.bel HI.out.bel)
              clear hrow hyl hgb HN HI
              go_wp2_with (at_builtin; refine wpList_append_own_at _ rfl _ _ 22 rfl w2.heap.size 37 i0 (.agg #[.int .i64 0, .slice none 0 0, .slice none 0 0]) 3 56 Try.underlying22 hi0 hz0 hz1 hz2 rfl (by decide) _ _ _ rfl (TK.out.own.alloc _) ⟨wr.heap.size, 0, none⟩ 1 1 (⟨u.pr, ⟨xa, xn, xc⟩, ⟨ga, gn, gc⟩⟩ : UsV).cells rfl rfl ?c1 (usV_one _) ?c3 ?c4 ?c5 ?_)
              case c1 =>
                intro j tt hj
                first
                  | exact hj
                  | (rw [add_plain', Nat.zero_add]; exact cells_new wr _ _ j tt hj)
              case c3 => unfold maxLen; omega
              case c4 => omega
              case c5 => have := HBE.out.size; first | omega | (simp; omega)
              · intro v' w5 hown' hgrow _ hat
                have T5 : Hid (Tw w2 w5 v' (ii + 1) (VV ++ [⟨u.pr, ⟨xa, xn, xc⟩, ⟨ga, gn, gc⟩⟩]) ((L.take (ii + 1)).map twU)) := by
                  have TA := TK.out.keep (below_alloc wr (.cells #[.int .i64 u.pr, .slice xa xn xc, .slice ga gn gc] 37))
                  have hat' : v'.ownBlock = u6.ownBlock ∨ v'.ownBlock = some (wr.alloc (.cells #[.int .i64 u.pr, .slice xa xn xc, .slice ga gn gc] 37)).heap.size := by simpa using hat
                  have := TA.step hown' hgrow hat' (HIs.out.below (below_alloc _ _)) HOff.out
                  show Tw _ _ _ _ _ _
                  rw [HTK.out]
                  exact this
                clear hown' hgrow hat c0 c1 c2
                go_wp2
                go_roundw
                case rel => exact ⟨ii + 1, N, _, by omega, by go_num, rfl, HN2, T5⟩
                case measure => simp [intOf]; omega
    · obtain rfl : n = ii := by omega
      have hM : 0 ≤ M ∧ ∀ u ∈ L, ∀ x ∈ u.le, x ≤ M := by
        have := HM.out
        rw [List.take_of_length_le (by rw [HL.out]; exact Nat.le_refl _)] at this
        exact this
      have HMM := Lib.hid hM
      have hT := HT.out
      rw [List.take_of_length_le (by rw [HL.out]; exact Nat.le_refl _)] at hT
      obtain ⟨a5, c5, rfl, hm5, hR⟩ := RowU.own hT.own hT.is
      have HR := Lib.hid hR
      have BB := Lib.hid (keep_below b2.out hT.bel)
      obtain ⟨r2, hq2⟩ : ∃ r, okL B (L.map twU) = r := ⟨_, rfl⟩
      have CW2 := Lib.hid (fun W (h : RowU W a5 n (L.map twU)) => waits_any B a5 n c5 (L.map twU) W h hn _ rfl)
      have CR2 := Lib.hid (fun W (h : RowU W a5 n (L.map twU)) => right_any B a5 n c5 (L.map twU) W h hn r2 hq2)
      unfold GotN at CW2
      have HQ2 := Lib.hid hq2
      clear hM hT hm5 hR HT HM hq2
      go_wp2_with (go_at_call 18; fail)
      refine (CW.out _ BB.out).mono ?_
      rintro e w3 ⟨a3, n3, c3, rfl, hr3, -, hb3, -⟩
      obtain rfl : n3 = n := by rw [hr3.1, waitL_len]; exact HL.out.symm
      have R3 := Lib.hid (HR.out.below hb3)
      go_wp2_with (go_at_call 18; fail)
      refine (CW2.out _ R3.out).mono ?_
      rintro e w4 ⟨a4, n4, c4, rfl, hr4, -, hb4, -⟩
      have BW := Lib.hid (keep_below (keep_below BB.out hb3) hb4)
      have RW := Lib.hid (hr3.below hb4)
      have RX := Lib.hid hr4
      have R4 := Lib.hid (R3.out.below hb4)
      clear hb3 hb4 hr3 hr4 R3 HR BB CW CW2
      cases r2
      · have hwl : wL B (L.map twU) = [] := wL_no HQ2.out
        rw [hwl] at RX
        obtain rfl : n4 = 0 := RX.out.1
        have hne : n3 ≠ 0 := fun e => okL_none HQ.out HQ2.out (List.eq_nil_of_length_eq_zero (by rw [← HL.out]; exact e))
        clear hwl RX
        go_wp2
        go_loopw [12] (fun x wr => ∃ k : Nat, k ≤ n3 ∧ x = .int .i64 k ∧ Hid (Below w4.heap.size w4 wr)) (fun x _ => n3 - (intOf x).toNat)
        case atStart => exact ⟨0, by omega, rfl, Below.refl _ _⟩
        case round =>
          obtain ⟨k, hk, rfl, HB⟩ := hrel
          by_cases hlt3 : k < n3
          · obtain ⟨b7, o7, y, e7, hB7, hy7, hc7⟩ := (RW.out.below HB.out).item hlt3
            subst e7
            have hle := waits_most HMM.out.1 HMM.out.2 hy7
            have d7 : decide (M < y) = false := decide_eq_false (by omega)
            have i1 : (0 : Int) ≤ (k : Int) := by omega
            have i2 : (k : Int) < (n3 : Int) := by omega
            clear hy7 hle
            go_wp2
            go_quiet (fail)
            go_wp2
            go_roundw
            case rel => exact ⟨k + 1, by omega, by go_num, HB.out.trans ⟨rfl, rfl, rfl, Nat.le_refl _, fun _ _ => rfl⟩⟩
            case measure => simp [intOf]; omega
          · obtain rfl : n3 = k := by omega
            have e0 : ((0 : Int) == (n3 : Int)) = false := by rw [beq_eq_false_iff_ne]; omega
            have R9 := R4.out.below HB.out
            have hz : (0 : Int) ≠ (n3 : Int) := by omega
            go_wp2_with (go_at_call 12; fail)
            refine (CR2.out _ R9).mono ?_
            rintro e w5 ⟨rfl, hb5⟩
            go_wp2_with (go_at_call 11; fail)
            refine (CK.out _).mono ?_
            rintro e w6 ⟨rfl, hb6⟩
            go_wp2
            go_ret
            exact ⟨rfl, keep_below (keep_below (keep_below BW.out HB.out) hb5) hb6⟩
      · have hwl : wL B (L.map twU) = waitL (L.map twU) := wL_yes HQ2.out
        rw [hwl] at RX
        obtain rfl : n4 = n3 := by rw [RX.out.1, waitL_len, List.length_map]; exact HL.out.symm
        clear hwl
        go_wp2
        go_loopw [12] (fun x wr => ∃ k : Nat, k ≤ n4 ∧ x = .int .i64 k ∧ Hid (Below w4.heap.size w4 wr)) (fun x _ => n4 - (intOf x).toNat)
        case atStart => exact ⟨0, by omega, rfl, Below.refl _ _⟩
        case round =>
          obtain ⟨k, hk, rfl, HB⟩ := hrel
          by_cases hlt3 : k < n4
          · obtain ⟨b7, o7, y, e7, hB7, hy7, hc7⟩ := (RW.out.below HB.out).item hlt3
            obtain ⟨b8, o8, z, e8, hB8, hz8, hc8⟩ := (RX.out.below HB.out).item hlt3
            subst e7 e8
            have hle := waits_most HMM.out.1 HMM.out.2 hy7
            have hle2 : y ≤ 1099511627776 := waits_most (M := 1099511627776) (by omega) (fun u hu x hx => ((O.out.all u hu).le x hx).2) hy7
            have hge : 0 ≤ y := by
              have hm := List.mem_of_getElem? hy7
              unfold waitL at hm
              obtain ⟨u', _, rfl⟩ := List.mem_map.1 hm
              exact waB_pos _ _
            obtain rfl : z = 2 * y := waits_twice hz8 hy7
            have w2y : IntKind.i64.wrap (2 * y) = 2 * y := IntWalk.i64_in _ (by omega)
            have d7 : decide (M < y) = false := decide_eq_false (by omega)
            have d8 : decide ((0 : Int) < (n4 : Int)) = true := decide_eq_true (by omega)
            have np : 0 < n4 := by omega
            have e22 : (2 * y == 2 * y) = true := by simp
            have i1 : (0 : Int) ≤ (k : Int) := by omega
            have i2 : (k : Int) < (n4 : Int) := by omega
            clear hy7 hz8 hle hle2 hge
            go_wp2
            go_quiet (fail)
            go_wp2
            go_roundw
            case rel => exact ⟨k + 1, by omega, by go_num, HB.out.trans ⟨rfl, rfl, rfl, Nat.le_refl _, fun _ _ => rfl⟩⟩
            case measure => simp [intOf]; omega
          · obtain rfl : n4 = k := by omega
            go_wp2_with (go_at_call 11; fail)
            refine (CK.out _).mono ?_
            rintro e w6 ⟨rfl, hb6⟩
            go_wp2
            go_ret
            exact ⟨rfl, keep_below (keep_below BW.out HB.out) hb6⟩
end Go.Proofs.Ythicoekoeffpaaa
