/- What is proved here: the contract of the timer's Copy. Conditions: the timer is one of ours, not too much waits. -/
import Derived.Test.YtdhchfmefdlloaaCq
namespace Go.Proofs.Ytdhchfmefdlloaa
open Go.ChangeShapes Go.WideShapes Go.RowKit Go.Maps

set_option maxHeartbeats 4000000 in
set_option maxRecDepth 100000 in
theorem copy_any {F : Nat → Prop} {w : World} {b : Nat} {pz : List Int} {now : Int} {L : List Wt} {n : Nat} (h : Tim F w b pz now L n) (hn : n ≤ 1000000000) :
    Calls Try.prog 13 #[.pointer (some ⟨b, 0, none⟩)] w
      fun e w' => ∃ (bc : Nat) (Fc : Nat → Prop), e = .returned (.pointer (some ⟨bc, 0, none⟩)) ∧ Tim Fc w' bc pz now L n ∧ (∀ g, Fc g → w.heap.size ≤ g) ∧ Below w.heap.size w w' := by
  obtain ⟨mb, pv, M, h⟩ := h
  obtain ⟨c0, c1, c2, c3, f2⟩ := h.cells
  have CG := Lib.hid (given_self b w h.cells.1)
  obtain ⟨pa, pn, pc, rfl, hp⟩ := Row.own h.per
  obtain rfl : pn = pz.length := hp.1
  have hok : okPz pz = true := okPz_iff.2 h.pzs
  have CA := Lib.hid (fun (W : World) (hb : Below w.heap.size w W) => at_any pa pz.length pc pz now W (hp.below hb) hok h.now0)
  have HT := Lib.hid h
  have hmb := h.mpg.lt
  have hbw := h.lt b h.inb
  obtain ⟨i0, hi0, hz0, hz1, hz2⟩ := info_parts due_info
  clear h hp c0 f2
  have cC : ∀ V : World, Below w.heap.size w V → V.cell? ⟨b, 1, none⟩ = some (.slice pa pz.length pc) ∧ V.cell? ⟨b, 2, none⟩ = some (.int .i64 now) ∧ V.cell? ⟨b, 3, none⟩ = some (.map (some mb)) := fun V hV => ⟨keep_cell hV c1, keep_cell hV c2, keep_cell hV c3⟩
  go_enter Try.func13, Try.ntmps13
  go_wp2_with (go_at_call 23; refine CG.out.mono ?_; rintro e w9 ⟨rfl, hw9⟩; have hw9 := hw9.symm; subst hw9)
  refine region_chain 36 9 2 (fun t => ([8, 9] : List Nat).getD t 0) (fun i => ([9, 10, 11, 12, 13, 14, 15, 16, 17, 3] : List Nat).getD i 0) (fun i => ([[], [0], [1], [2], [], [4], [5], [6], [3, 7], [8]] : List (List Nat)).getD i []) (fun i v => ([(fun v : Value => v = .pointer (some ⟨b, 0, none⟩)), (fun v : Value => v = .pointer (some ⟨b, 0, none⟩)), (fun v : Value => v = .pointer (some ⟨b, 2, none⟩)), (fun v : Value => v = .int .i64 now), (fun v : Value => v = .pointer (some ⟨b, 0, none⟩)), (fun v : Value => v = .pointer (some ⟨b, 0, none⟩)), (fun v : Value => v = .pointer (some ⟨b, 1, none⟩)), (fun v : Value => v = .slice pa pz.length pc), (fun _ : Value => True), (fun _ : Value => True)] : List (Value → Prop)).getD i (fun _ => True) v) (fun t v V => ([(fun _ V => Below w.heap.size w V), (fun v V => ∃ (bc mbc : Nat) (pvc : Value) (Fc : Nat → Prop), v = .pointer (some ⟨bc, 0, none⟩) ∧ TimI Fc V bc mbc pvc (fun _ => none) pz now [] 0 ∧ (∀ g, Fc g → w.heap.size ≤ g) ∧ Below w.heap.size w V), (fun v V => ∃ (bc mbc : Nat) (pvc : Value) (Fc : Nat → Prop), v = .pointer (some ⟨bc, 0, none⟩) ∧ TimI Fc V bc mbc pvc (fun _ => none) pz now [] 0 ∧ (∀ g, Fc g → w.heap.size ≤ g) ∧ Below w.heap.size w V)] : List (Value → World → Prop)).getD t (fun _ _ => False) v V) (by kernel_rfl) rfl (fun i j hi hj => (by decide : ∀ i, i ≤ 9 → ∀ j, j ≤ 9 → (fun i => ([9, 10, 11, 12, 13, 14, 15, 16, 17, 3] : List Nat).getD i 0) i = (fun i => ([9, 10, 11, 12, 13, 14, 15, 16, 17, 3] : List Nat).getD i 0) j → i = j) i hi j hj) rfl (by decide) rfl (fun s t hs ht => (by decide : ∀ s, s < 2 → ∀ t, t < 2 → (fun t => ([8, 9] : List Nat).getD t 0) s = (fun t => ([8, 9] : List Nat).getD t 0) t → s = t) s hs t ht) (by decide) (fun t ht => (by decide : ∀ t, t < 1 → (fun t => ([8, 9] : List Nat).getD t 0) t ∈ (fun i => ([[], [0], [1], [2], [], [4], [5], [6], [3, 7], [8]] : List (List Nat)).getD i []) ((fun t => ([8, 9] : List Nat).getD t 0) (t + 1))) t (by omega)) ?_ ?_ ?_ ?_ ⟨rfl, rfl, rfl, Nat.le_refl _, fun _ _ => rfl⟩ ?_
  · intro i o ho
    match i, ho with
    | 0, ho => obtain rfl := Option.some.inj ho; exact ⟨Or.inl ⟨rfl, by decide⟩, rfl, by decide, by decide⟩
    | 1, ho => obtain rfl := Option.some.inj ho; exact ⟨Or.inl ⟨rfl, by decide⟩, rfl, by decide, by decide⟩
    | 2, ho => obtain rfl := Option.some.inj ho; exact ⟨Or.inl ⟨rfl, by decide⟩, rfl, by decide, by decide⟩
    | 3, ho => obtain rfl := Option.some.inj ho; exact ⟨Or.inl ⟨rfl, by decide⟩, rfl, by decide, by decide⟩
    | 4, ho => obtain rfl := Option.some.inj ho; exact ⟨Or.inl ⟨rfl, by decide⟩, rfl, by decide, by decide⟩
    | 5, ho => obtain rfl := Option.some.inj ho; exact ⟨Or.inl ⟨rfl, by decide⟩, rfl, by decide, by decide⟩
    | 6, ho => obtain rfl := Option.some.inj ho; exact ⟨Or.inl ⟨rfl, by decide⟩, rfl, by decide, by decide⟩
    | 7, ho => obtain rfl := Option.some.inj ho; exact ⟨Or.inl ⟨rfl, by decide⟩, rfl, by decide, by decide⟩
    | 8, ho => obtain rfl := Option.some.inj ho; exact ⟨Or.inl ⟨rfl, by decide⟩, rfl, by decide, by decide⟩
    | 9, ho => obtain rfl := Option.some.inj ho; exact ⟨Or.inl ⟨rfl, by decide⟩, rfl, by decide, by decide⟩
    | k + 10, ho => simp at ho
  · intro i hi
    match i, hi with
    | 0, _ => exact ⟨1, by decide, by decide, by decide⟩
    | 1, _ => exact ⟨2, by decide, by decide, by decide⟩
    | 2, _ => exact ⟨3, by decide, by decide, by decide⟩
    | 3, _ => exact ⟨8, by decide, by decide, by decide⟩
    | 4, _ => exact ⟨5, by decide, by decide, by decide⟩
    | 5, _ => exact ⟨6, by decide, by decide, by decide⟩
    | 6, _ => exact ⟨7, by decide, by decide, by decide⟩
    | 7, _ => exact ⟨8, by decide, by decide, by decide⟩
    | 8, _ => exact ⟨9, by decide, by decide, by decide⟩
    | k + 9, hi => omega
  · intro i o hi hq ho a' V j v hj hSV hoth hd
    have hC : (fun V : World => Below w.heap.size w V) V := by
      match j, hj, hSV with
      | 0, _, h => exact h
      | 1, _, h => exact by obtain ⟨_, _, _, _, _, _, _, hb⟩ := h; exact hb
      | k + 2, hj, _ => omega
    clear hSV hj
    have oS0 : a'.eval (.tmp 0) = .pointer (some ⟨b, 0, none⟩) := hoth 0 (by decide)
    clear hoth
    obtain ⟨ρ, hρ⟩ : ∃ ρ, ρ = a'.eval := ⟨_, rfl⟩
    have hc : ∀ v, ρ (.const v) = v := fun v => by rw [hρ]; rfl
    simp only [← hρ] at hd ⊢
    rw [← hρ] at oS0
    clear hρ
    match i, hi, hq, ho with
    | 0, _, _, ho =>
      obtain rfl := Option.some.inj ho
      clear hd hq
      exact ⟨.pointer (some ⟨b, 0, none⟩), by simp only [execOp]; go_simp, rfl⟩
    | 1, _, _, ho =>
      obtain rfl := Option.some.inj ho
      have e0 : ρ (.tmp 9) = .pointer (some ⟨b, 0, none⟩) := hd 0 (by decide) (by decide)
      clear hd hq
      exact ⟨.pointer (some ⟨b, 0, none⟩), by simp only [execOp]; go_simp, rfl⟩
    | 2, _, _, ho =>
      obtain rfl := Option.some.inj ho
      have e1 : ρ (.tmp 10) = .pointer (some ⟨b, 0, none⟩) := hd 1 (by decide) (by decide)
      clear hd hq
      exact ⟨.pointer (some ⟨b, 2, none⟩), by simp only [execOp]; go_simp, rfl⟩
    | 3, _, _, ho =>
      obtain rfl := Option.some.inj ho
      have e2 : ρ (.tmp 11) = .pointer (some ⟨b, 2, none⟩) := hd 2 (by decide) (by decide)
      clear hd hq
      have cc2 := (cC V hC).2.1
      exact ⟨.int .i64 now, by simp only [execOp]; go_simp, rfl⟩
    | 4, _, _, ho =>
      obtain rfl := Option.some.inj ho
      clear hd hq
      exact ⟨.pointer (some ⟨b, 0, none⟩), by simp only [execOp]; go_simp, rfl⟩
    | 5, _, _, ho =>
      obtain rfl := Option.some.inj ho
      have e4 : ρ (.tmp 13) = .pointer (some ⟨b, 0, none⟩) := hd 4 (by decide) (by decide)
      clear hd hq
      exact ⟨.pointer (some ⟨b, 0, none⟩), by simp only [execOp]; go_simp, rfl⟩
    | 6, _, _, ho =>
      obtain rfl := Option.some.inj ho
      have e5 : ρ (.tmp 14) = .pointer (some ⟨b, 0, none⟩) := hd 5 (by decide) (by decide)
      clear hd hq
      exact ⟨.pointer (some ⟨b, 1, none⟩), by simp only [execOp]; go_simp, rfl⟩
    | 7, _, _, ho =>
      obtain rfl := Option.some.inj ho
      have e6 : ρ (.tmp 15) = .pointer (some ⟨b, 1, none⟩) := hd 6 (by decide) (by decide)
      clear hd hq
      have cc1 := (cC V hC).1
      exact ⟨.slice pa pz.length pc, by simp only [execOp]; go_simp, rfl⟩
    | 8, _, hq, _ => exact absurd rfl (hq 0 (by decide))
    | 9, _, hq, _ => exact absurd rfl (hq 1 (by decide))
    | k + 10, hi, _, _ => exact absurd hi (by omega)
  · intro t o ht ho a' V v hSV hv hoth hd K hK
    have oS0 : a'.eval (.tmp 0) = .pointer (some ⟨b, 0, none⟩) := hoth 0 (by decide)
    clear hoth
    match t, ht, ho, hSV, hv, hd, hK with
    | 0, _, ho, hSV, hv, hd, hK =>
      obtain rfl := Option.some.inj ho
      have hSV : (fun _ V => Below w.heap.size w V : Value → World → Prop) v V := hSV
      have hK : ∀ v' W', (fun v V => ∃ (bc mbc : Nat) (pvc : Value) (Fc : Nat → Prop), v = .pointer (some ⟨bc, 0, none⟩) ∧ TimI Fc V bc mbc pvc (fun _ => none) pz now [] 0 ∧ (∀ g, Fc g → w.heap.size ≤ g) ∧ Below w.heap.size w V : Value → World → Prop) v' W' → K (a'.put (some 17) v') W' := hK
      have e3 : a'.eval (.tmp 12) = .int .i64 now := hd 3 (by decide) (by decide)
      have e7 : a'.eval (.tmp 16) = .slice pa pz.length pc := hd 7 (by decide) (by decide)
      clear hd
      obtain ⟨ρ, hρ⟩ : ∃ ρ, ρ = a'.eval := ⟨_, rfl⟩
      have r3 : ρ (.tmp 12) = .int .i64 now := by rw [hρ]; exact e3
      have r7 : ρ (.tmp 16) = .slice pa pz.length pc := by rw [hρ]; exact e7
      have q0 : ρ (.tmp 0) = .pointer (some ⟨b, 0, none⟩) := by rw [hρ]; exact oS0
      have hf : ρ (.func 22) = .func (.func 22) #[] #[] := by rw [hρ]; rfl
      refine wp_enter (f := 22) (args := #[.int .i64 now, .slice pa pz.length pc]) (by rw [← hρ]; clear hρ; simp only [execOp]; go_simp) ((CA.out V hSV).mono ?_)
      rintro e w8 ⟨bc, mbc, pvc, Fc, rfl, ht, hF, hb⟩
      exact ⟨_, rfl, hK _ _ ⟨bc, mbc, pvc, Fc, rfl, ht, fun g hg => Nat.le_trans hSV.size (hF g hg), keep_below hSV hb⟩⟩
    | 1, _, ho, hSV, hv, hd, hK =>
      obtain rfl := Option.some.inj ho
      have hSV : (fun v V => ∃ (bc mbc : Nat) (pvc : Value) (Fc : Nat → Prop), v = .pointer (some ⟨bc, 0, none⟩) ∧ TimI Fc V bc mbc pvc (fun _ => none) pz now [] 0 ∧ (∀ g, Fc g → w.heap.size ≤ g) ∧ Below w.heap.size w V : Value → World → Prop) v V := hSV
      have hK : ∀ v' W', (fun v V => ∃ (bc mbc : Nat) (pvc : Value) (Fc : Nat → Prop), v = .pointer (some ⟨bc, 0, none⟩) ∧ TimI Fc V bc mbc pvc (fun _ => none) pz now [] 0 ∧ (∀ g, Fc g → w.heap.size ≤ g) ∧ Below w.heap.size w V : Value → World → Prop) v' W' → K (a'.put (some 3) v') W' := hK
      have hv : v = a'.eval (.tmp 17) := hv (by decide)
      clear hd
      obtain ⟨ρ, hρ⟩ : ∃ ρ, ρ = a'.eval := ⟨_, rfl⟩
      have q0 : ρ (.tmp 0) = .pointer (some ⟨b, 0, none⟩) := by rw [hρ]; exact oS0
      exact wp_value (v := v) (w' := V) (by simp only [execOp]; rw [hv]; rfl) (hK _ _ hSV)
    | k + 2, ht, _, _, _, _, _ => exact absurd ht (by omega)
  · intro a' V hsz hdef hoth hS
    have hS : (fun v V => ∃ (bc mbc : Nat) (pvc : Value) (Fc : Nat → Prop), v = .pointer (some ⟨bc, 0, none⟩) ∧ TimI Fc V bc mbc pvc (fun _ => none) pz now [] 0 ∧ (∀ g, Fc g → w.heap.size ≤ g) ∧ Below w.heap.size w V : Value → World → Prop) (a'.eval (.tmp 3)) V := hS
    have hcov : ∀ i, i ≤ 9 → 9 ≤ (fun i => ([9, 10, 11, 12, 13, 14, 15, 16, 17, 3] : List Nat).getD i 0) i ∧ (fun i => ([9, 10, 11, 12, 13, 14, 15, 16, 17, 3] : List Nat).getD i 0) i < 18 ∨ (fun i => ([9, 10, 11, 12, 13, 14, 15, 16, 17, 3] : List Nat).getD i 0) i = 3 := by decide
    obtain ⟨v9, hv9⟩ : ∃ v, a'.eval (.tmp 3) = v := ⟨_, rfl⟩
    rw [hv9] at hS
    obtain ⟨us, hu1, rfl⟩ := act_mix1 9 9 3 v9 rfl hsz hdef (by simp) (by simp) hv9 (by decide) (fun k hkd hk => by
      by_cases hkT : k = 36
      · subst hkT; unfold Act.eval; simp [hsz]
      · exact hoth k (fun i hi => by have := hcov i hi; dsimp only at this ⊢; omega))
    match us, hu1 with
    | u9 :: u10 :: u11 :: u12 :: u13 :: u14 :: u15 :: u16 :: u17 :: [], _ =>
      obtain ⟨bc, mbc, pvc, Fc, hv9', htc, hFc, hbc⟩ := hS
      subst hv9'
      obtain ⟨c1', c2', c3'⟩ := cC V hbc
      have hmpg := HT.out.mpg.at_block (hbc.block mb hmb)
      have htc0 := Lib.hid htc
      have HF := Lib.hid hFc
      have HB := Lib.hid hbc
      have hvsz := hbc.size
      have hbcl := htc.lt bc htc.inb
      have hmbcl := htc.lt mbc htc.inm
      have hmbF := HF.out mbc htc0.out.inm
      clear htc hFc hbc c1 c2 c3 c1' c2'
      go_wp2_with (first
        | (at_range; refine wpList_range_mp _ rfl _ 51 rfl 3 33 Try.underlying3 Try.underlying51 mb n M rfl hmpg ?_; intro w0 cnt0 hrg0 hcn0 hg0 hs0)
        | go_in)
      try go_frame
      go_loopw [4] (fun _ wr => ∃ (left : Int → Bool) (cnt j : Nat) (Fk : Nat → Prop) (Mc : Int → Option Value), RgG Try.prog 3 wr mb V.heap.size n M left cnt ∧ j + cnt ≤ n ∧ MpG Try.prog 3 wr mbc j Mc ∧ TimI Fk wr bc mbc pvc Mc pz now (L.filter (fun x => !left x.2)) n ∧
          (∀ s, left s = true → Mc s = none) ∧ (∀ g, Fk g → w.heap.size ≤ g ∧ g ≠ V.heap.size) ∧ Below w.heap.size w wr ∧ V.heap.size + 1 ≤ wr.heap.size) (fun _ wr => wr.rangeLeft mb V.heap.size)
      case atStart =>
        have e0 : (L.filter (fun x => !(M x.2).isSome)) = [] := by
          rw [List.filter_eq_nil_iff]
          intro x hx
          rw [HT.out.someAt x hx]
          simp
        have hk := htc0.out.kept (w' := w0) hg0.size (fun g hg => hg0.block g (htc0.out.lt g hg) (by simp))
        refine ⟨_, cnt0, 0, _, _, hrg0, by omega, hk.mpg, ?_, fun _ _ => rfl, fun g hg => ⟨HF.out g hg, fun e => by have := htc0.out.lt g hg; omega⟩, HB.out.grown hg0 hvsz (fun j hj => by cases hj), by omega⟩
        rw [e0]
        exact hk.mono (Nat.zero_le n)
      case round =>
        obtain ⟨left, cnt, jn, Fk, Mc, hrg, hjn, hmc, htk, hleft, hFk, hbl, hsz⟩ := hrel
        have HTK := Lib.hid htk
        have HLE := Lib.hid hleft
        have HFK := Lib.hid hFk
        have HMC := Lib.hid hmc
        have HBL := Lib.hid hbl
        clear htk hleft hFk hmc hbl
        go_wp2_with (first
          | (at_next; refine wpList_next_mp _ rfl _ rfl 3 Try.underlying3 mb V.heap.size n M left cnt rfl hrg ?_ ?_)
          | go_in)
        · intro hc0 hl0
          have HE : Hid (L.filter (fun x => !left x.2) = L) := List.filter_eq_self.2 (by intro x _; rw [hl0]; rfl)
          clear hl0
          go_wp2
          go_ret
          have ht := HTK.out
          rw [HE.out] at ht
          exact ⟨bc, Fk, rfl, ⟨mbc, pvc, Mc, ht⟩, fun g hg => (HFK.out g hg).1, HBL.out⟩
        · intro s0 va vn vc w1 cnt1 hws hls hMs hrg1 hlt1 hg1 hs1 hen
          obtain ⟨hvn, g, rfl, hFg, hgl, hrow⟩ := HT.out.sliceAt hMs
          subst hvn
          have HDS := Lib.hid (fun t => due_step left hls t L)
          generalize hD : dueL s0 L = D at hrow HDS
          rw [hD] at hen hMs
          have HB1 : Hid (Below w.heap.size w w1) := HBL.out.grown hg1 (by omega) (fun j hj => by cases hj; exact hvsz)
          have hkp : ∀ g, Fk g → w1.heap[g]? = wr.heap[g]? := fun g hg => hg1.block g (HTK.out.lt g hg) (fun e => (HFK.out g hg).2 (Option.some.inj e))
          have HT1 := Lib.hid (HTK.out.kept hg1.size hkp)
          have HM1 := Lib.hid (HMC.out.at_block (hkp mbc HTK.out.inm))
          have HRO : Hid (w1.ownsRow 0 48 2 (.slice (some ⟨g, 0, none⟩) D.length vc) D.length (duC D)) := own_keep hrow HB1.out
          have hDl : D.length ≤ n := by rw [← hD]; exact Nat.le_trans (due_len _ _) HT.out.len
          have HRG := Lib.hid hrg1
          have HMs := Lib.hid (HLE.out s0 hls)
          have HLS := Lib.hid hls
          have hbcell := HT1.out.cells.2.2.2.1
          have hbc1 := HT1.out.lt bc HT1.out.inb
          have hmbc1 := HT1.out.lt mbc HT1.out.inm
          have hmbw : mb ≠ mbc := by omega
          have hm9 : V.heap.size + 1 ≤ w1.heap.size := by omega
          have hrne : V.heap.size ≠ mbc := fun e => (HFK.out mbc HTK.out.inm).2 e.symm
          have cK : ∀ V' : World, Below w1.heap.size w1 V' → V'.cell? ⟨bc, 3, none⟩ = some (.map (some mbc)) := fun V' hV => keep_cell hV hbcell
          clear hs1 hrow hMs hrg1 hD hkp hls
          go_wp2_with fail
          refine region_chain 36 7 2 (fun t => ([6, 7] : List Nat).getD t 0) (fun i => ([28, 29, 30, 31, 32, 33, 34, 36] : List Nat).getD i 0) (fun i => ([[], [0], [1], [2], [], [], [5], [3, 4, 6]] : List (List Nat)).getD i []) (fun i v => ([(fun v : Value => v = .pointer (some ⟨bc, 0, none⟩)), (fun v : Value => v = .pointer (some ⟨bc, 0, none⟩)), (fun v : Value => v = .pointer (some ⟨bc, 3, none⟩)), (fun v : Value => v = .map (some mbc)), (fun v : Value => v = .int .i64 s0), (fun v : Value => v = .slice (some ⟨g, 0, none⟩) D.length vc), (fun _ : Value => True), (fun _ : Value => True)] : List (Value → Prop)).getD i (fun _ => True) v) (fun t v V9 => ([(fun _ V9 => Below w1.heap.size w1 V9 ∧ V9.heap.size = w1.heap.size), (fun v V9 => Below w1.heap.size w1 V9 ∧ V9.ownsRow w1.heap.size 48 2 v D.length (duC D) ∧ v ≠ .slice none 0 0), (fun _ V9 => ∃ v V2, (Below w1.heap.size w1 V2 ∧ V2.ownsRow w1.heap.size 48 2 v D.length (duC D) ∧ v ≠ .slice none 0 0) ∧ MpG Try.prog 3 V9 mbc (jn + 1) (updM Mc s0 (some v)) ∧ V2.grownBy V9 (some mbc))] : List (Value → World → Prop)).getD t (fun _ _ => False) v V9) (by kernel_rfl) rfl (fun i j hi hj => (by decide : ∀ i, i ≤ 7 → ∀ j, j ≤ 7 → (fun i => ([28, 29, 30, 31, 32, 33, 34, 36] : List Nat).getD i 0) i = (fun i => ([28, 29, 30, 31, 32, 33, 34, 36] : List Nat).getD i 0) j → i = j) i hi j hj) rfl (by decide) rfl (fun s t hs ht => (by decide : ∀ s, s < 2 → ∀ t, t < 2 → (fun t => ([6, 7] : List Nat).getD t 0) s = (fun t => ([6, 7] : List Nat).getD t 0) t → s = t) s hs t ht) (by decide) (fun t ht => (by decide : ∀ t, t < 1 → (fun t => ([6, 7] : List Nat).getD t 0) t ∈ (fun i => ([[], [0], [1], [2], [], [], [5], [3, 4, 6]] : List (List Nat)).getD i []) ((fun t => ([6, 7] : List Nat).getD t 0) (t + 1))) t (by omega)) ?_ ?_ ?_ ?_ ⟨⟨rfl, rfl, rfl, Nat.le_refl _, fun _ _ => rfl⟩, rfl⟩ ?_
          · intro i o ho
            match i, ho with
            | 0, ho => obtain rfl := Option.some.inj ho; exact ⟨Or.inl ⟨rfl, by decide⟩, rfl, by decide, by decide⟩
            | 1, ho => obtain rfl := Option.some.inj ho; exact ⟨Or.inl ⟨rfl, by decide⟩, rfl, by decide, by decide⟩
            | 2, ho => obtain rfl := Option.some.inj ho; exact ⟨Or.inl ⟨rfl, by decide⟩, rfl, by decide, by decide⟩
            | 3, ho => obtain rfl := Option.some.inj ho; exact ⟨Or.inl ⟨rfl, by decide⟩, rfl, by decide, by decide⟩
            | 4, ho => obtain rfl := Option.some.inj ho; exact ⟨Or.inl ⟨rfl, by decide⟩, rfl, by decide, by decide⟩
            | 5, ho => obtain rfl := Option.some.inj ho; exact ⟨Or.inl ⟨rfl, by decide⟩, rfl, by decide, by decide⟩
            | 6, ho => obtain rfl := Option.some.inj ho; exact ⟨Or.inl ⟨rfl, by decide⟩, rfl, by decide, by decide⟩
            | 7, ho => obtain rfl := Option.some.inj ho; exact ⟨Or.inr ⟨rfl, rfl, fun _ _ _ h => h⟩, rfl, by decide, by decide⟩
            | k + 8, ho => simp at ho
          · intro i hi
            match i, hi with
            | 0, _ => exact ⟨1, by decide, by decide, by decide⟩
            | 1, _ => exact ⟨2, by decide, by decide, by decide⟩
            | 2, _ => exact ⟨3, by decide, by decide, by decide⟩
            | 3, _ => exact ⟨7, by decide, by decide, by decide⟩
            | 4, _ => exact ⟨7, by decide, by decide, by decide⟩
            | 5, _ => exact ⟨6, by decide, by decide, by decide⟩
            | 6, _ => exact ⟨7, by decide, by decide, by decide⟩
            | k + 7, hi => omega
          · intro i o hi hq ho a' V9 j v hj hSV hoth hd
            have hC : (fun V9 : World => Below w1.heap.size w1 V9) V9 := by
              match j, hj, hSV with
              | 0, _, h => exact h.1
              | 1, _, h => exact h.1
              | k + 2, hj, _ => omega
            clear hSV hj
            have oS3 : a'.eval (.tmp 3) = .pointer (some ⟨bc, 0, none⟩) := hoth 3 (by decide)
            have oS4 : a'.eval (.tmp 4) = .int .i64 s0 := hoth 4 (by decide)
            have oS5 : a'.eval (.tmp 5) = .slice (some ⟨g, 0, none⟩) D.length vc := hoth 5 (by decide)
            clear hoth
            obtain ⟨ρ, hρ⟩ : ∃ ρ, ρ = a'.eval := ⟨_, rfl⟩
            have hc : ∀ v, ρ (.const v) = v := fun v => by rw [hρ]; rfl
            simp only [← hρ] at hd ⊢
            rw [← hρ] at oS3
            rw [← hρ] at oS4
            rw [← hρ] at oS5
            clear hρ
            match i, hi, hq, ho with
            | 0, _, _, ho =>
              obtain rfl := Option.some.inj ho
              clear hd hq
              exact ⟨.pointer (some ⟨bc, 0, none⟩), by simp only [execOp]; go_simp, rfl⟩
            | 1, _, _, ho =>
              obtain rfl := Option.some.inj ho
              have e0 : ρ (.tmp 28) = .pointer (some ⟨bc, 0, none⟩) := hd 0 (by decide) (by decide)
              clear hd hq
              exact ⟨.pointer (some ⟨bc, 0, none⟩), by simp only [execOp]; go_simp, rfl⟩
            | 2, _, _, ho =>
              obtain rfl := Option.some.inj ho
              have e1 : ρ (.tmp 29) = .pointer (some ⟨bc, 0, none⟩) := hd 1 (by decide) (by decide)
              clear hd hq
              exact ⟨.pointer (some ⟨bc, 3, none⟩), by simp only [execOp]; go_simp, rfl⟩
            | 3, _, _, ho =>
              obtain rfl := Option.some.inj ho
              have e2 : ρ (.tmp 30) = .pointer (some ⟨bc, 3, none⟩) := hd 2 (by decide) (by decide)
              clear hd hq
              have cc3 := cK V9 hC
              exact ⟨.map (some mbc), by simp only [execOp]; go_simp, rfl⟩
            | 4, _, _, ho =>
              obtain rfl := Option.some.inj ho
              clear hd hq
              exact ⟨.int .i64 s0, by simp only [execOp]; go_simp, rfl⟩
            | 5, _, _, ho =>
              obtain rfl := Option.some.inj ho
              clear hd hq
              exact ⟨.slice (some ⟨g, 0, none⟩) D.length vc, by simp only [execOp]; go_simp, rfl⟩
            | 6, _, hq, _ => exact absurd rfl (hq 0 (by decide))
            | 7, _, hq, _ => exact absurd rfl (hq 1 (by decide))
            | k + 8, hi, _, _ => exact absurd hi (by omega)
          · intro t o ht ho a' V9 v hSV hv hoth hd K hK
            have oS3 : a'.eval (.tmp 3) = .pointer (some ⟨bc, 0, none⟩) := hoth 3 (by decide)
            have oS4 : a'.eval (.tmp 4) = .int .i64 s0 := hoth 4 (by decide)
            have oS5 : a'.eval (.tmp 5) = .slice (some ⟨g, 0, none⟩) D.length vc := hoth 5 (by decide)
            clear hoth
            match t, ht, ho, hSV, hv, hd, hK with
            | 0, _, ho, hSV, hv, hd, hK =>
              obtain rfl := Option.some.inj ho
              have hSV : (fun _ V9 => Below w1.heap.size w1 V9 ∧ V9.heap.size = w1.heap.size : Value → World → Prop) v V9 := hSV
              have hK : ∀ v' W', (fun v V9 => Below w1.heap.size w1 V9 ∧ V9.ownsRow w1.heap.size 48 2 v D.length (duC D) ∧ v ≠ .slice none 0 0 : Value → World → Prop) v' W' → K (a'.put (some 34) v') W' := hK
              have e5 : a'.eval (.tmp 33) = .slice (some ⟨g, 0, none⟩) D.length vc := hd 5 (by decide) (by decide)
              clear hd
              obtain ⟨ρ, hρ⟩ : ∃ ρ, ρ = a'.eval := ⟨_, rfl⟩
              have r5 : ρ (.tmp 33) = .slice (some ⟨g, 0, none⟩) D.length vc := by rw [hρ]; exact e5
              have q3 : ρ (.tmp 3) = .pointer (some ⟨bc, 0, none⟩) := by rw [hρ]; exact oS3
              have q4 : ρ (.tmp 4) = .int .i64 s0 := by rw [hρ]; exact oS4
              have q5 : ρ (.tmp 5) = .slice (some ⟨g, 0, none⟩) D.length vc := by rw [hρ]; exact oS5
              have CC := Try.slices_Clone_due i0 (.agg #[.int .i64 0, .int .i64 0]) 2 16 hi0 hz0 hz1 hz2 rfl (by decide) Try.sizeOf48 g 0 D.length vc (duC D) V9 (duC_len D) (by unfold maxLen; omega) (by omega) (fun j0 u0 hj0 => by have := (own_keep HRO.out hSV.1).cells (g := g) rfl j0 u0 hj0; rw [add_plain', Nat.zero_add] at this; rw [Nat.zero_add]; exact this) (duC_cell D)
              have hf : ρ (.func 24) = .func (.func 24) #[] #[] := by rw [hρ]; rfl
              refine wp_enter (f := 24) (args := #[.slice (some ⟨g, 0, none⟩) D.length vc]) (by rw [← hρ]; clear hρ; simp only [execOp]; go_simp) (CC.mono ?_)
              rintro e w8 ⟨v8, rfl, ho8, hn8, hb8⟩
              rw [hSV.2] at ho8
              exact ⟨_, rfl, hK _ _ ⟨keep_below hSV.1 hb8, ho8, hn8⟩⟩
            | 1, _, ho, hSV, hv, hd, hK =>
              obtain rfl := Option.some.inj ho
              have hSV : (fun v V9 => Below w1.heap.size w1 V9 ∧ V9.ownsRow w1.heap.size 48 2 v D.length (duC D) ∧ v ≠ .slice none 0 0 : Value → World → Prop) v V9 := hSV
              have hK : ∀ v' W', (fun _ V9 => ∃ v V2, (Below w1.heap.size w1 V2 ∧ V2.ownsRow w1.heap.size 48 2 v D.length (duC D) ∧ v ≠ .slice none 0 0) ∧ MpG Try.prog 3 V9 mbc (jn + 1) (updM Mc s0 (some v)) ∧ V2.grownBy V9 (some mbc) : Value → World → Prop) v' W' → K (a'.put none v') W' := hK
              have e3 : a'.eval (.tmp 31) = .map (some mbc) := hd 3 (by decide) (by decide)
              have e4 : a'.eval (.tmp 32) = .int .i64 s0 := hd 4 (by decide) (by decide)
              have hv : v = a'.eval (.tmp 34) := hv (by decide)
              clear hd
              obtain ⟨ρ, hρ⟩ : ∃ ρ, ρ = a'.eval := ⟨_, rfl⟩
              have r3 : ρ (.tmp 31) = .map (some mbc) := by rw [hρ]; exact e3
              have r4 : ρ (.tmp 32) = .int .i64 s0 := by rw [hρ]; exact e4
              have q3 : ρ (.tmp 3) = .pointer (some ⟨bc, 0, none⟩) := by rw [hρ]; exact oS3
              have q4 : ρ (.tmp 4) = .int .i64 s0 := by rw [hρ]; exact oS4
              have q5 : ρ (.tmp 5) = .slice (some ⟨g, 0, none⟩) D.length vc := by rw [hρ]; exact oS5
              obtain ⟨hb1, ho1, hn1⟩ := hSV
              obtain ⟨dd, hdd⟩ := own_slE ho1
              exact wp_update_mp V9 (.tmp 31) (.tmp 32) (.tmp 34) 51 rfl 3 33 Try.underlying3 Try.underlying51 mbc jn Mc e3 (HM1.out.at_block (hb1.block mbc hmbc1)) (by unfold maxLen; omega) s0 e4 hws v hv.symm dd hdd (fun W' h1 h2 => hK undef W' ⟨v, V9, ⟨hb1, ho1, hn1⟩, h1, h2⟩)
            | k + 2, ht, _, _, _, _, _ => exact absurd ht (by omega)
          · intro a' V9 hsz hdef hoth hS
            have hS : (fun _ V9 => ∃ v V2, (Below w1.heap.size w1 V2 ∧ V2.ownsRow w1.heap.size 48 2 v D.length (duC D) ∧ v ≠ .slice none 0 0) ∧ MpG Try.prog 3 V9 mbc (jn + 1) (updM Mc s0 (some v)) ∧ V2.grownBy V9 (some mbc) : Value → World → Prop) (a'.eval (.tmp 36)) V9 := hS
            have hcov : ∀ i, i ≤ 7 → 28 ≤ (fun i => ([28, 29, 30, 31, 32, 33, 34, 36] : List Nat).getD i 0) i ∧ (fun i => ([28, 29, 30, 31, 32, 33, 34, 36] : List Nat).getD i 0) i < 35 ∨ (fun i => ([28, 29, 30, 31, 32, 33, 34, 36] : List Nat).getD i 0) i = 36 := by decide
            obtain ⟨us, hu1, hu2, rfl⟩ := act_mix 28 7 rfl hsz hdef (by simp) (fun k hk => by
              by_cases hkT : k = 36
              · subst hkT; unfold Act.eval; simp [hsz]
              · exact hoth k (fun i hi => by have := hcov i hi; dsimp only at this ⊢; omega))
            match us, hu1 with
            | u28 :: u29 :: u30 :: u31 :: u32 :: u33 :: u34 :: [], _ =>
              have HS := Lib.hid hS
              clear hS
              obtain ⟨v', V2, ⟨hb2, ho2, hv2⟩, hm2, hg2⟩ := HS.out
              have hlay := HT1.out.lay HMs.out hb2 ho2 hv2 (hm2.mono (by omega)) hg2 HDS.out (Nat.le_trans (List.length_filter_le _ _) HT.out.len)
              have HR2 := Lib.hid (HRG.out.at_block ((hg2.block mb (Nat.lt_of_lt_of_le HRG.out.owns.lt hb2.size) (fun e => hmbw (Option.some.inj e))).trans (hb2.block mb HRG.out.owns.lt)) ((hg2.block _ (Nat.lt_of_lt_of_le HRG.out.lt hb2.size) (fun e => hrne (Option.some.inj e))).trans (hb2.block _ HRG.out.lt)))
              have HLY := Lib.hid hlay
              have HB2 : Hid (Below w.heap.size w V9) := (keep_below HB1.out hb2).grown hg2 (Nat.le_trans HB1.out.size hb2.size) (fun j hj => by cases hj; exact hmbF)
              have hszf : V.heap.size + 1 ≤ V9.heap.size := Nat.le_trans hm9 (Nat.le_trans hb2.size hg2.size)
              have HM2 := Lib.hid hm2
              clear hlay hb2 ho2 hv2 hm2 hg2
              go_wp2
              go_roundw
              case rel =>
                refine ⟨_, cnt1, HR2.out, jn + 1, by omega, _, _, HM2.out, HLY.out, fun t ht => ?_, fun g hg => ?_, HB2.out⟩
                · simp at ht
                  unfold updM
                  rw [if_neg ht.2]
                  exact HLE.out t ht.1
                · rcases hg.1 with h1 | h1
                  · exact HFK.out g h1
                  · have := HB1.out.size
                    exact ⟨by omega, by omega⟩
              case measure => rw [HR2.out.left_eq, hrg.left_eq]; exact hlt1
end Go.Proofs.Ytdhchfmefdlloaa
