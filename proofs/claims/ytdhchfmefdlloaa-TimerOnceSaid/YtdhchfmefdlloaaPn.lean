/- What is proved here: the contract of the laws' Plain. Conditions: the row is not too long. -/
import Derived.Test.YtdhchfmefdlloaaMo
namespace Go.Proofs.Ytdhchfmefdlloaa
open Go.ChangeShapes Go.WideShapes Go.RowKit

set_option maxHeartbeats 2000000 in
set_option maxRecDepth 100000 in
theorem plain_any (a : Option Addr) (n c : Nat) (l : List (Int × Int)) (w : World) (hr : RowP w a n l) (hn : n ≤ 1000000000000) :
    Calls Try.prog 17 #[.slice a n c] w fun e w' => ∃ a' c', e = .returned (.slice a' n c') ∧ RowP w' a' n l ∧ Below w.heap.size w w' := by
  have HL := Lib.hid hr.1
  obtain ⟨i0, hi0, hz0, hz1, hz2⟩ := info_parts rdue_info
  have hm : n ≤ 9223372036854775807 := by omega
  go_enter Try.func17, Try.ntmps17
  go_wp2
  go_loopw [3, 4] (fun s i wr => ∃ (k : Nat) (v : Value), k ≤ n ∧ s = v ∧ i = .int .i64 k ∧ wr.ownsRow w.heap.size 58 2 v k (duC (l.take k)) ∧ Below w.heap.size w wr) (fun _ i _ => n - (intOf i).toNat)
  case atStart => exact ⟨0, _, by omega, rfl, rfl, World.ownsRow_nil _ _ _ _, Below.refl _ _⟩
  case round =>
    obtain ⟨k, v0, hk, hs0, rfl, hown, hbl⟩ := hrel
    have hs0 := hs0.symm
    subst hs0
    by_cases hlt : k < n
    · obtain ⟨b1, o1, u, rfl, hB1, hx, h0, h1⟩ := hr.item (Below.refl _ _) hlt
      have HV2 : Hid (duC (l.take (k + 1)) = duC (l.take k) ++ encP u) := by show _ = _; rw [take_cat hx, duC_append, duC_one]
      have H0 := Lib.hid h0
      have H1 := Lib.hid h1
      have HOW := Lib.hid hown
      have HB := Lib.hid hbl
      have i1 : (0 : Int) ≤ (k : Int) := by omega
      have i2 : (k : Int) < (n : Int) := by omega
      clear hx h0 h1 hown hbl
      go_wp2_with fail
      refine region_chain 26 14 3 (fun t => ([12, 13, 14] : List Nat).getD t 0) (fun i => ([11, 12, 13, 14, 15, 16, 17, 18, 19, 20, 21, 22, 23, 24, 3] : List Nat).getD i 0) (fun i => ([[], [], [], [1, 2], [3], [4], [], [], [6, 7], [8], [9], [5, 10], [11], [0, 12], [13]] : List (List Nat)).getD i []) (fun i v => ([(fun v : Value => v = v0), (fun v : Value => v = .slice (some ⟨b1, o1, none⟩) n c), (fun v : Value => v = .int .i64 (k : Int)), (fun v : Value => v = .pointer (some ⟨b1, o1 + k * 2, none⟩)), (fun v : Value => v = .pointer (some ⟨b1, o1 + k * 2, none⟩)), (fun v : Value => v = .int .i64 u.1), (fun v : Value => v = .slice (some ⟨b1, o1, none⟩) n c), (fun v : Value => v = .int .i64 (k : Int)), (fun v : Value => v = .pointer (some ⟨b1, o1 + k * 2, none⟩)), (fun v : Value => v = .pointer (some ⟨b1, o1 + k * 2 + 1, none⟩)), (fun v : Value => v = .int .i64 u.2), (fun v : Value => v = .agg #[.int .i64 u.1, .int .i64 u.2]), (fun _ : Value => True), (fun _ : Value => True), (fun _ : Value => True)] : List (Value → Prop)).getD i (fun _ => True) v) (fun t v V => ([(fun _ V => Below w.heap.size w V ∧ V.ownsRow w.heap.size 58 2 v0 k (duC (l.take k))), (fun v V => Below w.heap.size w V ∧ V.ownsRow w.heap.size 58 2 v0 k (duC (l.take k)) ∧ ∃ g, v = .slice (some ⟨g, 0, none⟩) 1 1 ∧ ∀ j x, ([.int .i64 u.1, .int .i64 u.2] : List Value)[j]? = some x → V.cell? ⟨g, j, none⟩ = some x), (fun v V => Below w.heap.size w V ∧ V.ownsRow w.heap.size 58 2 v (k + 1) (duC (l.take (k + 1)))), (fun v V => Below w.heap.size w V ∧ V.ownsRow w.heap.size 58 2 v (k + 1) (duC (l.take (k + 1))))] : List (Value → World → Prop)).getD t (fun _ _ => False) v V) (by kernel_rfl) rfl (fun i j hi hj => (by decide : ∀ i, i ≤ 14 → ∀ j, j ≤ 14 → (fun i => ([11, 12, 13, 14, 15, 16, 17, 18, 19, 20, 21, 22, 23, 24, 3] : List Nat).getD i 0) i = (fun i => ([11, 12, 13, 14, 15, 16, 17, 18, 19, 20, 21, 22, 23, 24, 3] : List Nat).getD i 0) j → i = j) i hi j hj) rfl (by decide) rfl (fun s t hs ht => (by decide : ∀ s, s < 3 → ∀ t, t < 3 → (fun t => ([12, 13, 14] : List Nat).getD t 0) s = (fun t => ([12, 13, 14] : List Nat).getD t 0) t → s = t) s hs t ht) (by decide) (fun t ht => (by decide : ∀ t, t < 2 → (fun t => ([12, 13, 14] : List Nat).getD t 0) t ∈ (fun i => ([[], [], [], [1, 2], [3], [4], [], [], [6, 7], [8], [9], [5, 10], [11], [0, 12], [13]] : List (List Nat)).getD i []) ((fun t => ([12, 13, 14] : List Nat).getD t 0) (t + 1))) t (by omega)) ?_ ?_ ?_ ?_ ⟨HB.out.trans ⟨rfl, rfl, rfl, Nat.le_refl _, fun _ _ => rfl⟩, own_keep HOW.out ⟨rfl, rfl, rfl, Nat.le_refl _, fun _ _ => rfl⟩⟩ ?_
      · intro i o ho
        match i, ho with
        | 0, ho => obtain rfl := Option.some.inj ho; exact ⟨Or.inl ⟨rfl, by decide⟩, rfl, by decide, by decide⟩
        | 1, ho => obtain rfl := Option.some.inj ho; exact ⟨Or.inl ⟨rfl, by decide⟩, rfl, by decide, by decide⟩
        | 2, ho => obtain rfl := Option.some.inj ho; exact ⟨Or.inl ⟨rfl, by decide⟩, rfl, by decide, by decide⟩
        | 3, ho => obtain rfl := Option.some.inj ho; exact ⟨Or.inl ⟨rfl, by decide⟩, rfl, by decide, by decide⟩
        | 4, ho => obtain rfl := Option.some.inj ho; exact ⟨Or.inl ⟨rfl, by decide⟩, rfl, by decide, by decide⟩
        | 5, ho => obtain rfl := Option.some.inj ho; exact ⟨Or.inl ⟨rfl, by decide⟩, rfl, by decide, by decide⟩
        | 6, ho => obtain rfl := Option.some.inj ho; exact ⟨Or.inl ⟨rfl, by decide⟩, rfl, by decide, by decide⟩
        | 7, ho => obtain rfl := Option.some.inj ho; exact ⟨Or.inl ⟨rfl, by decide⟩, rfl, by decide, by decide⟩
        | 8, ho => obtain rfl := Option.some.inj ho; exact ⟨Or.inl ⟨rfl, by decide⟩, rfl, by decide, by decide⟩
        | 9, ho => obtain rfl := Option.some.inj ho; exact ⟨Or.inl ⟨rfl, by decide⟩, rfl, by decide, by decide⟩
        | 10, ho => obtain rfl := Option.some.inj ho; exact ⟨Or.inl ⟨rfl, by decide⟩, rfl, by decide, by decide⟩
        | 11, ho => obtain rfl := Option.some.inj ho; exact ⟨Or.inl ⟨rfl, by decide⟩, rfl, by decide, by decide⟩
        | 12, ho => obtain rfl := Option.some.inj ho; exact ⟨Or.inl ⟨rfl, by decide⟩, rfl, by decide, by decide⟩
        | 13, ho => obtain rfl := Option.some.inj ho; exact ⟨Or.inl ⟨rfl, by decide⟩, rfl, by decide, by decide⟩
        | 14, ho => obtain rfl := Option.some.inj ho; exact ⟨Or.inl ⟨rfl, by decide⟩, rfl, by decide, by decide⟩
        | k + 15, ho => simp at ho
      · intro i hi
        match i, hi with
        | 0, _ => exact ⟨13, by decide, by decide, by decide⟩
        | 1, _ => exact ⟨3, by decide, by decide, by decide⟩
        | 2, _ => exact ⟨3, by decide, by decide, by decide⟩
        | 3, _ => exact ⟨4, by decide, by decide, by decide⟩
        | 4, _ => exact ⟨5, by decide, by decide, by decide⟩
        | 5, _ => exact ⟨11, by decide, by decide, by decide⟩
        | 6, _ => exact ⟨8, by decide, by decide, by decide⟩
        | 7, _ => exact ⟨8, by decide, by decide, by decide⟩
        | 8, _ => exact ⟨9, by decide, by decide, by decide⟩
        | 9, _ => exact ⟨10, by decide, by decide, by decide⟩
        | 10, _ => exact ⟨11, by decide, by decide, by decide⟩
        | 11, _ => exact ⟨12, by decide, by decide, by decide⟩
        | 12, _ => exact ⟨13, by decide, by decide, by decide⟩
        | 13, _ => exact ⟨14, by decide, by decide, by decide⟩
        | k + 14, hi => omega
      · intro i o hi hq ho a' V j v hj hSV hoth hd
        have hC : (fun V : World => Below w.heap.size w V) V := by
          match j, hj, hSV with
          | 0, _, h => exact h.1
          | 1, _, h => exact h.1
          | 2, _, h => exact h.1
          | k + 3, hj, _ => omega
        clear hSV hj
        have oS0 : a'.eval (.tmp 0) = .slice (some ⟨b1, o1, none⟩) n c := hoth 0 (by decide)
        have oS3 : a'.eval (.tmp 3) = v0 := hoth 3 (by decide)
        have oS4 : a'.eval (.tmp 4) = .int .i64 (k : Int) := hoth 4 (by decide)
        clear hoth
        obtain ⟨ρ, hρ⟩ : ∃ ρ, ρ = a'.eval := ⟨_, rfl⟩
        have hc : ∀ v, ρ (.const v) = v := fun v => by rw [hρ]; rfl
        simp only [← hρ] at hd ⊢
        rw [← hρ] at oS0
        rw [← hρ] at oS3
        rw [← hρ] at oS4
        clear hρ
        match i, hi, hq, ho with
        | 0, _, _, ho =>
          obtain rfl := Option.some.inj ho
          clear hd hq
          exact ⟨v0, by simp only [execOp]; go_simp, rfl⟩
        | 1, _, _, ho =>
          obtain rfl := Option.some.inj ho
          clear hd hq
          exact ⟨.slice (some ⟨b1, o1, none⟩) n c, by simp only [execOp]; go_simp, rfl⟩
        | 2, _, _, ho =>
          obtain rfl := Option.some.inj ho
          clear hd hq
          exact ⟨.int .i64 (k : Int), by simp only [execOp]; go_simp, rfl⟩
        | 3, _, _, ho =>
          obtain rfl := Option.some.inj ho
          have e1 : ρ (.tmp 12) = .slice (some ⟨b1, o1, none⟩) n c := hd 1 (by decide) (by decide)
          have e2 : ρ (.tmp 13) = .int .i64 (k : Int) := hd 2 (by decide) (by decide)
          clear hd hq
          exact ⟨.pointer (some ⟨b1, o1 + k * 2, none⟩), by simp only [execOp]; go_simp, rfl⟩
        | 4, _, _, ho =>
          obtain rfl := Option.some.inj ho
          have e3 : ρ (.tmp 14) = .pointer (some ⟨b1, o1 + k * 2, none⟩) := hd 3 (by decide) (by decide)
          clear hd hq
          exact ⟨.pointer (some ⟨b1, o1 + k * 2, none⟩), by simp only [execOp]; go_simp, rfl⟩
        | 5, _, _, ho =>
          obtain rfl := Option.some.inj ho
          have e4 : ρ (.tmp 15) = .pointer (some ⟨b1, o1 + k * 2, none⟩) := hd 4 (by decide) (by decide)
          clear hd hq
          have c0 := keep_cell hC H0.out
          exact ⟨.int .i64 u.1, by simp only [execOp]; go_simp, rfl⟩
        | 6, _, _, ho =>
          obtain rfl := Option.some.inj ho
          clear hd hq
          exact ⟨.slice (some ⟨b1, o1, none⟩) n c, by simp only [execOp]; go_simp, rfl⟩
        | 7, _, _, ho =>
          obtain rfl := Option.some.inj ho
          clear hd hq
          exact ⟨.int .i64 (k : Int), by simp only [execOp]; go_simp, rfl⟩
        | 8, _, _, ho =>
          obtain rfl := Option.some.inj ho
          have e6 : ρ (.tmp 17) = .slice (some ⟨b1, o1, none⟩) n c := hd 6 (by decide) (by decide)
          have e7 : ρ (.tmp 18) = .int .i64 (k : Int) := hd 7 (by decide) (by decide)
          clear hd hq
          exact ⟨.pointer (some ⟨b1, o1 + k * 2, none⟩), by simp only [execOp]; go_simp, rfl⟩
        | 9, _, _, ho =>
          obtain rfl := Option.some.inj ho
          have e8 : ρ (.tmp 19) = .pointer (some ⟨b1, o1 + k * 2, none⟩) := hd 8 (by decide) (by decide)
          clear hd hq
          exact ⟨.pointer (some ⟨b1, o1 + k * 2 + 1, none⟩), by simp only [execOp]; go_simp, rfl⟩
        | 10, _, _, ho =>
          obtain rfl := Option.some.inj ho
          have e9 : ρ (.tmp 20) = .pointer (some ⟨b1, o1 + k * 2 + 1, none⟩) := hd 9 (by decide) (by decide)
          clear hd hq
          have c1 := keep_cell hC H1.out
          exact ⟨.int .i64 u.2, by simp only [execOp]; go_simp, rfl⟩
        | 11, _, _, ho =>
          obtain rfl := Option.some.inj ho
          have e5 : ρ (.tmp 16) = .int .i64 u.1 := hd 5 (by decide) (by decide)
          have e10 : ρ (.tmp 21) = .int .i64 u.2 := hd 10 (by decide) (by decide)
          clear hd hq
          exact ⟨.agg #[.int .i64 u.1, .int .i64 u.2], by simp only [execOp]; go_simp, rfl⟩
        | 12, _, hq, _ => exact absurd rfl (hq 0 (by decide))
        | 13, _, hq, _ => exact absurd rfl (hq 1 (by decide))
        | 14, _, hq, _ => exact absurd rfl (hq 2 (by decide))
        | k + 15, hi, _, _ => exact absurd hi (by omega)
      · intro t o ht ho a' V v hSV hv hoth hd K hK
        have oS0 : a'.eval (.tmp 0) = .slice (some ⟨b1, o1, none⟩) n c := hoth 0 (by decide)
        have oS3 : a'.eval (.tmp 3) = v0 := hoth 3 (by decide)
        have oS4 : a'.eval (.tmp 4) = .int .i64 (k : Int) := hoth 4 (by decide)
        clear hoth
        match t, ht, ho, hSV, hv, hd, hK with
        | 0, _, ho, hSV, hv, hd, hK =>
          obtain rfl := Option.some.inj ho
          have hSV : (fun _ V => Below w.heap.size w V ∧ V.ownsRow w.heap.size 58 2 v0 k (duC (l.take k)) : Value → World → Prop) v V := hSV
          have hK : ∀ v' W', (fun v V => Below w.heap.size w V ∧ V.ownsRow w.heap.size 58 2 v0 k (duC (l.take k)) ∧ ∃ g, v = .slice (some ⟨g, 0, none⟩) 1 1 ∧ ∀ j x, ([.int .i64 u.1, .int .i64 u.2] : List Value)[j]? = some x → V.cell? ⟨g, j, none⟩ = some x : Value → World → Prop) v' W' → K (a'.put (some 23) v') W' := hK
          have e11 : a'.eval (.tmp 22) = .agg #[.int .i64 u.1, .int .i64 u.2] := hd 11 (by decide) (by decide)
          clear hd
          obtain ⟨ρ, hρ⟩ : ∃ ρ, ρ = a'.eval := ⟨_, rfl⟩
          have r11 : ρ (.tmp 22) = .agg #[.int .i64 u.1, .int .i64 u.2] := by rw [hρ]; exact e11
          have q0 : ρ (.tmp 0) = .slice (some ⟨b1, o1, none⟩) n c := by rw [hρ]; exact oS0
          have q3 : ρ (.tmp 3) = v0 := by rw [hρ]; exact oS3
          have q4 : ρ (.tmp 4) = .int .i64 (k : Int) := by rw [hρ]; exact oS4
          refine wp_value (v := .slice (some ⟨V.heap.size, 0, none⟩) 1 1) (w' := V.alloc (.cells #[.int .i64 u.1, .int .i64 u.2] 58)) (by rw [← hρ]; clear hρ; simp only [execOp]; go_simp) (hK _ _ ⟨hSV.1.alloc hSV.1.size _, hSV.2.alloc _, V.heap.size, rfl, cells_new V _ _⟩)
        | 1, _, ho, hSV, hv, hd, hK =>
          obtain rfl := Option.some.inj ho
          have hSV : (fun v V => Below w.heap.size w V ∧ V.ownsRow w.heap.size 58 2 v0 k (duC (l.take k)) ∧ ∃ g, v = .slice (some ⟨g, 0, none⟩) 1 1 ∧ ∀ j x, ([.int .i64 u.1, .int .i64 u.2] : List Value)[j]? = some x → V.cell? ⟨g, j, none⟩ = some x : Value → World → Prop) v V := hSV
          have hK : ∀ v' W', (fun v V => Below w.heap.size w V ∧ V.ownsRow w.heap.size 58 2 v (k + 1) (duC (l.take (k + 1))) : Value → World → Prop) v' W' → K (a'.put (some 24) v') W' := hK
          have e0 : a'.eval (.tmp 11) = v0 := hd 0 (by decide) (by decide)
          have hv : v = a'.eval (.tmp 23) := hv (by decide)
          clear hd
          obtain ⟨ρ, hρ⟩ : ∃ ρ, ρ = a'.eval := ⟨_, rfl⟩
          have r0 : ρ (.tmp 11) = v0 := by rw [hρ]; exact e0
          have q0 : ρ (.tmp 0) = .slice (some ⟨b1, o1, none⟩) n c := by rw [hρ]; exact oS0
          have q3 : ρ (.tmp 3) = v0 := by rw [hρ]; exact oS3
          have q4 : ρ (.tmp 4) = .int .i64 (k : Int) := by rw [hρ]; exact oS4
          obtain ⟨hb, ho, g, hg, hcs⟩ := hSV
          rw [hg] at hv
          exact wp_append_at V (.tmp 11) (.tmp 23) 35 rfl w.heap.size 58 i0 (.agg #[.int .i64 0, .int .i64 0]) 2 16 Try.underlying35 hi0 hz0 hz1 hz2 rfl (by decide) v0 k (duC (l.take k)) e0 ho ⟨g, 0, none⟩ 1 1 [.int .i64 u.1, .int .i64 u.2] hv.symm rfl (fun j x hj => by rw [add_plain', Nat.zero_add]; exact hcs j x hj) (encP_cell u) (by unfold maxLen; omega) (by omega) hb.size (fun v' W' h1 h2 _ => hK v' W' ⟨hb.grown h2 hb.size (fun g hg => (ho.lt g hg).1), by rw [HV2.out]; exact h1⟩)
        | 2, _, ho, hSV, hv, hd, hK =>
          obtain rfl := Option.some.inj ho
          have hSV : (fun v V => Below w.heap.size w V ∧ V.ownsRow w.heap.size 58 2 v (k + 1) (duC (l.take (k + 1))) : Value → World → Prop) v V := hSV
          have hK : ∀ v' W', (fun v V => Below w.heap.size w V ∧ V.ownsRow w.heap.size 58 2 v (k + 1) (duC (l.take (k + 1))) : Value → World → Prop) v' W' → K (a'.put (some 3) v') W' := hK
          have hv : v = a'.eval (.tmp 24) := hv (by decide)
          clear hd
          obtain ⟨ρ, hρ⟩ : ∃ ρ, ρ = a'.eval := ⟨_, rfl⟩
          have q0 : ρ (.tmp 0) = .slice (some ⟨b1, o1, none⟩) n c := by rw [hρ]; exact oS0
          have q3 : ρ (.tmp 3) = v0 := by rw [hρ]; exact oS3
          have q4 : ρ (.tmp 4) = .int .i64 (k : Int) := by rw [hρ]; exact oS4
          exact wp_value (v := v) (w' := V) (by simp only [execOp]; rw [hv]; rfl) (hK _ _ hSV)
        | k + 3, ht, _, _, _, _, _ => exact absurd ht (by omega)
      · intro a' V hsz hdef hoth hS
        have hS : (fun v V => Below w.heap.size w V ∧ V.ownsRow w.heap.size 58 2 v (k + 1) (duC (l.take (k + 1))) : Value → World → Prop) (a'.eval (.tmp 3)) V := hS
        have hcov : ∀ i, i ≤ 14 → 11 ≤ (fun i => ([11, 12, 13, 14, 15, 16, 17, 18, 19, 20, 21, 22, 23, 24, 3] : List Nat).getD i 0) i ∧ (fun i => ([11, 12, 13, 14, 15, 16, 17, 18, 19, 20, 21, 22, 23, 24, 3] : List Nat).getD i 0) i < 25 ∨ (fun i => ([11, 12, 13, 14, 15, 16, 17, 18, 19, 20, 21, 22, 23, 24, 3] : List Nat).getD i 0) i = 3 := by decide
        obtain ⟨v9, hv9⟩ : ∃ v, a'.eval (.tmp 3) = v := ⟨_, rfl⟩
        rw [hv9] at hS
        obtain ⟨us, hu1, rfl⟩ := act_mix1 11 14 3 v9 rfl hsz hdef (by simp) (by simp) hv9 (by decide) (fun k hkd hk => by
          by_cases hkT : k = 26
          · subst hkT; unfold Act.eval; simp [hsz]
          · exact hoth k (fun i hi => by have := hcov i hi; dsimp only at this ⊢; omega))
        match us, hu1 with
        | u11 :: u12 :: u13 :: u14 :: u15 :: u16 :: u17 :: u18 :: u19 :: u20 :: u21 :: u22 :: u23 :: u24 :: [], _ =>
          have HS := Lib.hid hS
          clear hS hv9
          go_wp2
          go_roundw
          case rel => exact ⟨k + 1, v9, by omega, rfl, by go_num, HS.out.2, HS.out.1⟩
          case measure => simp [intOf]; omega
    · obtain rfl : n = k := by omega
      rw [List.take_of_length_le (by rw [HL.out]; exact Nat.le_refl _)] at hown
      obtain ⟨a5, c5, rfl, hm5, hR⟩ := RowP.own hown
      have HRW := Lib.hid hR
      clear hown hR
      go_wp2
      go_ret
      first | exact ⟨_, _, rfl, HRW.out, hbl⟩ | exact ⟨_, ⟨_, rfl⟩, HRW.out, hbl⟩
end Go.Proofs.Ytdhchfmefdlloaa
