/- What is proved here: the contract of the laws' Plain. Conditions: the row is not too long. -/
import Derived.Test.YtngehojibcmieaaGreatDoorQE7
set_option maxRecDepth 100000
set_option maxHeartbeats 8000000
section
namespace Go.Proofs.YtngehojibcmieaaGreatDoor.Kd
open Go.ChangeShapes Go.WideShapes Go.RowKit
theorem plain_any (a : Option Addr) (n c : Nat) (L : List RtR) (w : World) (hr : RowS w a n L) (hn : n ≤ 20) :
  Calls Tryz.prog 27 #[.slice a n c] w fun e w' => ∃ a' c', e = .returned (.slice a' n c') ∧ RowS w' a' n L ∧ Below w.heap.size w w' := by
 have HL := Lib.hid hr.1
 obtain ⟨i0, hi0, hz0, hz1, hz2⟩ := info_parts rrow_info
 have hm : n ≤ 9223372036854775807 := by omega
 go_enter Tryz.func27, Tryz.ntmps27
 go_wp2
 go_loopw [3, 4] (fun s i wr => ∃ (k : Nat) (v : Value), k ≤ n ∧ s = v ∧ i = .int .i64 k ∧ wr.ownsRow w.heap.size 81 6 v k (rsC (L.take k)) ∧ Below w.heap.size w wr) (fun _ i _ => n - (intOf i).toNat)
 case atStart => exact ⟨0, _, by omega, rfl, rfl, World.ownsRow_nil _ _ _ _, Below.refl _ _⟩
 case round =>
  obtain ⟨k, v0, hk, hs0, rfl, hown, hbl⟩ := hrel
  have hs0 := hs0.symm
  subst hs0
  by_cases hlt : k < n
  ·obtain ⟨b1, o1, u, rfl, hB1, hx, h0, h1, h2, h3, h4, h5⟩ := hr.item (Below.refl _ _) hlt
   have HV2 : Hid (rsC (L.take (k + 1)) = rsC (L.take k) ++ rtC u) := by show _ = _; rw [take_cat hx, rsC_snoc]
   have H0 := Lib.hid h0
   have H1 := Lib.hid h1
   have H2 := Lib.hid h2
   have H3 := Lib.hid h3
   have H4 := Lib.hid h4
   have H5 := Lib.hid h5
   have HOW := Lib.hid hown
   have HB := Lib.hid hbl
   have i1 : (0 : Int) ≤ (k : Int) := by omega
   have i2 : (k : Int) < (n : Int) := by omega
   clear hx h0 h1 h2 h3 h4 h5 hown hbl
   go_wp2_with fail
   refine region_chain 46 34 3 (fun t => ([32, 33, 34] : List Nat).getD t 0) (fun i => ([11, 12, 13, 14, 15, 16, 17, 18, 19, 20, 21, 22, 23, 24, 25, 26, 27, 28, 29, 30, 31, 32, 33, 34, 35, 36, 37, 38, 39, 40, 41, 42, 43, 44, 3] : List Nat).getD i 0) (fun i => ([[], [], [], [1, 2], [3], [4], [], [], [6, 7], [8], [9], [], [], [11, 12], [13], [14], [], [], [16, 17], [18], [19], [], [], [21, 22], [23], [24], [], [], [26, 27], [28], [29], [5, 10, 15, 20, 25, 30], [31], [0, 32], [33]] : List (List Nat)).getD i []) (fun i v => ([(fun v : Value => v = v0), (fun v : Value => v = .slice (some ⟨b1, o1, none⟩) n c), (fun v : Value => v = .int .i64 (k : Int)), (fun v : Value => v = .pointer (some ⟨b1, o1 + k * 6, none⟩)), (fun v : Value => v = .pointer (some ⟨b1, o1 + k * 6, none⟩)), (fun v : Value => v = .int .i64 u.C), (fun v : Value => v = .slice (some ⟨b1, o1, none⟩) n c), (fun v : Value => v = .int .i64 (k : Int)), (fun v : Value => v = .pointer (some ⟨b1, o1 + k * 6, none⟩)), (fun v : Value => v = .pointer (some ⟨b1, o1 + k * 6 + 1, none⟩)), (fun v : Value => v = .int .i64 u.B), (fun v : Value => v = .slice (some ⟨b1, o1, none⟩) n c), (fun v : Value => v = .int .i64 (k : Int)), (fun v : Value => v = .pointer (some ⟨b1, o1 + k * 6, none⟩)), (fun v : Value => v = .pointer (some ⟨b1, o1 + k * 6 + 2, none⟩)), (fun v : Value => v = .int .i64 u.T), (fun v : Value => v = .slice (some ⟨b1, o1, none⟩) n c), (fun v : Value => v = .int .i64 (k : Int)), (fun v : Value => v = .pointer (some ⟨b1, o1 + k * 6, none⟩)), (fun v : Value => v = .pointer (some ⟨b1, o1 + k * 6 + 3, none⟩)), (fun v : Value => v = .int .i64 u.D), (fun v : Value => v = .slice (some ⟨b1, o1, none⟩) n c), (fun v : Value => v = .int .i64 (k : Int)), (fun v : Value => v = .pointer (some ⟨b1, o1 + k * 6, none⟩)), (fun v : Value => v = .pointer (some ⟨b1, o1 + k * 6 + 4, none⟩)), (fun v : Value => v = .int .i64 u.J), (fun v : Value => v = .slice (some ⟨b1, o1, none⟩) n c), (fun v : Value => v = .int .i64 (k : Int)), (fun v : Value => v = .pointer (some ⟨b1, o1 + k * 6, none⟩)), (fun v : Value => v = .pointer (some ⟨b1, o1 + k * 6 + 5, none⟩)), (fun v : Value => v = .int .i64 u.P), (fun v : Value => v = .agg #[.int .i64 u.C, .int .i64 u.B, .int .i64 u.T, .int .i64 u.D, .int .i64 u.J, .int .i64 u.P]), (fun _ : Value => True), (fun _ : Value => True), (fun _ : Value => True)] : List (Value → Prop)).getD i (fun _ => True) v) (fun t v V => ([(fun _ V => Below w.heap.size w V ∧ V.ownsRow w.heap.size 81 6 v0 k (rsC (L.take k))), (fun v V => Below w.heap.size w V ∧ V.ownsRow w.heap.size 81 6 v0 k (rsC (L.take k)) ∧ ∃ g, v = .slice (some ⟨g, 0, none⟩) 1 1 ∧ ∀ j x, ([.int .i64 u.C, .int .i64 u.B, .int .i64 u.T, .int .i64 u.D, .int .i64 u.J, .int .i64 u.P] : List Value)[j]? = some x → V.cell? ⟨g, j, none⟩ = some x), (fun v V => Below w.heap.size w V ∧ V.ownsRow w.heap.size 81 6 v (k + 1) (rsC (L.take (k + 1)))), (fun v V => Below w.heap.size w V ∧ V.ownsRow w.heap.size 81 6 v (k + 1) (rsC (L.take (k + 1))))] : List (Value → World → Prop)).getD t (fun _ _ => False) v V) (by kernel_rfl) rfl (fun i j hi hj => (by decide : ∀ i, i ≤ 34 → ∀ j, j ≤ 34 → (fun i => ([11, 12, 13, 14, 15, 16, 17, 18, 19, 20, 21, 22, 23, 24, 25, 26, 27, 28, 29, 30, 31, 32, 33, 34, 35, 36, 37, 38, 39, 40, 41, 42, 43, 44, 3] : List Nat).getD i 0) i = (fun i => ([11, 12, 13, 14, 15, 16, 17, 18, 19, 20, 21, 22, 23, 24, 25, 26, 27, 28, 29, 30, 31, 32, 33, 34, 35, 36, 37, 38, 39, 40, 41, 42, 43, 44, 3] : List Nat).getD i 0) j → i = j) i hi j hj) rfl (by decide) rfl (fun s t hs ht => (by decide : ∀ s, s < 3 → ∀ t, t < 3 → (fun t => ([32, 33, 34] : List Nat).getD t 0) s = (fun t => ([32, 33, 34] : List Nat).getD t 0) t → s = t) s hs t ht) (by decide) (fun t ht => (by decide : ∀ t, t < 2 → (fun t => ([32, 33, 34] : List Nat).getD t 0) t ∈ (fun i => ([[], [], [], [1, 2], [3], [4], [], [], [6, 7], [8], [9], [], [], [11, 12], [13], [14], [], [], [16, 17], [18], [19], [], [], [21, 22], [23], [24], [], [], [26, 27], [28], [29], [5, 10, 15, 20, 25, 30], [31], [0, 32], [33]] : List (List Nat)).getD i []) ((fun t => ([32, 33, 34] : List Nat).getD t 0) (t + 1))) t (by omega)) ?_ ?_ ?_ ?_ ⟨HB.out.trans ⟨rfl, rfl, rfl, Nat.le_refl _, fun _ _ => rfl⟩, own_keep HOW.out ⟨rfl, rfl, rfl, Nat.le_refl _, fun _ _ => rfl⟩⟩ ?_
   ·intro i o ho
    iterate 35 (rcases i with _ | i; (obtain rfl := Option.some.inj ho; exact ⟨Or.inl ⟨rfl, by decide⟩, rfl, by decide, by decide⟩))
    simp at ho
   ·intro i hi
    match i, hi with
    | 0, _ => exact ⟨33, by decide, by decide, by decide⟩
    | 1, _ => exact ⟨3, by decide, by decide, by decide⟩
    | 2, _ => exact ⟨3, by decide, by decide, by decide⟩
    | 3, _ => exact ⟨4, by decide, by decide, by decide⟩
    | 4, _ => exact ⟨5, by decide, by decide, by decide⟩
    | 5, _ => exact ⟨31, by decide, by decide, by decide⟩
    | 6, _ => exact ⟨8, by decide, by decide, by decide⟩
    | 7, _ => exact ⟨8, by decide, by decide, by decide⟩
    | 8, _ => exact ⟨9, by decide, by decide, by decide⟩
    | 9, _ => exact ⟨10, by decide, by decide, by decide⟩
    | 10, _ => exact ⟨31, by decide, by decide, by decide⟩
    | 11, _ => exact ⟨13, by decide, by decide, by decide⟩
    | 12, _ => exact ⟨13, by decide, by decide, by decide⟩
    | 13, _ => exact ⟨14, by decide, by decide, by decide⟩
    | 14, _ => exact ⟨15, by decide, by decide, by decide⟩
    | 15, _ => exact ⟨31, by decide, by decide, by decide⟩
    | 16, _ => exact ⟨18, by decide, by decide, by decide⟩
    | 17, _ => exact ⟨18, by decide, by decide, by decide⟩
    | 18, _ => exact ⟨19, by decide, by decide, by decide⟩
    | 19, _ => exact ⟨20, by decide, by decide, by decide⟩
    | 20, _ => exact ⟨31, by decide, by decide, by decide⟩
    | 21, _ => exact ⟨23, by decide, by decide, by decide⟩
    | 22, _ => exact ⟨23, by decide, by decide, by decide⟩
    | 23, _ => exact ⟨24, by decide, by decide, by decide⟩
    | 24, _ => exact ⟨25, by decide, by decide, by decide⟩
    | 25, _ => exact ⟨31, by decide, by decide, by decide⟩
    | 26, _ => exact ⟨28, by decide, by decide, by decide⟩
    | 27, _ => exact ⟨28, by decide, by decide, by decide⟩
    | 28, _ => exact ⟨29, by decide, by decide, by decide⟩
    | 29, _ => exact ⟨30, by decide, by decide, by decide⟩
    | 30, _ => exact ⟨31, by decide, by decide, by decide⟩
    | 31, _ => exact ⟨32, by decide, by decide, by decide⟩
    | 32, _ => exact ⟨33, by decide, by decide, by decide⟩
    | 33, _ => exact ⟨34, by decide, by decide, by decide⟩
    | k + 34, hi => omega
   ·intro i o hi hq ho a' V j v hj hSV hoth hd
    have hC : (fun V : World => Below w.heap.size w V) V := by
     match j, hj, hSV with
     | 0, _, h => exact h.1
     | 1, _, h => exact h.1
     | 2, _, h => exact h.1
     | k + 3, hj, _ => omega
    clear hSV hj
    have oS0 : a'.eval (.tmp 0) = .slice (some ⟨b1, o1, none⟩) n c := hoth 0 (by decide)
    have oS3 : a'.eval (.tmp 3) = v0 := hoth 3 (by decide)
    have oS4 : a'.eval (.tmp 4) = .int .i64 (k : Int) := hoth 4 (by decide)
    clear hoth
    obtain ⟨ρ, hρ⟩ : ∃ ρ, ρ = a'.eval := ⟨_, rfl⟩
    have hc : ∀ v, ρ (.const v) = v := fun v => by rw [hρ]; rfl
    simp only [← hρ] at hd ⊢
    rw [← hρ] at oS0
    rw [← hρ] at oS3
    rw [← hρ] at oS4
    clear hρ
    match i, hi, hq, ho with
    | 0, _, _, ho =>
     obtain rfl := Option.some.inj ho
     clear hd hq
     exact ⟨v0, by simp only [execOp]; go_simp, rfl⟩
    | 1, _, _, ho =>
     obtain rfl := Option.some.inj ho
     clear hd hq
     exact ⟨.slice (some ⟨b1, o1, none⟩) n c, by simp only [execOp]; go_simp, rfl⟩
    | 2, _, _, ho =>
     obtain rfl := Option.some.inj ho
     clear hd hq
     exact ⟨.int .i64 (k : Int), by simp only [execOp]; go_simp, rfl⟩
    | 3, _, _, ho =>
     obtain rfl := Option.some.inj ho
     have e1 : ρ (.tmp 12) = .slice (some ⟨b1, o1, none⟩) n c := hd 1 (by decide) (by decide)
     have e2 : ρ (.tmp 13) = .int .i64 (k : Int) := hd 2 (by decide) (by decide)
     clear hd hq
     exact ⟨.pointer (some ⟨b1, o1 + k * 6, none⟩), by simp only [execOp]; go_simp, rfl⟩
    | 4, _, _, ho =>
     obtain rfl := Option.some.inj ho
     have e3 : ρ (.tmp 14) = .pointer (some ⟨b1, o1 + k * 6, none⟩) := hd 3 (by decide) (by decide)
     clear hd hq
     exact ⟨.pointer (some ⟨b1, o1 + k * 6, none⟩), by simp only [execOp]; go_simp, rfl⟩
    | 5, _, _, ho =>
     obtain rfl := Option.some.inj ho
     have e4 : ρ (.tmp 15) = .pointer (some ⟨b1, o1 + k * 6, none⟩) := hd 4 (by decide) (by decide)
     clear hd hq
     have c0 := keep_cell hC H0.out
     exact ⟨.int .i64 u.C, by simp only [execOp]; go_simp, rfl⟩
    | 6, _, _, ho =>
     obtain rfl := Option.some.inj ho
     clear hd hq
     exact ⟨.slice (some ⟨b1, o1, none⟩) n c, by simp only [execOp]; go_simp, rfl⟩
    | 7, _, _, ho =>
     obtain rfl := Option.some.inj ho
     clear hd hq
     exact ⟨.int .i64 (k : Int), by simp only [execOp]; go_simp, rfl⟩
    | 8, _, _, ho =>
     obtain rfl := Option.some.inj ho
     have e6 : ρ (.tmp 17) = .slice (some ⟨b1, o1, none⟩) n c := hd 6 (by decide) (by decide)
     have e7 : ρ (.tmp 18) = .int .i64 (k : Int) := hd 7 (by decide) (by decide)
     clear hd hq
     exact ⟨.pointer (some ⟨b1, o1 + k * 6, none⟩), by simp only [execOp]; go_simp, rfl⟩
    | 9, _, _, ho =>
     obtain rfl := Option.some.inj ho
     have e8 : ρ (.tmp 19) = .pointer (some ⟨b1, o1 + k * 6, none⟩) := hd 8 (by decide) (by decide)
     clear hd hq
     exact ⟨.pointer (some ⟨b1, o1 + k * 6 + 1, none⟩), by simp only [execOp]; go_simp, rfl⟩
    | 10, _, _, ho =>
     obtain rfl := Option.some.inj ho
     have e9 : ρ (.tmp 20) = .pointer (some ⟨b1, o1 + k * 6 + 1, none⟩) := hd 9 (by decide) (by decide)
     clear hd hq
     have c1 := keep_cell hC H1.out
     exact ⟨.int .i64 u.B, by simp only [execOp]; go_simp, rfl⟩
    | 11, _, _, ho =>
     obtain rfl := Option.some.inj ho
     clear hd hq
     exact ⟨.slice (some ⟨b1, o1, none⟩) n c, by simp only [execOp]; go_simp, rfl⟩
    | 12, _, _, ho =>
     obtain rfl := Option.some.inj ho
     clear hd hq
     exact ⟨.int .i64 (k : Int), by simp only [execOp]; go_simp, rfl⟩
    | 13, _, _, ho =>
     obtain rfl := Option.some.inj ho
     have e11 : ρ (.tmp 22) = .slice (some ⟨b1, o1, none⟩) n c := hd 11 (by decide) (by decide)
     have e12 : ρ (.tmp 23) = .int .i64 (k : Int) := hd 12 (by decide) (by decide)
     clear hd hq
     exact ⟨.pointer (some ⟨b1, o1 + k * 6, none⟩), by simp only [execOp]; go_simp, rfl⟩
    | 14, _, _, ho =>
     obtain rfl := Option.some.inj ho
     have e13 : ρ (.tmp 24) = .pointer (some ⟨b1, o1 + k * 6, none⟩) := hd 13 (by decide) (by decide)
     clear hd hq
     exact ⟨.pointer (some ⟨b1, o1 + k * 6 + 2, none⟩), by simp only [execOp]; go_simp, rfl⟩
    | 15, _, _, ho =>
     obtain rfl := Option.some.inj ho
     have e14 : ρ (.tmp 25) = .pointer (some ⟨b1, o1 + k * 6 + 2, none⟩) := hd 14 (by decide) (by decide)
     clear hd hq
     have c2 := keep_cell hC H2.out
     exact ⟨.int .i64 u.T, by simp only [execOp]; go_simp, rfl⟩
    | 16, _, _, ho =>
     obtain rfl := Option.some.inj ho
     clear hd hq
     exact ⟨.slice (some ⟨b1, o1, none⟩) n c, by simp only [execOp]; go_simp, rfl⟩
    | 17, _, _, ho =>
     obtain rfl := Option.some.inj ho
     clear hd hq
     exact ⟨.int .i64 (k : Int), by simp only [execOp]; go_simp, rfl⟩
    | 18, _, _, ho =>
     obtain rfl := Option.some.inj ho
     have e16 : ρ (.tmp 27) = .slice (some ⟨b1, o1, none⟩) n c := hd 16 (by decide) (by decide)
     have e17 : ρ (.tmp 28) = .int .i64 (k : Int) := hd 17 (by decide) (by decide)
     clear hd hq
     exact ⟨.pointer (some ⟨b1, o1 + k * 6, none⟩), by simp only [execOp]; go_simp, rfl⟩
    | 19, _, _, ho =>
     obtain rfl := Option.some.inj ho
     have e18 : ρ (.tmp 29) = .pointer (some ⟨b1, o1 + k * 6, none⟩) := hd 18 (by decide) (by decide)
     clear hd hq
     exact ⟨.pointer (some ⟨b1, o1 + k * 6 + 3, none⟩), by simp only [execOp]; go_simp, rfl⟩
    | 20, _, _, ho =>
     obtain rfl := Option.some.inj ho
     have e19 : ρ (.tmp 30) = .pointer (some ⟨b1, o1 + k * 6 + 3, none⟩) := hd 19 (by decide) (by decide)
     clear hd hq
     have c3 := keep_cell hC H3.out
     exact ⟨.int .i64 u.D, by simp only [execOp]; go_simp, rfl⟩
    | 21, _, _, ho =>
     obtain rfl := Option.some.inj ho
     clear hd hq
     exact ⟨.slice (some ⟨b1, o1, none⟩) n c, by simp only [execOp]; go_simp, rfl⟩
    | 22, _, _, ho =>
     obtain rfl := Option.some.inj ho
     clear hd hq
     exact ⟨.int .i64 (k : Int), by simp only [execOp]; go_simp, rfl⟩
    | 23, _, _, ho =>
     obtain rfl := Option.some.inj ho
     have e21 : ρ (.tmp 32) = .slice (some ⟨b1, o1, none⟩) n c := hd 21 (by decide) (by decide)
     have e22 : ρ (.tmp 33) = .int .i64 (k : Int) := hd 22 (by decide) (by decide)
     clear hd hq
     exact ⟨.pointer (some ⟨b1, o1 + k * 6, none⟩), by simp only [execOp]; go_simp, rfl⟩
    | 24, _, _, ho =>
     obtain rfl := Option.some.inj ho
     have e23 : ρ (.tmp 34) = .pointer (some ⟨b1, o1 + k * 6, none⟩) := hd 23 (by decide) (by decide)
     clear hd hq
     exact ⟨.pointer (some ⟨b1, o1 + k * 6 + 4, none⟩), by simp only [execOp]; go_simp, rfl⟩
    | 25, _, _, ho =>
     obtain rfl := Option.some.inj ho
     have e24 : ρ (.tmp 35) = .pointer (some ⟨b1, o1 + k * 6 + 4, none⟩) := hd 24 (by decide) (by decide)
     clear hd hq
     have c4 := keep_cell hC H4.out
     exact ⟨.int .i64 u.J, by simp only [execOp]; go_simp, rfl⟩
    | 26, _, _, ho =>
     obtain rfl := Option.some.inj ho
     clear hd hq
     exact ⟨.slice (some ⟨b1, o1, none⟩) n c, by simp only [execOp]; go_simp, rfl⟩
    | 27, _, _, ho =>
     obtain rfl := Option.some.inj ho
     clear hd hq
     exact ⟨.int .i64 (k : Int), by simp only [execOp]; go_simp, rfl⟩
    | 28, _, _, ho =>
     obtain rfl := Option.some.inj ho
     have e26 : ρ (.tmp 37) = .slice (some ⟨b1, o1, none⟩) n c := hd 26 (by decide) (by decide)
     have e27 : ρ (.tmp 38) = .int .i64 (k : Int) := hd 27 (by decide) (by decide)
     clear hd hq
     exact ⟨.pointer (some ⟨b1, o1 + k * 6, none⟩), by simp only [execOp]; go_simp, rfl⟩
    | 29, _, _, ho =>
     obtain rfl := Option.some.inj ho
     have e28 : ρ (.tmp 39) = .pointer (some ⟨b1, o1 + k * 6, none⟩) := hd 28 (by decide) (by decide)
     clear hd hq
     exact ⟨.pointer (some ⟨b1, o1 + k * 6 + 5, none⟩), by simp only [execOp]; go_simp, rfl⟩
    | 30, _, _, ho =>
     obtain rfl := Option.some.inj ho
     have e29 : ρ (.tmp 40) = .pointer (some ⟨b1, o1 + k * 6 + 5, none⟩) := hd 29 (by decide) (by decide)
     clear hd hq
     have c5 := keep_cell hC H5.out
     exact ⟨.int .i64 u.P, by simp only [execOp]; go_simp, rfl⟩
    | 31, _, _, ho =>
     obtain rfl := Option.some.inj ho
     have e5 : ρ (.tmp 16) = .int .i64 u.C := hd 5 (by decide) (by decide)
     have e10 : ρ (.tmp 21) = .int .i64 u.B := hd 10 (by decide) (by decide)
     have e15 : ρ (.tmp 26) = .int .i64 u.T := hd 15 (by decide) (by decide)
     have e20 : ρ (.tmp 31) = .int .i64 u.D := hd 20 (by decide) (by decide)
     have e25 : ρ (.tmp 36) = .int .i64 u.J := hd 25 (by decide) (by decide)
     have e30 : ρ (.tmp 41) = .int .i64 u.P := hd 30 (by decide) (by decide)
     clear hd hq
     exact ⟨.agg #[.int .i64 u.C, .int .i64 u.B, .int .i64 u.T, .int .i64 u.D, .int .i64 u.J, .int .i64 u.P], by simp only [execOp]; go_simp, rfl⟩
    | 32, _, hq, _ => exact absurd rfl (hq 0 (by decide))
    | 33, _, hq, _ => exact absurd rfl (hq 1 (by decide))
    | 34, _, hq, _ => exact absurd rfl (hq 2 (by decide))
    | k + 35, hi, _, _ => exact absurd hi (by omega)
   ·intro t o ht ho a' V v hSV hv hoth hd K hK
    have oS0 : a'.eval (.tmp 0) = .slice (some ⟨b1, o1, none⟩) n c := hoth 0 (by decide)
    have oS3 : a'.eval (.tmp 3) = v0 := hoth 3 (by decide)
    have oS4 : a'.eval (.tmp 4) = .int .i64 (k : Int) := hoth 4 (by decide)
    clear hoth
    match t, ht, ho, hSV, hv, hd, hK with
    | 0, _, ho, hSV, hv, hd, hK =>
     obtain rfl := Option.some.inj ho
     have hSV : (fun _ V => Below w.heap.size w V ∧ V.ownsRow w.heap.size 81 6 v0 k (rsC (L.take k)) : Value → World → Prop) v V := hSV
     have hK : ∀ v' W', (fun v V => Below w.heap.size w V ∧ V.ownsRow w.heap.size 81 6 v0 k (rsC (L.take k)) ∧ ∃ g, v = .slice (some ⟨g, 0, none⟩) 1 1 ∧ ∀ j x, ([.int .i64 u.C, .int .i64 u.B, .int .i64 u.T, .int .i64 u.D, .int .i64 u.J, .int .i64 u.P] : List Value)[j]? = some x → V.cell? ⟨g, j, none⟩ = some x : Value → World → Prop) v' W' → K (a'.put (some 43) v') W' := hK
     have e31 : a'.eval (.tmp 42) = .agg #[.int .i64 u.C, .int .i64 u.B, .int .i64 u.T, .int .i64 u.D, .int .i64 u.J, .int .i64 u.P] := hd 31 (by decide) (by decide)
     clear hd
     obtain ⟨ρ, hρ⟩ : ∃ ρ, ρ = a'.eval := ⟨_, rfl⟩
     have r31 : ρ (.tmp 42) = .agg #[.int .i64 u.C, .int .i64 u.B, .int .i64 u.T, .int .i64 u.D, .int .i64 u.J, .int .i64 u.P] := by rw [hρ]; exact e31
     have q0 : ρ (.tmp 0) = .slice (some ⟨b1, o1, none⟩) n c := by rw [hρ]; exact oS0
     have q3 : ρ (.tmp 3) = v0 := by rw [hρ]; exact oS3
     have q4 : ρ (.tmp 4) = .int .i64 (k : Int) := by rw [hρ]; exact oS4
     refine wp_value (v := .slice (some ⟨V.heap.size, 0, none⟩) 1 1) (w' := V.alloc (.cells #[.int .i64 u.C, .int .i64 u.B, .int .i64 u.T, .int .i64 u.D, .int .i64 u.J, .int .i64 u.P] 81)) (by rw [← hρ]; clear hρ; simp only [execOp]; go_simp) (hK _ _ ⟨hSV.1.alloc hSV.1.size _, hSV.2.alloc _, V.heap.size, rfl, cells_new V _ _⟩)
    | 1, _, ho, hSV, hv, hd, hK =>
     obtain rfl := Option.some.inj ho
     have hSV : (fun v V => Below w.heap.size w V ∧ V.ownsRow w.heap.size 81 6 v0 k (rsC (L.take k)) ∧ ∃ g, v = .slice (some ⟨g, 0, none⟩) 1 1 ∧ ∀ j x, ([.int .i64 u.C, .int .i64 u.B, .int .i64 u.T, .int .i64 u.D, .int .i64 u.J, .int .i64 u.P] : List Value)[j]? = some x → V.cell? ⟨g, j, none⟩ = some x : Value → World → Prop) v V := hSV
     have hK : ∀ v' W', (fun v V => Below w.heap.size w V ∧ V.ownsRow w.heap.size 81 6 v (k + 1) (rsC (L.take (k + 1))) : Value → World → Prop) v' W' → K (a'.put (some 44) v') W' := hK
     have e0 : a'.eval (.tmp 11) = v0 := hd 0 (by decide) (by decide)
     have hv : v = a'.eval (.tmp 43) := hv (by decide)
     clear hd
     obtain ⟨ρ, hρ⟩ : ∃ ρ, ρ = a'.eval := ⟨_, rfl⟩
     have r0 : ρ (.tmp 11) = v0 := by rw [hρ]; exact e0
     have q0 : ρ (.tmp 0) = .slice (some ⟨b1, o1, none⟩) n c := by rw [hρ]; exact oS0
     have q3 : ρ (.tmp 3) = v0 := by rw [hρ]; exact oS3
     have q4 : ρ (.tmp 4) = .int .i64 (k : Int) := by rw [hρ]; exact oS4
     obtain ⟨hb, ho, g, hg, hcs⟩ := hSV
     rw [hg] at hv
     exact wp_append_own V (.tmp 11) (.tmp 43) 31 rfl w.heap.size 81 i0 (.agg #[.int .i64 0, .int .i64 0, .int .i64 0, .int .i64 0, .int .i64 0, .int .i64 0]) 6 48 Tryz.underlying31 hi0 hz0 hz1 hz2 rfl (by decide) v0 k (rsC (L.take k)) e0 ho ⟨g, 0, none⟩ 1 1 [.int .i64 u.C, .int .i64 u.B, .int .i64 u.T, .int .i64 u.D, .int .i64 u.J, .int .i64 u.P] hv.symm rfl (fun j x hj => by rw [add_plain', Nat.zero_add]; exact hcs j x hj) (rtC_cell u) (by unfold maxLen; omega) (by omega) hb.size (fun v' W' h1 h2 _ => hK v' W' ⟨hb.grown h2 hb.size (fun g hg => (ho.lt g hg).1), by rw [HV2.out]; exact h1⟩)
    | 2, _, ho, hSV, hv, hd, hK =>
     obtain rfl := Option.some.inj ho
     have hSV : (fun v V => Below w.heap.size w V ∧ V.ownsRow w.heap.size 81 6 v (k + 1) (rsC (L.take (k + 1))) : Value → World → Prop) v V := hSV
     have hK : ∀ v' W', (fun v V => Below w.heap.size w V ∧ V.ownsRow w.heap.size 81 6 v (k + 1) (rsC (L.take (k + 1))) : Value → World → Prop) v' W' → K (a'.put (some 3) v') W' := hK
     have hv : v = a'.eval (.tmp 44) := hv (by decide)
     clear hd
     obtain ⟨ρ, hρ⟩ : ∃ ρ, ρ = a'.eval := ⟨_, rfl⟩
     have q0 : ρ (.tmp 0) = .slice (some ⟨b1, o1, none⟩) n c := by rw [hρ]; exact oS0
     have q3 : ρ (.tmp 3) = v0 := by rw [hρ]; exact oS3
     have q4 : ρ (.tmp 4) = .int .i64 (k : Int) := by rw [hρ]; exact oS4
     exact wp_value (v := v) (w' := V) (by simp only [execOp]; rw [hv]; rfl) (hK _ _ hSV)
    | k + 3, ht, _, _, _, _, _ => exact absurd ht (by omega)
   ·intro a' V hsz hdef hoth hS
    have hS : (fun v V => Below w.heap.size w V ∧ V.ownsRow w.heap.size 81 6 v (k + 1) (rsC (L.take (k + 1))) : Value → World → Prop) (a'.eval (.tmp 3)) V := hS
    have hcov : ∀ i, i ≤ 34 → 11 ≤ (fun i => ([11, 12, 13, 14, 15, 16, 17, 18, 19, 20, 21, 22, 23, 24, 25, 26, 27, 28, 29, 30, 31, 32, 33, 34, 35, 36, 37, 38, 39, 40, 41, 42, 43, 44, 3] : List Nat).getD i 0) i ∧ (fun i => ([11, 12, 13, 14, 15, 16, 17, 18, 19, 20, 21, 22, 23, 24, 25, 26, 27, 28, 29, 30, 31, 32, 33, 34, 35, 36, 37, 38, 39, 40, 41, 42, 43, 44, 3] : List Nat).getD i 0) i < 45 ∨ (fun i => ([11, 12, 13, 14, 15, 16, 17, 18, 19, 20, 21, 22, 23, 24, 25, 26, 27, 28, 29, 30, 31, 32, 33, 34, 35, 36, 37, 38, 39, 40, 41, 42, 43, 44, 3] : List Nat).getD i 0) i = 3 := by decide
    obtain ⟨v9, hv9⟩ : ∃ v, a'.eval (.tmp 3) = v := ⟨_, rfl⟩
    rw [hv9] at hS
    obtain ⟨us, hu1, rfl⟩ := act_mix1 11 34 3 v9 rfl hsz hdef (by simp) (by simp) hv9 (by decide) (fun k hkd hk => by
     by_cases hkT : k = 46
     ·subst hkT; unfold Act.eval; simp [hsz]
     ·exact hoth k (fun i hi => by have := hcov i hi; dsimp only at this ⊢; omega))
    match us, hu1 with
    | u11 :: u12 :: u13 :: u14 :: u15 :: u16 :: u17 :: u18 :: u19 :: u20 :: u21 :: u22 :: u23 :: u24 :: u25 :: u26 :: u27 :: u28 :: u29 :: u30 :: u31 :: u32 :: u33 :: u34 :: u35 :: u36 :: u37 :: u38 :: u39 :: u40 :: u41 :: u42 :: u43 :: u44 :: [], _ =>
     have HS := Lib.hid hS
     clear hS hv9
     go_wp2
     go_roundw
     case rel => exact ⟨k + 1, v9, by omega, rfl, by go_num, HS.out.2, HS.out.1⟩
     case measure => simp [intOf]; omega
  ·obtain rfl : n = k := by omega
   rw [List.take_of_length_le (by rw [HL.out]; exact Nat.le_refl _)] at hown
   obtain ⟨a5, c5, rfl, hm5, hR⟩ := RowS.own hown
   have HRW := Lib.hid hR
   clear hown hR
   go_wp2
   go_ret
   first | exact ⟨_, _, rfl, HRW.out, hbl⟩ | exact ⟨_, ⟨_, rfl⟩, HRW.out, hbl⟩
end Go.Proofs.YtngehojibcmieaaGreatDoor.Kd
end
