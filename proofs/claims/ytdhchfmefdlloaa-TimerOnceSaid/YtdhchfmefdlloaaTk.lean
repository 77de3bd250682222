/- What is proved here: the contract of the timer's Tick. Conditions: the timer is one of ours, the picks are not the timer's own, numbers are not too large. -/
import Derived.Test.YtdhchfmefdlloaaRe
import Derived.Test.YtdhchfmefdlloaaIo
namespace Go.Proofs.Ytdhchfmefdlloaa
open Go.ChangeShapes Go.WideShapes Go.RowKit Go.Maps

set_option maxHeartbeats 4000000 in
set_option maxRecDepth 100000 in
theorem tick_any {F : Nat → Prop} {w : World} {b : Nat} {pz : List Int} {now : Int} {L : List Wt} {n : Nat} (h : Tim F w b pz now L n) (hn : n ≤ 1000000000) (hnow : now ≤ 1000000000000)
    (a : Option Addr) (m c : Nat) (zs : List Int) (hr : Row w a m zs) (hmc : m ≤ c) (hc : c ≤ 9223372036854775807) (hna : 0 < m → ∀ bb off, a = some ⟨bb, off, none⟩ → ¬ F bb) :
    Calls Try.prog 14 #[.pointer (some ⟨b, 0, none⟩), .slice a m c] w
      fun e w' => ∃ (F' : Nat → Prop) (a' : Option Addr) (c' : Nat), e = .returned (.slice a' (toldL pz now L zs).length c') ∧ RowP w' a' (toldL pz now L zs).length (toldL pz now L zs) ∧ Tim F' w' b pz (now + 1) (tickL pz now L zs) (n + pz.length) ∧
        (∀ g, F' g → F g ∨ w.heap.size ≤ g) ∧ (∀ g off, a' = some ⟨g, off, none⟩ → ¬ F' g ∧ (F g ∨ w.heap.size ≤ g)) ∧ Trn F w w' := by
  obtain ⟨mb, pv, M, h⟩ := h
  have hp8 := h.pzs.1.2
  have hp0 := h.now0
  have CG := Lib.hid (given_self b w h.cells.1)
  have CR := Lib.hid (release_any h hn hnow a m c zs hr hmc hc hna)
  clear h hr hna
  obtain ⟨L1, hL1⟩ : ∃ L1, L ++ rel now pz 0 zs = L1 := ⟨_, rfl⟩
  have HT0 : Hid (toldL pz now L zs = srt (dueL now L1)) := by show _ = _; rw [← hL1]; rfl
  have HT1 : Hid (tickL pz now L zs = lateL now L1) := by show _ = _; rw [← hL1]; rfl
  rw [hL1] at CR
  rw [HT0.out, HT1.out]
  clear HT0 HT1 hL1
  go_enter Try.func14, Try.ntmps14
  go_wp2_with (first
    | (go_at_call 23; refine CG.out.mono ?_; rintro e w' ⟨rfl, rfl⟩)
    | (go_at_call 25; refine CR.out.mono ?_; rintro e w1 ⟨rfl, F1, M1, ht, hF1, htr⟩; obtain ⟨c0, c1, c2, c3, f2⟩ := ht.cells; have HT := Lib.hid ht; have HF1 := Lib.hid hF1; have HTR := Lib.hid htr; clear ht hF1 htr))
  have hwf : (Lit.int .i64 now).wf = true := WalkArith.wf_i64 (by omega)
  have hlk : ∀ q, (Instr.lookup 51 (.map (some mb)) (.int .i64 now) false).run Try.prog (w1.drewN q) = .ok (atM M1 now) (w1.drewN q) := fun q => run_lookup_mp (w := w1.drewN q) 51 3 33 Try.underlying3 Try.underlying51 (zeroS _) (HT.out.mpg.at_block rfl) hwf
  go_quiet (fail)
  go_wp2
  have cB : ∀ V : World, Below w1.heap.size w1 V → V.heap[b]? = w1.heap[b]? ∧ V.heap[mb]? = w1.heap[mb]? := fun V hV => ⟨hV.block b (HT.out.lt b HT.out.inb), hV.block mb (HT.out.lt mb HT.out.inm)⟩
  have cC : ∀ V : World, V.heap[b]? = w1.heap[b]? → V.cell? ⟨b, 2, none⟩ = some (.int .i64 now) ∧ V.cell? ⟨b, 3, none⟩ = some (.map (some mb)) := fun V hV => ⟨(World.cell?_of_block (a := ⟨b, 2, none⟩) hV).trans c2, (World.cell?_of_block (a := ⟨b, 3, none⟩) hV).trans c3⟩
  refine region_chain 38 8 1 (fun t => ([8] : List Nat).getD t 0) (fun i => ([21, 22, 23, 24, 25, 26, 27, 28, 38] : List Nat).getD i 0) (fun i => ([[], [0], [1], [2], [], [4], [5], [6], [3, 7]] : List (List Nat)).getD i []) (fun i v => ([(fun v : Value => v = .pointer (some ⟨b, 0, none⟩)), (fun v : Value => v = .pointer (some ⟨b, 0, none⟩)), (fun v : Value => v = .pointer (some ⟨b, 3, none⟩)), (fun v : Value => v = .map (some mb)), (fun v : Value => v = .pointer (some ⟨b, 0, none⟩)), (fun v : Value => v = .pointer (some ⟨b, 0, none⟩)), (fun v : Value => v = .pointer (some ⟨b, 2, none⟩)), (fun v : Value => v = .int .i64 now), (fun _ : Value => True)] : List (Value → Prop)).getD i (fun _ => True) v) (fun t v V => ([(fun _ V => Below w1.heap.size w1 V), (fun _ V => MpG Try.prog 3 V mb (n + pz.length) (updM M1 now none) ∧ w1.grownBy V (some mb))] : List (Value → World → Prop)).getD t (fun _ _ => False) v V) (by kernel_rfl) rfl (fun i j hi hj => (by decide : ∀ i, i ≤ 8 → ∀ j, j ≤ 8 → (fun i => ([21, 22, 23, 24, 25, 26, 27, 28, 38] : List Nat).getD i 0) i = (fun i => ([21, 22, 23, 24, 25, 26, 27, 28, 38] : List Nat).getD i 0) j → i = j) i hi j hj) rfl (by decide) rfl (fun s t hs ht => (by decide : ∀ s, s < 1 → ∀ t, t < 1 → (fun t => ([8] : List Nat).getD t 0) s = (fun t => ([8] : List Nat).getD t 0) t → s = t) s hs t ht) (by decide) (fun t ht => (by decide : ∀ t, t < 0 → (fun t => ([8] : List Nat).getD t 0) t ∈ (fun i => ([[], [0], [1], [2], [], [4], [5], [6], [3, 7]] : List (List Nat)).getD i []) ((fun t => ([8] : List Nat).getD t 0) (t + 1))) t (by omega)) ?_ ?_ ?_ ?_ ⟨rfl, rfl, rfl, Nat.le_refl _, fun _ _ => rfl⟩ ?_
  · intro i o ho
    match i, ho with
    | 0, ho => obtain rfl := Option.some.inj ho; exact ⟨Or.inl ⟨rfl, by decide⟩, rfl, by decide, by decide⟩
    | 1, ho => obtain rfl := Option.some.inj ho; exact ⟨Or.inl ⟨rfl, by decide⟩, rfl, by decide, by decide⟩
    | 2, ho => obtain rfl := Option.some.inj ho; exact ⟨Or.inl ⟨rfl, by decide⟩, rfl, by decide, by decide⟩
    | 3, ho => obtain rfl := Option.some.inj ho; exact ⟨Or.inl ⟨rfl, by decide⟩, rfl, by decide, by decide⟩
    | 4, ho => obtain rfl := Option.some.inj ho; exact ⟨Or.inl ⟨rfl, by decide⟩, rfl, by decide, by decide⟩
    | 5, ho => obtain rfl := Option.some.inj ho; exact ⟨Or.inl ⟨rfl, by decide⟩, rfl, by decide, by decide⟩
    | 6, ho => obtain rfl := Option.some.inj ho; exact ⟨Or.inl ⟨rfl, by decide⟩, rfl, by decide, by decide⟩
    | 7, ho => obtain rfl := Option.some.inj ho; exact ⟨Or.inl ⟨rfl, by decide⟩, rfl, by decide, by decide⟩
    | 8, ho => obtain rfl := Option.some.inj ho; exact ⟨Or.inr ⟨rfl, rfl, fun _ _ _ h => h⟩, rfl, by decide, by decide⟩
    | k + 9, ho => simp at ho
  · intro i hi
    match i, hi with
    | 0, _ => exact ⟨1, by decide, by decide, by decide⟩
    | 1, _ => exact ⟨2, by decide, by decide, by decide⟩
    | 2, _ => exact ⟨3, by decide, by decide, by decide⟩
    | 3, _ => exact ⟨8, by decide, by decide, by decide⟩
    | 4, _ => exact ⟨5, by decide, by decide, by decide⟩
    | 5, _ => exact ⟨6, by decide, by decide, by decide⟩
    | 6, _ => exact ⟨7, by decide, by decide, by decide⟩
    | 7, _ => exact ⟨8, by decide, by decide, by decide⟩
    | k + 8, hi => omega
  · intro i o hi hq ho a' V j v hj hSV hoth hd
    have hC : (fun V : World => V.heap[b]? = w1.heap[b]? ∧ V.heap[mb]? = w1.heap[mb]?) V := by
      match j, hj, hSV with
      | 0, _, h => exact cB V h
      | k + 1, hj, _ => omega
    clear hSV hj
    have oS0 : a'.eval (.tmp 0) = .pointer (some ⟨b, 0, none⟩) := hoth 0 (by decide)
    clear hoth
    obtain ⟨ρ, hρ⟩ : ∃ ρ, ρ = a'.eval := ⟨_, rfl⟩
    have hc : ∀ v, ρ (.const v) = v := fun v => by rw [hρ]; rfl
    simp only [← hρ] at hd ⊢
    rw [← hρ] at oS0
    clear hρ
    match i, hi, hq, ho with
    | 0, _, _, ho =>
      obtain rfl := Option.some.inj ho
      clear hd hq
      exact ⟨.pointer (some ⟨b, 0, none⟩), by simp only [execOp]; go_simp, rfl⟩
    | 1, _, _, ho =>
      obtain rfl := Option.some.inj ho
      have e0 : ρ (.tmp 21) = .pointer (some ⟨b, 0, none⟩) := hd 0 (by decide) (by decide)
      clear hd hq
      exact ⟨.pointer (some ⟨b, 0, none⟩), by simp only [execOp]; go_simp, rfl⟩
    | 2, _, _, ho =>
      obtain rfl := Option.some.inj ho
      have e1 : ρ (.tmp 22) = .pointer (some ⟨b, 0, none⟩) := hd 1 (by decide) (by decide)
      clear hd hq
      exact ⟨.pointer (some ⟨b, 3, none⟩), by simp only [execOp]; go_simp, rfl⟩
    | 3, _, _, ho =>
      obtain rfl := Option.some.inj ho
      have e2 : ρ (.tmp 23) = .pointer (some ⟨b, 3, none⟩) := hd 2 (by decide) (by decide)
      clear hd hq
      have cc3 := (cC V hC.1).2
      exact ⟨.map (some mb), by simp only [execOp]; go_simp, rfl⟩
    | 4, _, _, ho =>
      obtain rfl := Option.some.inj ho
      clear hd hq
      exact ⟨.pointer (some ⟨b, 0, none⟩), by simp only [execOp]; go_simp, rfl⟩
    | 5, _, _, ho =>
      obtain rfl := Option.some.inj ho
      have e4 : ρ (.tmp 25) = .pointer (some ⟨b, 0, none⟩) := hd 4 (by decide) (by decide)
      clear hd hq
      exact ⟨.pointer (some ⟨b, 0, none⟩), by simp only [execOp]; go_simp, rfl⟩
    | 6, _, _, ho =>
      obtain rfl := Option.some.inj ho
      have e5 : ρ (.tmp 26) = .pointer (some ⟨b, 0, none⟩) := hd 5 (by decide) (by decide)
      clear hd hq
      exact ⟨.pointer (some ⟨b, 2, none⟩), by simp only [execOp]; go_simp, rfl⟩
    | 7, _, _, ho =>
      obtain rfl := Option.some.inj ho
      have e6 : ρ (.tmp 27) = .pointer (some ⟨b, 2, none⟩) := hd 6 (by decide) (by decide)
      clear hd hq
      have cc2 := (cC V hC.1).1
      exact ⟨.int .i64 now, by simp only [execOp]; go_simp, rfl⟩
    | 8, _, hq, _ => exact absurd rfl (hq 0 (by decide))
    | k + 9, hi, _, _ => exact absurd hi (by omega)
  · intro t o ht ho a' V v hSV hv hoth hd K hK
    have oS0 : a'.eval (.tmp 0) = .pointer (some ⟨b, 0, none⟩) := hoth 0 (by decide)
    clear hoth
    match t, ht, ho, hSV, hv, hd, hK with
    | 0, _, ho, hSV, hv, hd, hK =>
      obtain rfl := Option.some.inj ho
      have hSV : (fun _ V => Below w1.heap.size w1 V : Value → World → Prop) v V := hSV
      have hK : ∀ v' W', (fun _ V => MpG Try.prog 3 V mb (n + pz.length) (updM M1 now none) ∧ w1.grownBy V (some mb) : Value → World → Prop) v' W' → K (a'.put none v') W' := hK
      have e3 : a'.eval (.tmp 24) = .map (some mb) := hd 3 (by decide) (by decide)
      have e7 : a'.eval (.tmp 28) = .int .i64 now := hd 7 (by decide) (by decide)
      clear hd
      obtain ⟨ρ, hρ⟩ : ∃ ρ, ρ = a'.eval := ⟨_, rfl⟩
      have r3 : ρ (.tmp 24) = .map (some mb) := by rw [hρ]; exact e3
      have r7 : ρ (.tmp 28) = .int .i64 now := by rw [hρ]; exact e7
      have q0 : ρ (.tmp 0) = .pointer (some ⟨b, 0, none⟩) := by rw [hρ]; exact oS0
      exact wp_delete_mp V (.tmp 24) (.tmp 28) 51 3 rfl 33 Try.underlying3 Try.underlying51 mb (n + pz.length) M1 e3 (HT.out.mpg.at_block (cB V hSV).2) now e7 hwf (fun W' h1 h2 => hK _ W' ⟨h1, World.grownBy.trans ⟨hSV.os, hSV.tape, hSV.output, hSV.size, fun i hi _ => hSV.block i hi⟩ h2⟩)
    | k + 1, ht, _, _, _, _, _ => exact absurd ht (by omega)
  · intro a' V hsz hdef hoth hS
    have hS : (fun _ V => MpG Try.prog 3 V mb (n + pz.length) (updM M1 now none) ∧ w1.grownBy V (some mb) : Value → World → Prop) (a'.eval (.tmp 38)) V := hS
    have hcov : ∀ i, i ≤ 8 → 21 ≤ (fun i => ([21, 22, 23, 24, 25, 26, 27, 28, 38] : List Nat).getD i 0) i ∧ (fun i => ([21, 22, 23, 24, 25, 26, 27, 28, 38] : List Nat).getD i 0) i < 29 ∨ (fun i => ([21, 22, 23, 24, 25, 26, 27, 28, 38] : List Nat).getD i 0) i = 38 := by decide
    obtain ⟨us, hu1, hu2, rfl⟩ := act_mix 21 8 rfl hsz hdef (by simp) (fun k hk => by
      by_cases hkT : k = 38
      · subst hkT; unfold Act.eval; simp [hsz]
      · exact hoth k (fun i hi => by have := hcov i hi; dsimp only at this ⊢; omega))
    match us, hu1 with
    | u21 :: u22 :: u23 :: u24 :: u25 :: u26 :: u27 :: u28 :: [], _ =>
      have hb1 : V.heap[b]? = w1.heap[b]? := hS.2.block b (HT.out.lt b HT.out.inb) (fun e => HT.out.ne (Option.some.inj e))
      have cc2 := (cC V hb1).1
      have ff2 : V.frozen? ⟨b, 2, none⟩ = false := (World.frozen?_of_block (a := ⟨b, 2, none⟩) hb1).trans f2
      have HOV := Lib.hid (HT.out.over hS.1 hS.2)
      have hlen : (dueL now L1).length ≤ n + pz.length := Nat.le_trans (due_len _ _) HT.out.len
      have CI := Lib.hid (inOrder_any (atM M1 now) (dueL now L1) 0 _ HOV.out.2.1 (by omega))
      clear hS hb1 hlk cB cC
      go_wp2_with (go_at_call 26; refine CI.out.mono ?_; rintro e w3 ⟨rfl, ho3, hg3⟩; have HO3 := Lib.hid ho3; have HG3 := Lib.hid hg3; clear ho3 hg3)
      go_ret
      obtain ⟨hov1, hov2, hov3⟩ := HOV.out
      obtain ⟨a', c', hv', hm', hR⟩ := RowP.own HO3.out
      have hR2 : RowP w3 a' (srt (dueL now L1)).length (srt (dueL now L1)) := by rw [← hm']; exact hR
      refine ⟨fun g => F1 g ∧ (atM M1 now).ownBlock ≠ some g, a', c', (congrArg Ending.returned hv').trans (by rw [srt_len]), hR2, ⟨mb, pv, _, hov1.kept HG3.out.size fun g hg => HG3.out.block g (hov1.lt g hg) (fun e => hg.2 e.symm)⟩, fun g hg => HF1.out g hg.1, fun g off e => ?_, (HTR.out.trans hov3 HF1.out).trans (Trn.of_grown HG3.out (F := F1) (fun g e => (HT.out.at_in e).1)) (fun g hg => HF1.out g hg)⟩
      have hown : (atM M1 now).ownBlock = some g := by rw [hv', e]; rfl
      exact ⟨fun hc => hc.2 hown, HF1.out g (HT.out.at_in hown).1⟩
end Go.Proofs.Ytdhchfmefdlloaa
