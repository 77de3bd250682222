/- What is proved here: the contract of the timer's release. Conditions: the timer is one of ours, the picks are not the timer's own, numbers are not too large. -/
import Derived.Test.YtdhchfmefdlloaaMo
import Derived.Deep.CutBlock
import Derived.Deep.CutRange
import Derived.Outline
namespace Go.Proofs.Ytdhchfmefdlloaa
open Go.ChangeShapes Go.WideShapes Go.RowKit Go.Maps

theorem TimI.mono {F : Nat → Prop} {w : World} {b mb : Nat} {pv : Value} {M : Int → Option Value} {pz : List Int} {now : Int} {L : List Wt} {n n' : Nat} (h : TimI F w b mb pv M pz now L n) (hn : n ≤ n') : TimI F w b mb pv M pz now L n' :=
  { h with mpg := h.mpg.mono hn, len := Nat.le_trans h.len hn }
set_option maxHeartbeats 4000000 in
set_option maxRecDepth 100000 in
theorem release_any {F : Nat → Prop} {w : World} {b mb : Nat} {pv : Value} {M : Int → Option Value} {pz : List Int} {now : Int} {L : List Wt} {n : Nat} (h : TimI F w b mb pv M pz now L n) (hn : n ≤ 1000000000) (hnow : now ≤ 1000000000000)
    (a : Option Addr) (m c : Nat) (zs : List Int) (hr : Row w a m zs) (hmc : m ≤ c) (hc : c ≤ 9223372036854775807) (hna : 0 < m → ∀ bb off, a = some ⟨bb, off, none⟩ → ¬ F bb) :
    Calls Try.prog 25 #[.pointer (some ⟨b, 0, none⟩), .slice a m c] w
      fun e w' => e = .returned (.tuple #[]) ∧ ∃ F' M', TimI F' w' b mb pv M' pz now (L ++ rel now pz 0 zs) (n + pz.length) ∧ (∀ g, F' g → F g ∨ w.heap.size ≤ g) ∧ Trn F w w' := by
  obtain ⟨c0, c1, c2, c3, f2⟩ := h.cells
  obtain ⟨pa, pn, pc, rfl, hp⟩ := Row.own h.per
  obtain rfl : pn = pz.length := hp.1
  have hp0 := h.now0
  have hp1 := h.pzs
  have HT := Lib.hid h
  have HP := Lib.hid hp
  have HR := Lib.hid hr
  have HN := Lib.hid hna
  clear h hp hr hna
  go_enter Try.func25, Try.ntmps25
  go_wp2
  go_loopw [1, 13] (fun s i wr => ∃ (k cnt nk : Nat) (a' : Option Addr) (m' c' : Nat) (Fk : Nat → Prop) (Mk : Int → Option Value) (Lk : List Wt), k ≤ pz.length ∧ s = .slice a' m' c' ∧ i = .int .i64 k ∧ m' ≤ c' ∧ c' ≤ 9223372036854775807 ∧
      TimI Fk wr b mb (.slice pa pz.length pc) Mk pz now Lk nk ∧ nk ≤ n + k ∧ L ++ rel now pz 0 zs = Lk ++ rel now (pz.drop k) k (zs.drop cnt) ∧ Row wr a' m' (zs.drop cnt) ∧ (0 < m' → ∀ bb off, a' = some ⟨bb, off, none⟩ → ¬ Fk bb) ∧ (∀ g, Fk g → F g ∨ w.heap.size ≤ g) ∧ Trn F w wr) (fun _ i _ => pz.length - (intOf i).toNat)
  case atStart => exact ⟨0, 0, n, a, m, c, F, M, L, Nat.zero_le _, rfl, rfl, hmc, hc, HT.out, Nat.le_refl _, rfl, HR.out, HN.out, fun g hg => Or.inl hg, Trn.refl _ _⟩
  case round =>
    obtain ⟨k, cnt, nk, a', m', c', Fk, Mk, Lk, hk, rfl, rfl, hmc', hc', ht, hnk, hL, hr', hna', hF, htr⟩ := hrel
    by_cases hlt : k < pz.length
    · obtain ⟨d0, d1, d2, d3, g2⟩ := ht.cells
      obtain ⟨pb, po, p, rfl, hpb, hx, hcp⟩ := Row.item (by
        have := ht.per
        obtain ⟨pa1, pn1, pc1, e1, hp'⟩ := Row.own this
        cases e1
        exact hp') hlt
      have hpp := hp1.2 p (List.mem_of_getElem? hx)
      have HD := Lib.hid (take_cons_drop hx)
      have HT' := Lib.hid ht
      have HL := Lib.hid hL
      have HR' := Lib.hid hr'
      have HN' := Lib.hid hna'
      have HF := Lib.hid hF
      have HTR := Lib.hid htr
      clear ht hL hr' hna' hF htr hx
      obtain ⟨i0, hi0, hz0, hz1, hz2⟩ := info_parts due_info
      by_cases hq : now % p = 0
      · have hqb : (now % p != 0) = false := by simp [hq]
        have cC : ∀ V : World, V.heap[b]? = wr.heap[b]? → V.cell? ⟨b, 2, none⟩ = some (.int .i64 now) ∧ V.cell? ⟨b, 3, none⟩ = some (.map (some mb)) := fun V hV => ⟨(World.cell?_of_block (a := ⟨b, 2, none⟩) hV).trans d2, (World.cell?_of_block (a := ⟨b, 3, none⟩) hV).trans d3⟩
        have cB : ∀ V : World, Below wr.heap.size wr V → V.heap[b]? = wr.heap[b]? ∧ V.heap[mb]? = wr.heap[mb]? := fun V hV => ⟨hV.block b (HT'.out.lt b HT'.out.inb), hV.block mb (HT'.out.lt mb HT'.out.inm)⟩
        have cG : ∀ (V : World) (s : Int), wr.grownBy V (atM Mk s).ownBlock → V.heap[b]? = wr.heap[b]? ∧ V.heap[mb]? = wr.heap[mb]? := fun V s hV => ⟨hV.block b (HT'.out.lt b HT'.out.inb) (fun e => (HT'.out.at_in e.symm).2.1 rfl), hV.block mb (HT'.out.lt mb HT'.out.inm) (fun e => (HT'.out.at_in e.symm).2.2.1 rfl)⟩
        go_upto_if 27 with fail
        go_cut [1, 6] from 23 to 33 (fun v1 v6 wx => ∃ (a'' : Option Addr) (m'' c'' cnt' q : Nat) (j : Int), v1 = .slice a'' m'' c'' ∧ v6 = .int .i64 j ∧ m'' ≤ c'' ∧ c'' ≤ 9223372036854775807 ∧ (0 ≤ j ∧ j ≤ 1048576) ∧
          rel now (pz.drop k) k (zs.drop cnt) = (((k : Int), now), now + j) :: rel now (pz.drop (k + 1)) ((k : Int) + 1) (zs.drop cnt') ∧ Row wr a'' m'' (zs.drop cnt') ∧ (0 < m'' → ∀ bb off, a'' = some ⟨bb, off, none⟩ → ¬ Fk bb) ∧ wx = wr.drewN q)
        case first =>
          by_cases hm0 : 0 < m'
          · obtain ⟨qb, qo, z, rfl, hqb1, hz, hcz⟩ := HR'.out.item hm0
            obtain ⟨j, hj⟩ : ∃ j, cutJ z = j := ⟨_, rfl⟩
            rw [Nat.add_zero] at hcz
            have hm1 : (1 : Int) ≤ (m' : Int) := by omega
            have hm2 : (m' : Int) ≤ (c' : Int) := by omega
            have hj1 := cutJ_range z
            rw [hj] at hj1
            have CC := Lib.hid (fun W => hj ▸ cut_any z W)
            have HZ : Hid (rel now (pz.drop k) k (zs.drop cnt) = (((k : Int), now), now + j) :: rel now (pz.drop (k + 1)) ((k : Int) + 1) (zs.drop (cnt + 1))) := by
              show _ = _
              have hz2 : zs[cnt]? = some z := by simpa using hz
              rw [HD.out, take_cons_drop hz2]
              show (if now % p = 0 then _ else _) = _
              rw [if_pos hq, List.headD_cons, List.tail_cons, hj]
            have HW : Hid (∀ c2, Row wr (some ⟨qb, qo + 1, none⟩) (m' - 1) (zs.drop (cnt + 1)) ∧ (m' = 1 → Row wr c2 0 (zs.drop (cnt + 1)))) := fun c2 => by
              have hl := HR'.out.1
              rw [List.length_drop] at hl
              refine ⟨⟨by rw [List.length_drop]; omega, fun h0 => ⟨qb, qo + 1, rfl, hqb1, fun i hi => ?_⟩⟩, fun h1 => ⟨by rw [List.length_drop]; omega, fun h0 => absurd h0 (by omega)⟩⟩
              obtain ⟨b1, o1, y, e1, _, hy, hcy⟩ := HR'.out.item (k := i + 1) (by omega)
              cases e1
              rw [show qo + 1 + i = qo + (i + 1) by omega, hcy]
              simp only [List.getElem?_drop] at hy
              rw [List.getD_eq_getElem?_getD, List.getElem?_drop, show cnt + 1 + i = cnt + (i + 1) by omega, hy]
              rfl
            clear hz hj
            by_cases hc1 : c' = 1
            · subst hc1
              obtain rfl : m' = 1 := by omega
              go_wp2
              go_quiet (exact Calls.quiet_of_same (CC.out _))
              go_wp2
              go_meet
              exact ⟨_, 0, 0, cnt + 1, nq, j, rfl, rfl, Nat.le_refl _, by omega, hj1, HZ.out, (HW.out _).2 (by first | exact trivial | exact rfl), fun h0 => absurd h0 (by omega), rfl⟩
            · have hc2 : ¬ ((c' : Int) = 1) := by omega
              go_wp2
              go_quiet (exact Calls.quiet_of_same (CC.out _))
              go_wp2
              go_meet
              exact ⟨_, m' - 1, c' - 1, cnt + 1, nq, j, rfl, rfl, by omega, by omega, hj1, HZ.out, (HW.out none).1, fun h0 bb off e => by cases e; exact HN'.out hm0 _ _ rfl, rfl⟩
          · obtain rfl : m' = 0 := by omega
            go_wp2
            go_meet
            refine ⟨a', 0, c', cnt, 0, 0, rfl, rfl, Nat.zero_le _, hc', ⟨by omega, by omega⟩, ?_, HR'.out, fun h0 => absurd h0 (by omega), rfl⟩
            have h0 := HR'.out.1
            rw [List.eq_nil_of_length_eq_zero h0.symm, HD.out]
            show (if now % p = 0 then _ else _) = _
            rw [if_pos hq]
            rfl
        case rest =>
          obtain ⟨a2, m2, cc2, cnt', q, jx, rfl, rfl, hmc2, hcc2, hj1, hrel, hr2, hna2, rfl⟩ := hcut
          have HREL := Lib.hid hrel
          have HR2 := Lib.hid hr2
          have HN2 := Lib.hid hna2
          have hwf : (Lit.int .i64 (now + jx)).wf = true := WalkArith.wf_i64 (by omega)
          have hlen : (dueL (now + jx) Lk).length ≤ nk := Nat.le_trans (due_len _ _) HT'.out.len
          clear hrel hr2 hna2
          go_wp2
          refine region_chain 60 19 3 (fun t => ([17, 18, 19] : List Nat).getD t 0) (fun i => ([40, 41, 42, 43, 44, 45, 46, 47, 48, 49, 50, 51, 52, 53, 54, 55, 56, 57, 58, 60] : List Nat).getD i 0) (fun i => ([[], [0], [1], [2], [], [], [5], [6], [7], [], [8, 9], [], [], [12], [13], [14], [11, 15], [16], [10, 17], [3, 4, 18]] : List (List Nat)).getD i []) (fun i v => ([(fun v : Value => v = .pointer (some ⟨b, 0, none⟩)), (fun v : Value => v = .pointer (some ⟨b, 0, none⟩)), (fun v : Value => v = .pointer (some ⟨b, 3, none⟩)), (fun v : Value => v = .map (some mb)), (fun v : Value => v = .int .i64 (now + jx)), (fun v : Value => v = .pointer (some ⟨b, 0, none⟩)), (fun v : Value => v = .pointer (some ⟨b, 0, none⟩)), (fun v : Value => v = .pointer (some ⟨b, 3, none⟩)), (fun v : Value => v = .map (some mb)), (fun v : Value => v = .int .i64 (now + jx)), (fun v : Value => v = atM Mk (now + jx)), (fun v : Value => v = .int .i64 (k : Int)), (fun v : Value => v = .pointer (some ⟨b, 0, none⟩)), (fun v : Value => v = .pointer (some ⟨b, 0, none⟩)), (fun v : Value => v = .pointer (some ⟨b, 2, none⟩)), (fun v : Value => v = .int .i64 now), (fun v : Value => v = .agg #[.int .i64 (k : Int), .int .i64 now]), (fun _ : Value => True), (fun _ : Value => True), (fun _ : Value => True)] : List (Value → Prop)).getD i (fun _ => True) v) (fun t v V => ([(fun _ V => Below wr.heap.size wr V ∧ V.heap.size = wr.heap.size), (fun v V => Below wr.heap.size wr V ∧ ∃ g, v = .slice (some ⟨g, 0, none⟩) 1 1 ∧ ∀ j0 x0, ([.int .i64 (k : Int), .int .i64 now] : List Value)[j0]? = some x0 → V.cell? ⟨g, j0, none⟩ = some x0), (fun v V => wr.grownBy V (atM Mk (now + jx)).ownBlock ∧ V.ownsRow 0 48 2 v ((dueL (now + jx) Lk).length + 1) (duC (dueL (now + jx) Lk) ++ encP ((k : Int), now)) ∧ (v.ownBlock = (atM Mk (now + jx)).ownBlock ∨ ∃ g, v.ownBlock = some g ∧ wr.heap.size ≤ g)), (fun _ V => ∃ v V2, (wr.grownBy V2 (atM Mk (now + jx)).ownBlock ∧ V2.ownsRow 0 48 2 v ((dueL (now + jx) Lk).length + 1) (duC (dueL (now + jx) Lk) ++ encP ((k : Int), now)) ∧ (v.ownBlock = (atM Mk (now + jx)).ownBlock ∨ ∃ g, v.ownBlock = some g ∧ wr.heap.size ≤ g)) ∧ MpG Try.prog 3 V mb (nk + 1) (updM Mk (now + jx) (some v)) ∧ V2.grownBy V (some mb))] : List (Value → World → Prop)).getD t (fun _ _ => False) v V) (by kernel_rfl) rfl (fun i j hi hj => (by decide : ∀ i, i ≤ 19 → ∀ j, j ≤ 19 → (fun i => ([40, 41, 42, 43, 44, 45, 46, 47, 48, 49, 50, 51, 52, 53, 54, 55, 56, 57, 58, 60] : List Nat).getD i 0) i = (fun i => ([40, 41, 42, 43, 44, 45, 46, 47, 48, 49, 50, 51, 52, 53, 54, 55, 56, 57, 58, 60] : List Nat).getD i 0) j → i = j) i hi j hj) rfl (by decide) rfl (fun s t hs ht => (by decide : ∀ s, s < 3 → ∀ t, t < 3 → (fun t => ([17, 18, 19] : List Nat).getD t 0) s = (fun t => ([17, 18, 19] : List Nat).getD t 0) t → s = t) s hs t ht) (by decide) (fun t ht => (by decide : ∀ t, t < 2 → (fun t => ([17, 18, 19] : List Nat).getD t 0) t ∈ (fun i => ([[], [0], [1], [2], [], [], [5], [6], [7], [], [8, 9], [], [], [12], [13], [14], [11, 15], [16], [10, 17], [3, 4, 18]] : List (List Nat)).getD i []) ((fun t => ([17, 18, 19] : List Nat).getD t 0) (t + 1))) t (by omega)) ?_ ?_ ?_ ?_ ⟨⟨rfl, rfl, rfl, Nat.le_refl _, fun _ _ => rfl⟩, rfl⟩ ?_
          · intro i o ho
            match i, ho with
            | 0, ho => obtain rfl := Option.some.inj ho; exact ⟨Or.inl ⟨rfl, by decide⟩, rfl, by decide, by decide⟩
            | 1, ho => obtain rfl := Option.some.inj ho; exact ⟨Or.inl ⟨rfl, by decide⟩, rfl, by decide, by decide⟩
            | 2, ho => obtain rfl := Option.some.inj ho; exact ⟨Or.inl ⟨rfl, by decide⟩, rfl, by decide, by decide⟩
            | 3, ho => obtain rfl := Option.some.inj ho; exact ⟨Or.inl ⟨rfl, by decide⟩, rfl, by decide, by decide⟩
            | 4, ho => obtain rfl := Option.some.inj ho; exact ⟨Or.inl ⟨rfl, by decide⟩, rfl, by decide, by decide⟩
            | 5, ho => obtain rfl := Option.some.inj ho; exact ⟨Or.inl ⟨rfl, by decide⟩, rfl, by decide, by decide⟩
            | 6, ho => obtain rfl := Option.some.inj ho; exact ⟨Or.inl ⟨rfl, by decide⟩, rfl, by decide, by decide⟩
            | 7, ho => obtain rfl := Option.some.inj ho; exact ⟨Or.inl ⟨rfl, by decide⟩, rfl, by decide, by decide⟩
            | 8, ho => obtain rfl := Option.some.inj ho; exact ⟨Or.inl ⟨rfl, by decide⟩, rfl, by decide, by decide⟩
            | 9, ho => obtain rfl := Option.some.inj ho; exact ⟨Or.inl ⟨rfl, by decide⟩, rfl, by decide, by decide⟩
            | 10, ho => obtain rfl := Option.some.inj ho; exact ⟨Or.inl ⟨rfl, by decide⟩, rfl, by decide, by decide⟩
            | 11, ho => obtain rfl := Option.some.inj ho; exact ⟨Or.inl ⟨rfl, by decide⟩, rfl, by decide, by decide⟩
            | 12, ho => obtain rfl := Option.some.inj ho; exact ⟨Or.inl ⟨rfl, by decide⟩, rfl, by decide, by decide⟩
            | 13, ho => obtain rfl := Option.some.inj ho; exact ⟨Or.inl ⟨rfl, by decide⟩, rfl, by decide, by decide⟩
            | 14, ho => obtain rfl := Option.some.inj ho; exact ⟨Or.inl ⟨rfl, by decide⟩, rfl, by decide, by decide⟩
            | 15, ho => obtain rfl := Option.some.inj ho; exact ⟨Or.inl ⟨rfl, by decide⟩, rfl, by decide, by decide⟩
            | 16, ho => obtain rfl := Option.some.inj ho; exact ⟨Or.inl ⟨rfl, by decide⟩, rfl, by decide, by decide⟩
            | 17, ho => obtain rfl := Option.some.inj ho; exact ⟨Or.inl ⟨rfl, by decide⟩, rfl, by decide, by decide⟩
            | 18, ho => obtain rfl := Option.some.inj ho; exact ⟨Or.inl ⟨rfl, by decide⟩, rfl, by decide, by decide⟩
            | 19, ho => obtain rfl := Option.some.inj ho; exact ⟨Or.inr ⟨rfl, rfl, fun _ _ _ h => h⟩, rfl, by decide, by decide⟩
            | k + 20, ho => simp at ho
          · intro i hi
            match i, hi with
            | 0, _ => exact ⟨1, by decide, by decide, by decide⟩
            | 1, _ => exact ⟨2, by decide, by decide, by decide⟩
            | 2, _ => exact ⟨3, by decide, by decide, by decide⟩
            | 3, _ => exact ⟨19, by decide, by decide, by decide⟩
            | 4, _ => exact ⟨19, by decide, by decide, by decide⟩
            | 5, _ => exact ⟨6, by decide, by decide, by decide⟩
            | 6, _ => exact ⟨7, by decide, by decide, by decide⟩
            | 7, _ => exact ⟨8, by decide, by decide, by decide⟩
            | 8, _ => exact ⟨10, by decide, by decide, by decide⟩
            | 9, _ => exact ⟨10, by decide, by decide, by decide⟩
            | 10, _ => exact ⟨18, by decide, by decide, by decide⟩
            | 11, _ => exact ⟨16, by decide, by decide, by decide⟩
            | 12, _ => exact ⟨13, by decide, by decide, by decide⟩
            | 13, _ => exact ⟨14, by decide, by decide, by decide⟩
            | 14, _ => exact ⟨15, by decide, by decide, by decide⟩
            | 15, _ => exact ⟨16, by decide, by decide, by decide⟩
            | 16, _ => exact ⟨17, by decide, by decide, by decide⟩
            | 17, _ => exact ⟨18, by decide, by decide, by decide⟩
            | 18, _ => exact ⟨19, by decide, by decide, by decide⟩
            | k + 19, hi => omega
          · intro i o hi hq ho a' V j v hj hSV hoth hd
            have hC : (fun V : World => V.heap[b]? = wr.heap[b]? ∧ V.heap[mb]? = wr.heap[mb]?) V := by
              match j, hj, hSV with
              | 0, _, h => exact cB V h.1
              | 1, _, h => exact cB V h.1
              | 2, _, h => exact cG V _ h.1
              | k + 3, hj, _ => omega
            clear hSV hj
            have oS0 : a'.eval (.tmp 0) = .pointer (some ⟨b, 0, none⟩) := hoth 0 (by decide)
            have oS7 : a'.eval (.tmp 7) = .int .i64 (now + jx) := hoth 7 (by decide)
            have oS4 : a'.eval (.tmp 4) = .int .i64 (k : Int) := hoth 4 (by decide)
            clear hoth
            obtain ⟨ρ, hρ⟩ : ∃ ρ, ρ = a'.eval := ⟨_, rfl⟩
            have hc : ∀ v, ρ (.const v) = v := fun v => by rw [hρ]; rfl
            simp only [← hρ] at hd ⊢
            rw [← hρ] at oS0
            rw [← hρ] at oS7
            rw [← hρ] at oS4
            clear hρ
            match i, hi, hq, ho with
            | 0, _, _, ho =>
              obtain rfl := Option.some.inj ho
              clear hd hq
              exact ⟨.pointer (some ⟨b, 0, none⟩), by simp only [execOp]; go_simp, rfl⟩
            | 1, _, _, ho =>
              obtain rfl := Option.some.inj ho
              have e0 : ρ (.tmp 40) = .pointer (some ⟨b, 0, none⟩) := hd 0 (by decide) (by decide)
              clear hd hq
              exact ⟨.pointer (some ⟨b, 0, none⟩), by simp only [execOp]; go_simp, rfl⟩
            | 2, _, _, ho =>
              obtain rfl := Option.some.inj ho
              have e1 : ρ (.tmp 41) = .pointer (some ⟨b, 0, none⟩) := hd 1 (by decide) (by decide)
              clear hd hq
              exact ⟨.pointer (some ⟨b, 3, none⟩), by simp only [execOp]; go_simp, rfl⟩
            | 3, _, _, ho =>
              obtain rfl := Option.some.inj ho
              have e2 : ρ (.tmp 42) = .pointer (some ⟨b, 3, none⟩) := hd 2 (by decide) (by decide)
              clear hd hq
              have cc3 := (cC V hC.1).2
              exact ⟨.map (some mb), by simp only [execOp]; go_simp, rfl⟩
            | 4, _, _, ho =>
              obtain rfl := Option.some.inj ho
              clear hd hq
              exact ⟨.int .i64 (now + jx), by simp only [execOp]; go_simp, rfl⟩
            | 5, _, _, ho =>
              obtain rfl := Option.some.inj ho
              clear hd hq
              exact ⟨.pointer (some ⟨b, 0, none⟩), by simp only [execOp]; go_simp, rfl⟩
            | 6, _, _, ho =>
              obtain rfl := Option.some.inj ho
              have e5 : ρ (.tmp 45) = .pointer (some ⟨b, 0, none⟩) := hd 5 (by decide) (by decide)
              clear hd hq
              exact ⟨.pointer (some ⟨b, 0, none⟩), by simp only [execOp]; go_simp, rfl⟩
            | 7, _, _, ho =>
              obtain rfl := Option.some.inj ho
              have e6 : ρ (.tmp 46) = .pointer (some ⟨b, 0, none⟩) := hd 6 (by decide) (by decide)
              clear hd hq
              exact ⟨.pointer (some ⟨b, 3, none⟩), by simp only [execOp]; go_simp, rfl⟩
            | 8, _, _, ho =>
              obtain rfl := Option.some.inj ho
              have e7 : ρ (.tmp 47) = .pointer (some ⟨b, 3, none⟩) := hd 7 (by decide) (by decide)
              clear hd hq
              have cc3 := (cC V hC.1).2
              exact ⟨.map (some mb), by simp only [execOp]; go_simp, rfl⟩
            | 9, _, _, ho =>
              obtain rfl := Option.some.inj ho
              clear hd hq
              exact ⟨.int .i64 (now + jx), by simp only [execOp]; go_simp, rfl⟩
            | 10, _, _, ho =>
              obtain rfl := Option.some.inj ho
              have e8 : ρ (.tmp 48) = .map (some mb) := hd 8 (by decide) (by decide)
              have e9 : ρ (.tmp 49) = .int .i64 (now + jx) := hd 9 (by decide) (by decide)
              clear hd hq
              have hlk := run_lookup_mp 51 3 33 Try.underlying3 Try.underlying51 (zeroS V) (HT'.out.mpg.at_block hC.2) hwf
              exact ⟨atM Mk (now + jx), by simp only [execOp]; go_simp, rfl⟩
            | 11, _, _, ho =>
              obtain rfl := Option.some.inj ho
              clear hd hq
              exact ⟨.int .i64 (k : Int), by simp only [execOp]; go_simp, rfl⟩
            | 12, _, _, ho =>
              obtain rfl := Option.some.inj ho
              clear hd hq
              exact ⟨.pointer (some ⟨b, 0, none⟩), by simp only [execOp]; go_simp, rfl⟩
            | 13, _, _, ho =>
              obtain rfl := Option.some.inj ho
              have e12 : ρ (.tmp 52) = .pointer (some ⟨b, 0, none⟩) := hd 12 (by decide) (by decide)
              clear hd hq
              exact ⟨.pointer (some ⟨b, 0, none⟩), by simp only [execOp]; go_simp, rfl⟩
            | 14, _, _, ho =>
              obtain rfl := Option.some.inj ho
              have e13 : ρ (.tmp 53) = .pointer (some ⟨b, 0, none⟩) := hd 13 (by decide) (by decide)
              clear hd hq
              exact ⟨.pointer (some ⟨b, 2, none⟩), by simp only [execOp]; go_simp, rfl⟩
            | 15, _, _, ho =>
              obtain rfl := Option.some.inj ho
              have e14 : ρ (.tmp 54) = .pointer (some ⟨b, 2, none⟩) := hd 14 (by decide) (by decide)
              clear hd hq
              have cc2 := (cC V hC.1).1
              exact ⟨.int .i64 now, by simp only [execOp]; go_simp, rfl⟩
            | 16, _, _, ho =>
              obtain rfl := Option.some.inj ho
              have e11 : ρ (.tmp 51) = .int .i64 (k : Int) := hd 11 (by decide) (by decide)
              have e15 : ρ (.tmp 55) = .int .i64 now := hd 15 (by decide) (by decide)
              clear hd hq
              exact ⟨.agg #[.int .i64 (k : Int), .int .i64 now], by simp only [execOp]; go_simp, rfl⟩
            | 17, _, hq, _ => exact absurd rfl (hq 0 (by decide))
            | 18, _, hq, _ => exact absurd rfl (hq 1 (by decide))
            | 19, _, hq, _ => exact absurd rfl (hq 2 (by decide))
            | k + 20, hi, _, _ => exact absurd hi (by omega)
          · intro t o ht ho a' V v hSV hv hoth hd K hK
            have oS0 : a'.eval (.tmp 0) = .pointer (some ⟨b, 0, none⟩) := hoth 0 (by decide)
            have oS7 : a'.eval (.tmp 7) = .int .i64 (now + jx) := hoth 7 (by decide)
            have oS4 : a'.eval (.tmp 4) = .int .i64 (k : Int) := hoth 4 (by decide)
            clear hoth
            match t, ht, ho, hSV, hv, hd, hK with
            | 0, _, ho, hSV, hv, hd, hK =>
              obtain rfl := Option.some.inj ho
              have hSV : (fun _ V => Below wr.heap.size wr V ∧ V.heap.size = wr.heap.size : Value → World → Prop) v V := hSV
              have hK : ∀ v' W', (fun v V => Below wr.heap.size wr V ∧ ∃ g, v = .slice (some ⟨g, 0, none⟩) 1 1 ∧ ∀ j0 x0, ([.int .i64 (k : Int), .int .i64 now] : List Value)[j0]? = some x0 → V.cell? ⟨g, j0, none⟩ = some x0 : Value → World → Prop) v' W' → K (a'.put (some 57) v') W' := hK
              have e16 : a'.eval (.tmp 56) = .agg #[.int .i64 (k : Int), .int .i64 now] := hd 16 (by decide) (by decide)
              clear hd
              obtain ⟨ρ, hρ⟩ : ∃ ρ, ρ = a'.eval := ⟨_, rfl⟩
              have r16 : ρ (.tmp 56) = .agg #[.int .i64 (k : Int), .int .i64 now] := by rw [hρ]; exact e16
              have q0 : ρ (.tmp 0) = .pointer (some ⟨b, 0, none⟩) := by rw [hρ]; exact oS0
              have q7 : ρ (.tmp 7) = .int .i64 (now + jx) := by rw [hρ]; exact oS7
              have q4 : ρ (.tmp 4) = .int .i64 (k : Int) := by rw [hρ]; exact oS4
              refine wp_value (v := .slice (some ⟨V.heap.size, 0, none⟩) 1 1) (w' := V.alloc (.cells #[.int .i64 (k : Int), .int .i64 now] 48)) (by rw [← hρ]; clear hρ; simp only [execOp]; go_simp) (hK _ _ ⟨hSV.1.alloc hSV.1.size _, V.heap.size, rfl, cells_new V _ _⟩)
            | 1, _, ho, hSV, hv, hd, hK =>
              obtain rfl := Option.some.inj ho
              have hSV : (fun v V => Below wr.heap.size wr V ∧ ∃ g, v = .slice (some ⟨g, 0, none⟩) 1 1 ∧ ∀ j0 x0, ([.int .i64 (k : Int), .int .i64 now] : List Value)[j0]? = some x0 → V.cell? ⟨g, j0, none⟩ = some x0 : Value → World → Prop) v V := hSV
              have hK : ∀ v' W', (fun v V => wr.grownBy V (atM Mk (now + jx)).ownBlock ∧ V.ownsRow 0 48 2 v ((dueL (now + jx) Lk).length + 1) (duC (dueL (now + jx) Lk) ++ encP ((k : Int), now)) ∧ (v.ownBlock = (atM Mk (now + jx)).ownBlock ∨ ∃ g, v.ownBlock = some g ∧ wr.heap.size ≤ g) : Value → World → Prop) v' W' → K (a'.put (some 58) v') W' := hK
              have e10 : a'.eval (.tmp 50) = atM Mk (now + jx) := hd 10 (by decide) (by decide)
              have hv : v = a'.eval (.tmp 57) := hv (by decide)
              clear hd
              obtain ⟨ρ, hρ⟩ : ∃ ρ, ρ = a'.eval := ⟨_, rfl⟩
              have r10 : ρ (.tmp 50) = atM Mk (now + jx) := by rw [hρ]; exact e10
              have q0 : ρ (.tmp 0) = .pointer (some ⟨b, 0, none⟩) := by rw [hρ]; exact oS0
              have q7 : ρ (.tmp 7) = .int .i64 (now + jx) := by rw [hρ]; exact oS7
              have q4 : ρ (.tmp 4) = .int .i64 (k : Int) := by rw [hρ]; exact oS4
              obtain ⟨hb, g, hg, hcs⟩ := hSV
              rw [hg] at hv
              exact wp_append_at V (.tmp 50) (.tmp 57) 33 rfl 0 48 i0 (.agg #[.int .i64 0, .int .i64 0]) 2 16 Try.underlying33 hi0 hz0 hz1 hz2 rfl (by decide) (atM Mk (now + jx)) (dueL (now + jx) Lk).length (duC (dueL (now + jx) Lk)) e10 (own_keep (HT'.out.atS _) hb) ⟨g, 0, none⟩ 1 1 [.int .i64 (k : Int), .int .i64 now] hv.symm rfl (fun j0 x0 hj0 => by rw [add_plain', Nat.zero_add]; exact hcs j0 x0 hj0) (encP_cell ((k : Int), now)) (by unfold maxLen; omega) (by omega) (Nat.zero_le _) (fun v' W' h1 h2 h3 => hK v' W' ⟨World.grownBy.trans ⟨hb.os, hb.tape, hb.output, hb.size, fun i hi _ => hb.block i hi⟩ h2, h1, h3.imp id (fun e => ⟨_, e, hb.size⟩)⟩)
            | 2, _, ho, hSV, hv, hd, hK =>
              obtain rfl := Option.some.inj ho
              have hSV : (fun v V => wr.grownBy V (atM Mk (now + jx)).ownBlock ∧ V.ownsRow 0 48 2 v ((dueL (now + jx) Lk).length + 1) (duC (dueL (now + jx) Lk) ++ encP ((k : Int), now)) ∧ (v.ownBlock = (atM Mk (now + jx)).ownBlock ∨ ∃ g, v.ownBlock = some g ∧ wr.heap.size ≤ g) : Value → World → Prop) v V := hSV
              have hK : ∀ v' W', (fun _ V => ∃ v V2, (wr.grownBy V2 (atM Mk (now + jx)).ownBlock ∧ V2.ownsRow 0 48 2 v ((dueL (now + jx) Lk).length + 1) (duC (dueL (now + jx) Lk) ++ encP ((k : Int), now)) ∧ (v.ownBlock = (atM Mk (now + jx)).ownBlock ∨ ∃ g, v.ownBlock = some g ∧ wr.heap.size ≤ g)) ∧ MpG Try.prog 3 V mb (nk + 1) (updM Mk (now + jx) (some v)) ∧ V2.grownBy V (some mb) : Value → World → Prop) v' W' → K (a'.put none v') W' := hK
              have e3 : a'.eval (.tmp 43) = .map (some mb) := hd 3 (by decide) (by decide)
              have e4 : a'.eval (.tmp 44) = .int .i64 (now + jx) := hd 4 (by decide) (by decide)
              have hv : v = a'.eval (.tmp 58) := hv (by decide)
              clear hd
              obtain ⟨ρ, hρ⟩ : ∃ ρ, ρ = a'.eval := ⟨_, rfl⟩
              have r3 : ρ (.tmp 43) = .map (some mb) := by rw [hρ]; exact e3
              have r4 : ρ (.tmp 44) = .int .i64 (now + jx) := by rw [hρ]; exact e4
              have q0 : ρ (.tmp 0) = .pointer (some ⟨b, 0, none⟩) := by rw [hρ]; exact oS0
              have q7 : ρ (.tmp 7) = .int .i64 (now + jx) := by rw [hρ]; exact oS7
              have q4 : ρ (.tmp 4) = .int .i64 (k : Int) := by rw [hρ]; exact oS4
              obtain ⟨hg1, ho1, hl1⟩ := hSV
              obtain ⟨dd, hdd⟩ := own_slE ho1
              exact wp_update_mp V (.tmp 43) (.tmp 44) (.tmp 58) 51 rfl 3 33 Try.underlying3 Try.underlying51 mb nk Mk e3 (HT'.out.mpg.at_block (cG V _ hg1).2) (by unfold maxLen; omega) (now + jx) e4 hwf v hv.symm dd hdd (fun W' h1 h2 => hK undef W' ⟨v, V, ⟨hg1, ho1, hl1⟩, h1, h2⟩)
            | k + 3, ht, _, _, _, _, _ => exact absurd ht (by omega)
          · intro a' V hsz hdef hoth hS
            have hS : (fun _ V => ∃ v V2, (wr.grownBy V2 (atM Mk (now + jx)).ownBlock ∧ V2.ownsRow 0 48 2 v ((dueL (now + jx) Lk).length + 1) (duC (dueL (now + jx) Lk) ++ encP ((k : Int), now)) ∧ (v.ownBlock = (atM Mk (now + jx)).ownBlock ∨ ∃ g, v.ownBlock = some g ∧ wr.heap.size ≤ g)) ∧ MpG Try.prog 3 V mb (nk + 1) (updM Mk (now + jx) (some v)) ∧ V2.grownBy V (some mb) : Value → World → Prop) (a'.eval (.tmp 60)) V := hS
            have hcov : ∀ i, i ≤ 19 → 40 ≤ (fun i => ([40, 41, 42, 43, 44, 45, 46, 47, 48, 49, 50, 51, 52, 53, 54, 55, 56, 57, 58, 60] : List Nat).getD i 0) i ∧ (fun i => ([40, 41, 42, 43, 44, 45, 46, 47, 48, 49, 50, 51, 52, 53, 54, 55, 56, 57, 58, 60] : List Nat).getD i 0) i < 59 ∨ (fun i => ([40, 41, 42, 43, 44, 45, 46, 47, 48, 49, 50, 51, 52, 53, 54, 55, 56, 57, 58, 60] : List Nat).getD i 0) i = 60 := by decide
            obtain ⟨us, hu1, hu2, rfl⟩ := act_mix 40 19 rfl hsz hdef (by simp) (fun k hk => by
              by_cases hkT : k = 60
              · subst hkT; unfold Act.eval; simp [hsz]
              · exact hoth k (fun i hi => by have := hcov i hi; dsimp only at this ⊢; omega))
            match us, hu1 with
            | u40 :: u41 :: u42 :: u43 :: u44 :: u45 :: u46 :: u47 :: u48 :: u49 :: u50 :: u51 :: u52 :: u53 :: u54 :: u55 :: u56 :: u57 :: u58 :: [], _ =>
              have HS := Lib.hid hS
              clear hS
              go_wp2
              go_roundw
              case rel =>
                obtain ⟨v, V2, ⟨hg1, ho1, hl1⟩, hm, hg2⟩ := HS.out
                have hput := HT'.out.put hg1 ho1 hl1 hm hg2
                have htr2 : Trn Fk wr V := (Trn.of_grown hg1 (F := Fk) (fun g e => (HT'.out.at_in e).1)).trans (Trn.of_grown hg2 (F := Fk) (fun g e => by cases e; exact HT'.out.inm)) (fun g hg => Or.inl hg)
                refine ⟨k + 1, cnt', nk + 1, a2, m2, cc2, _, _, _, by omega, rfl, by go_num, hmc2, hcc2, hput, by omega, ?_, HR2.out.trn htr2 HN2.out, fun h0 bb off e hc9 => ?_, fun g hg => ?_, HTR.out.trans htr2 HF.out⟩
                · rw [HL.out, HREL.out, List.append_assoc]; rfl
                · rcases hc9.1 with h1 | h1
                  · exact HN2.out h0 bb off e h1
                  · obtain ⟨b1, o1, e1, hlt1, _⟩ := HR2.out.2 h0
                    rw [e] at e1
                    cases e1
                    omega
                · rcases hg.1 with h1 | h1
                  · exact HF.out g h1
                  · exact Or.inr (Nat.le_trans HTR.out.size h1)
              case measure => simp [intOf]; omega
      · have hqb : (now % p != 0) = true := by simp [hq]
        go_wp2
        go_roundw
        case rel =>
          refine ⟨k + 1, cnt, nk, a', m', c', Fk, Mk, Lk, by omega, rfl, by go_num, hmc', hc', HT'.out, by omega, ?_, HR'.out, HN'.out, HF.out, HTR.out⟩
          rw [HL.out, HD.out]
          show _ ++ (if now % p = 0 then _ else _) = _
          rw [if_neg hq]
          rfl
        case measure => simp [intOf]; omega
    · obtain rfl : k = pz.length := by omega
      have HE : Hid (L ++ rel now pz 0 zs = Lk) := by
        show _ = _
        rw [hL, List.drop_eq_nil_of_le (Nat.le_refl _)]
        show Lk ++ [] = Lk
        exact List.append_nil _
      have HT' := Lib.hid (ht.mono hnk)
      clear ht hL
      go_wp2
      go_end0
      exact ⟨rfl, Fk, Mk, by rw [HE.out]; exact HT'.out, hF, htr⟩
end Go.Proofs.Ytdhchfmefdlloaa
