/- What is proved here: a contract of the document's Next. Conditions: rows are not too long. -/
import Derived.Test.YtiibbeigkopkeaaRb
import Derived.Test.YtiibbeigkopkeaaDc
import Derived.RegionTactic
import Derived.ChangeAlike
import Derived.Deep.QuietTactic
import Derived.BigQuiet
namespace Go.Proofs.Ytiibbeigkopkeaa
open Go.ChangeShapes Go.WideShapes Go.RowKit

/-- The sum of a row of rows, and what is wrong. -/
def nxR (L : List RtR) (i wv : Int) : Int × Int :=
  if (rgR L && (decide (0 ≤ i) && (decide (i < (L.length : Int)) && rtI wv))) = true then
    match nxO (L.getD i.toNat ⟨0, 0, 0, 0, 0, 0⟩) (oth L (L.getD i.toNat ⟨0, 0, 0, 0, 0, 0⟩).P i.toNat) wv with
    | some m => (m, 0)
    | none => (0, 4)
  else (0, 1)
theorem nxR_bad {L : List RtR} {i wv : Int} (h : (rgR L && (decide (0 ≤ i) && (decide (i < (L.length : Int)) && rtI wv))) = false) : nxR L i wv = (0, 1) := by
  unfold nxR; rw [if_neg (by rw [h]; decide)]
theorem nxR_at {L : List RtR} {k : Nat} {wv : Int} {x : RtR} (hg : rgR L = true) (hk : L[k]? = some x) (hw : rtI wv = true) : nxR L k wv = match nxO x (oth L x.P k) wv with | some m => (m, 0) | none => (0, 4) := by
  have hl : k < L.length := (List.getElem?_eq_some_iff.1 hk).1
  unfold nxR
  rw [if_pos (by rw [hg, hw, decide_eq_true (by omega : (0 : Int) ≤ k), decide_eq_true (by omega : (k : Int) < (L.length : Int))]; rfl)]
  have e : L.getD (k : Int).toNat ⟨0, 0, 0, 0, 0, 0⟩ = x := by rw [Int.toNat_natCast, List.getD_eq_getElem?_getD, hk]; rfl
  rw [e, Int.toNat_natCast]
theorem blw_drew (w : World) : Below w.heap.size w w.drew := ⟨rfl, rfl, rfl, Nat.le_refl _, fun _ _ => rfl⟩
theorem sames_beq (p : Int) (r : RtR) : sames p r = (r.P == p) := by unfold sames; rw [Bool.eq_iff_iff]; simp
/-- The frame behind such a region, two slots of which stand apart. -/
theorem act_mix2 {a a' : Act} {l : List Value} (lo n d d2 : Nat) (v v2 : Value) (hl : a.tmps = l.toArray) (hs : a'.tmps.size = a.tmps.size) (hd : a'.defers = a.defers) (hn : lo + n ≤ l.length) (hdl : d < l.length) (hdl2 : d2 < l.length) (hv : a'.eval (.tmp d) = v) (hv2 : a'.eval (.tmp d2) = v2) (hdo : d < lo ∨ lo + n ≤ d)
    (ho : ∀ k, k ≠ d → k ≠ d2 → (k < lo ∨ lo + n ≤ k) → a'.eval (.tmp k) = a.eval (.tmp k)) :
    ∃ us : List Value, us.length = n ∧ a' = { tmps := (((l.set d2 v2).set d v).take lo ++ (us ++ ((l.set d2 v2).set d v).drop (lo + n))).toArray, defers := a.defers } :=
  act_mix1 (a := { tmps := (l.set d2 v2).toArray, defers := a.defers }) (a' := a') (l := l.set d2 v2) lo n d v rfl (by rw [hs, hl]; simp) hd (by rw [List.length_set]; exact hn) (by rw [List.length_set]; exact hdl) hv hdo (fun k hkd hk => by
    by_cases e : k = d2
    · subst e
      rw [hv2]; unfold Act.eval; simp [hdl2]
    · rw [ho k hkd e hk]
      unfold Act.eval
      rw [hl]
      simp [List.getElem?_set_ne (Ne.symm e)])
/-- What is summed up. -/
def tms (x : RtR) (wv : Int) (o : List RtR) : List Int := x.C :: x.B :: o.map fun r => ptV r wv (sames x.P r)
theorem tms_snoc (x : RtR) (wv : Int) (o : List RtR) (y : RtR) : tms x wv (o ++ [y]) = tms x wv o ++ [ptV y wv (sames x.P y)] := by simp [tms]
theorem tms_sum (x : RtR) (wv : Int) (o : List RtR) : (tms x wv o).sum = x.C + x.B + suV o x.P wv := by
  unfold tms suV
  rw [List.sum_cons, List.sum_cons]; omega
theorem tms_al {x : RtR} {wv : Int} {o : List RtR} (hx : okR x = true) (ho : ∀ y ∈ o, okR y = true) (hw : rtI wv = true) (hb : suB o x.P wv = false) : al (tms x wv o) = true := by
  obtain ⟨⟨p1, p2⟩, ⟨p3, p4⟩, _⟩ := okR_parts hx
  rw [al_iff]
  intro z hz
  unfold tms at hz
  rw [List.mem_cons, List.mem_cons, List.mem_map] at hz
  rcases hz with rfl | rfl | ⟨y, hy, rfl⟩
  · exact rt_iff.2 (by omega)
  · exact rt_iff.2 (by omega)
  · have h1 := ptV_pos (ho y hy) (rtI_iff.1 hw).1 (sames x.P y)
    unfold suB at hb
    rw [List.any_eq_false] at hb
    have h2 := hb y hy
    unfold ptB at h2
    simp only [Bool.or_eq_true, decide_eq_true_eq, not_or] at h2
    exact rt_iff.2 (by omega)
theorem oth_in {L : List RtR} {k i0 : Nat} {y : RtR} {p : Int} (h : L[k]? = some y) (hk : ¬ k = i0) (hp : p ≤ y.P) : y ∈ oth L p i0 := by
  unfold oth
  refine List.mem_map.2 ⟨(y, k), List.mem_filter.2 ⟨?_, by unfold cnt; simp [hk, hp]⟩, rfl⟩
  refine List.mem_of_getElem? (i := k) ?_
  rw [List.getElem?_zipIdx, h]; simp
theorem nxO_bad {x y : RtR} {o : List RtR} {wv : Int} (hy : y ∈ o) (hb : ptB y wv (sames x.P y) = true) : nxO x o wv = none := by
  unfold nxO
  rw [if_pos (Or.inl (by unfold suB; rw [List.any_eq_true]; exact ⟨y, hy, hb⟩))]
set_option maxHeartbeats 4000000 in
set_option maxRecDepth 100000 in
theorem nextR_any (a : Option Addr) (n c : Nat) (L : List RtR) (i wv : Int) (w : World) (hr : RowS w a n L) (hn : n ≤ 140737488355328) (rv er : Int) (hq : nxR L i wv = (rv, er)) :
    Calls Try.prog 13 #[.slice a n c, .int .i64 i, .int .i64 wv] w fun e w' => e = .returned (.tuple #[.int .i64 rv, .int .i64 er]) ∧ Below w.heap.size w w' := by
  have HL := Lib.hid hr.1
  obtain ⟨g, hg⟩ : ∃ g, rgR L = g := ⟨_, rfl⟩
  have CR := Lib.hid (rowsR_any a n c L w hr hn g hg)
  cases g
  · rw [nxR_bad (by rw [hg]; rfl)] at hq; cases hq
    clear hg
    go_enter Try.func13, Try.ntmps13
    go_wp2_with (go_at_call 19; refine CR.out.mono ?_; rintro e w2 ⟨rfl, hb2⟩)
    go_ret2
    exact ⟨rfl, hb2⟩
  by_cases z1 : i < 0
  · rw [nxR_bad (by rw [decide_eq_false (p := 0 ≤ i) (by omega)]; simp)] at hq; cases hq
    clear hg
    have q1 : decide (i < 0) = true := decide_eq_true z1
    go_enter Try.func13, Try.ntmps13
    go_wp2_with (go_at_call 19; refine CR.out.mono ?_; rintro e w2 ⟨rfl, hb2⟩)
    go_ret2
    exact ⟨rfl, hb2⟩
  have q1 : decide (i < 0) = false := decide_eq_false z1
  by_cases z2 : (n : Int) ≤ i
  · rw [nxR_bad (by rw [decide_eq_false (p := i < (L.length : Int)) (by have := HL.out; omega)]; simp)] at hq; cases hq
    clear hg
    have q2 : decide ((n : Int) ≤ i) = true := decide_eq_true z2
    go_enter Try.func13, Try.ntmps13
    go_wp2_with (go_at_call 19; refine CR.out.mono ?_; rintro e w2 ⟨rfl, hb2⟩)
    go_ret2
    exact ⟨rfl, hb2⟩
  have q2 : decide ((n : Int) ≤ i) = false := decide_eq_false z2
  obtain ⟨g2, hg2⟩ : ∃ g, rtI wv = g := ⟨_, rfl⟩
  have CW := rightAs wv g2 hg2
  cases g2
  · rw [nxR_bad (by rw [hg2]; simp)] at hq; cases hq
    clear hg
    go_enter Try.func13, Try.ntmps13
    go_wp2_with (first
      | (go_at_call 19; refine CR.out.mono ?_; rintro e w2 ⟨rfl, hb2⟩)
      | (go_at_call 24; refine (CW _).mono ?_; rintro e w3 ⟨rfl, hw3⟩; have hw3 := hw3.symm; subst hw3))
    go_ret2
    exact ⟨rfl, hb2⟩
  obtain ⟨i0, rfl⟩ := Int.eq_ofNat_of_zero_le (by omega : 0 ≤ i)
  have hi0 : i0 < n := by omega
  obtain ⟨b1, o1, x, rfl, hB1, hx, f0, f1, f2, f3, f4, f5⟩ := hr.item (Below.refl _ _) hi0
  have hn8 : n ≤ 8 := by have h1 := hr.1; unfold rgR at hg; simp only [Bool.and_eq_true, decide_eq_true_eq] at hg; omega
  have HQ := Lib.hid ((nxR_at hg hx hg2).symm.trans hq)
  have HX := Lib.hid hx
  obtain ⟨tinf, hi0, hz0, hz1, hz2⟩ := info_parts int_info
  have HG := Lib.hid hg
  have HW := Lib.hid hg2
  have HF := Lib.hid (And.intro f4 (And.intro f2 f5))
  clear hq hx hg hg2 z1 z2 q1 f2 f3 f4 f5
  have q1 : decide ((i0 : Int) < 0) = false := decide_eq_false (by omega)
  have i1 : (0 : Int) ≤ (i0 : Int) := by omega
  have i2 : (i0 : Int) < (n : Int) := by omega
  go_enter Try.func13, Try.ntmps13
  go_wp2_with (first
    | (go_at_call 19; refine CR.out.mono ?_; rintro e w2 ⟨rfl, hb2⟩; have h0 := keep_cell hb2 f0; have h1 := keep_cell hb2 f1)
    | (go_at_call 24; refine (CW _).mono ?_; rintro e w3 ⟨rfl, hw3⟩; have hw3 := hw3.symm; subst hw3))
  go_region
  have hb3 := Lib.hid (keep_below hb2 (keep_below (below_alloc w2 (.cells #[.int .i64 x.C, .int .i64 x.B] 3)) (blw_drew (w2.alloc (.cells #[.int .i64 x.C, .int .i64 x.B] 3)))))
  have own0 := Lib.hid (own_keep (World.ownsRow_lit (base := w.heap.size) (e := 3) (size := 1) w2 #[.int .i64 x.C, .int .i64 x.B] 2 hb2.size (by unfold maxLen; omega) rfl) (blw_drew (w2.alloc (.cells #[.int .i64 x.C, .int .i64 x.B] 3))))
  clear h0 h1
  generalize (w2.alloc (.cells #[.int .i64 x.C, .int .i64 x.B] 3)).drew = W0 at hb3 own0 ⊢
  clear hb2
  go_wp2
  go_loopw [8, 9] (fun s j wr => ∃ kk q : Nat, kk ≤ n ∧ j = .int .i64 kk ∧ q ≤ kk + 2 ∧ Hid (wr.ownsRow w.heap.size 3 1 s q ((tms x wv (othTo L x.P i0 kk)).map (Value.int .i64))) ∧ Hid (suB (othTo L x.P i0 kk) x.P wv = false) ∧ Hid (Below w.heap.size w wr)) (fun _ j _ => n - (intOf j).toNat)
  case atStart => exact ⟨0, 2, by omega, rfl, by omega, own0, rfl, hb3⟩
  case round =>
    obtain ⟨kk, q, hk, rfl, hq2, HO, HB, HBL⟩ := hrel
    by_cases hlt : kk < n
    · have x5 := keep_cell HBL.out HF.out.2.2
      obtain ⟨b2, o2, y, e2, hB2, hy, y0, y1, y2, y3, y4, y5⟩ := hr.item HBL.out hlt
      cases e2
      have HY := Lib.hid hy
      have hyR := rgR_mem HG.out (List.mem_of_getElem? hy)
      have HTo := Lib.hid (othTo_succ hy x.P i0)
      clear hy
      have j1 : (0 : Int) ≤ (kk : Int) := by omega
      have j2 : (kk : Int) < (n : Int) := by omega
      by_cases hki : kk = i0
      · have HO2 : Hid (othTo L x.P i0 (kk + 1) = othTo L x.P i0 kk) := by show _ = _; rw [HTo.out, if_neg (by simp [hki])]
        subst hki
        go_wp2
        go_quiet (fail)
        go_wp2
        go_roundw
        case rel => exact ⟨kk + 1, q, by omega, by go_num, by omega, by rw [HO2.out]; exact own_keep HO.out ⟨rfl, rfl, rfl, Nat.le_refl _, fun _ _ => rfl⟩, by rw [HO2.out]; exact HB, keep_below HBL.out ⟨rfl, rfl, rfl, Nat.le_refl _, fun _ _ => rfl⟩⟩
        case measure => simp [intOf]; omega
      have d3 : ((kk : Int) == (i0 : Int)) = false := beq_eq_false_iff_ne.2 (by omega)
      by_cases hyx : y.P < x.P
      · have HO2 : Hid (othTo L x.P i0 (kk + 1) = othTo L x.P i0 kk) := by show _ = _; rw [HTo.out, if_neg (by omega)]
        have d2 : decide (y.P < x.P) = true := decide_eq_true hyx
        go_wp2
        go_quiet (fail)
        go_wp2
        go_roundw
        case rel => exact ⟨kk + 1, q, by omega, by go_num, by omega, by rw [HO2.out]; exact own_keep HO.out ⟨rfl, rfl, rfl, Nat.le_refl _, fun _ _ => rfl⟩, by rw [HO2.out]; exact HB, keep_below HBL.out ⟨rfl, rfl, rfl, Nat.le_refl _, fun _ _ => rfl⟩⟩
        case measure => simp [intOf]; omega
      have d2 : decide (y.P < x.P) = false := decide_eq_false hyx
      have HO2 : Hid (othTo L x.P i0 (kk + 1) = othTo L x.P i0 kk ++ [y]) := by show _ = _; rw [HTo.out, if_pos (by omega)]
      obtain ⟨⟨pv, pe⟩, hp⟩ : ∃ p, ptR y wv (y.P == x.P) = p := ⟨_, rfl⟩
      have CP := Lib.hid (fun W => partR_any y wv (y.P == x.P) W hyR HW.out pv pe hp)
      have HP : Hid (Tells pv pe (ptB y wv (sames x.P y)) (ptV y wv (sames x.P y))) := by
        have := ptR_tells (y.P == x.P) hyR HW.out
        rw [hp, ← sames_beq] at this; exact this
      clear hp HTo
      go_wp2
      go_quiet (fail)
      go_wp2
      refine region_ok 93 22 (fun i => ([64, 65, 66, 67, 68, 69, 70, 71, 72, 73, 74, 75, 76, 77, 78, 79, 80, 63, 81, 82, 10, 11] : List Nat).getD i 0) (fun i => ([[], [], [0, 1], [2], [], [], [], [5, 6], [7], [8], [], [], [10, 11], [12], [13], [9, 14], [3, 4, 15], [16], [17], [17], [18], [19]] : List (List Nat)).getD i []) (fun i v => ([(fun v : Value => v = .slice (some ⟨b1, o1, none⟩) n c), (fun v : Value => v = .int .i64 (kk : Int)), (fun v : Value => v = .pointer (some ⟨b1, o1 + kk * 6, none⟩)), (fun v : Value => v = .agg #[.int .i64 y.C, .int .i64 y.B, .int .i64 y.T, .int .i64 y.D, .int .i64 y.J, .int .i64 y.P]), (fun v : Value => v = .int .i64 wv), (fun v : Value => v = .slice (some ⟨b1, o1, none⟩) n c), (fun v : Value => v = .int .i64 (kk : Int)), (fun v : Value => v = .pointer (some ⟨b1, o1 + kk * 6, none⟩)), (fun v : Value => v = .pointer (some ⟨b1, o1 + kk * 6 + 5, none⟩)), (fun v : Value => v = .int .i64 y.P), (fun v : Value => v = .slice (some ⟨b1, o1, none⟩) n c), (fun v : Value => v = .int .i64 (i0 : Int)), (fun v : Value => v = .pointer (some ⟨b1, o1 + i0 * 6, none⟩)), (fun v : Value => v = .pointer (some ⟨b1, o1 + i0 * 6 + 5, none⟩)), (fun v : Value => v = .int .i64 x.P), (fun v : Value => v = .bool (y.P == x.P)), (fun v : Value => v = .tuple #[.int .i64 pv, .int .i64 pe]), (fun v : Value => v = .tuple #[.int .i64 pv, .int .i64 pe]), (fun v : Value => v = .int .i64 pv), (fun v : Value => v = .int .i64 pe), (fun v : Value => v = .int .i64 pv), (fun v : Value => v = .int .i64 pe)] : List (Value → Prop)).getD i (fun _ => True) v) (fun V => Below wr.heap.size wr V) (by kernel_rfl) rfl (fun i j hi hj => (by decide : ∀ i, i < 22 → ∀ j, j < 22 → (fun i => ([64, 65, 66, 67, 68, 69, 70, 71, 72, 73, 74, 75, 76, 77, 78, 79, 80, 63, 81, 82, 10, 11] : List Nat).getD i 0) i = (fun i => ([64, 65, 66, 67, 68, 69, 70, 71, 72, 73, 74, 75, 76, 77, 78, 79, 80, 63, 81, 82, 10, 11] : List Nat).getD i 0) j → i = j) i hi j hj) (by decide) rfl ?_ ?_ ⟨rfl, rfl, rfl, Nat.le_refl _, fun _ _ => rfl⟩ ?_
      · intro i o ho
        match i, ho with
        | 0, ho => obtain rfl := Option.some.inj ho; exact ⟨rfl, by decide, by decide⟩
        | 1, ho => obtain rfl := Option.some.inj ho; exact ⟨rfl, by decide, by decide⟩
        | 2, ho => obtain rfl := Option.some.inj ho; exact ⟨rfl, by decide, by decide⟩
        | 3, ho => obtain rfl := Option.some.inj ho; exact ⟨rfl, by decide, by decide⟩
        | 4, ho => obtain rfl := Option.some.inj ho; exact ⟨rfl, by decide, by decide⟩
        | 5, ho => obtain rfl := Option.some.inj ho; exact ⟨rfl, by decide, by decide⟩
        | 6, ho => obtain rfl := Option.some.inj ho; exact ⟨rfl, by decide, by decide⟩
        | 7, ho => obtain rfl := Option.some.inj ho; exact ⟨rfl, by decide, by decide⟩
        | 8, ho => obtain rfl := Option.some.inj ho; exact ⟨rfl, by decide, by decide⟩
        | 9, ho => obtain rfl := Option.some.inj ho; exact ⟨rfl, by decide, by decide⟩
        | 10, ho => obtain rfl := Option.some.inj ho; exact ⟨rfl, by decide, by decide⟩
        | 11, ho => obtain rfl := Option.some.inj ho; exact ⟨rfl, by decide, by decide⟩
        | 12, ho => obtain rfl := Option.some.inj ho; exact ⟨rfl, by decide, by decide⟩
        | 13, ho => obtain rfl := Option.some.inj ho; exact ⟨rfl, by decide, by decide⟩
        | 14, ho => obtain rfl := Option.some.inj ho; exact ⟨rfl, by decide, by decide⟩
        | 15, ho => obtain rfl := Option.some.inj ho; exact ⟨rfl, by decide, by decide⟩
        | 16, ho => obtain rfl := Option.some.inj ho; exact ⟨rfl, by decide, by decide⟩
        | 17, ho => obtain rfl := Option.some.inj ho; exact ⟨rfl, by decide, by decide⟩
        | 18, ho => obtain rfl := Option.some.inj ho; exact ⟨rfl, by decide, by decide⟩
        | 19, ho => obtain rfl := Option.some.inj ho; exact ⟨rfl, by decide, by decide⟩
        | 20, ho => obtain rfl := Option.some.inj ho; exact ⟨rfl, by decide, by decide⟩
        | 21, ho => obtain rfl := Option.some.inj ho; exact ⟨rfl, by decide, by decide⟩
        | k + 22, ho => simp at ho
      · intro i o ho a' V hS hoth hd
        have oS0 : a'.eval (.tmp 0) = .slice (some ⟨b1, o1, none⟩) n c := hoth 0 (by decide)
        have oS1 : a'.eval (.tmp 1) = .int .i64 (i0 : Int) := hoth 1 (by decide)
        have oS2 : a'.eval (.tmp 2) = .int .i64 wv := hoth 2 (by decide)
        have oS9 : a'.eval (.tmp 9) = .int .i64 (kk : Int) := hoth 9 (by decide)
        obtain ⟨ρ, hρ⟩ : ∃ ρ, ρ = a'.eval := ⟨_, rfl⟩
        have hc : ∀ v, ρ (.const v) = v := fun v => by rw [hρ]; rfl
        have hfn : ∀ f, ρ (.func f) = .func (.func f) #[] #[] := fun f => by rw [hρ]; rfl
        simp only [← hρ] at hd ⊢
        rw [← hρ] at oS0
        rw [← hρ] at oS1
        rw [← hρ] at oS2
        rw [← hρ] at oS9
        clear hρ hoth
        match i, ho with
        | 0, ho =>
          obtain rfl := Option.some.inj ho
          clear hd
          exact Or.inl ⟨rfl, Gives.val (v := .slice (some ⟨b1, o1, none⟩) n c) (w' := V) (by simp only [execOp]; go_simp) ⟨rfl, hS⟩⟩
        | 1, ho =>
          obtain rfl := Option.some.inj ho
          clear hd
          exact Or.inl ⟨rfl, Gives.val (v := .int .i64 (kk : Int)) (w' := V) (by simp only [execOp]; go_simp) ⟨rfl, hS⟩⟩
        | 2, ho =>
          obtain rfl := Option.some.inj ho
          have e0 : ρ (.tmp 64) = .slice (some ⟨b1, o1, none⟩) n c := hd 0 (by decide)
          have e1 : ρ (.tmp 65) = .int .i64 (kk : Int) := hd 1 (by decide)
          clear hd
          exact Or.inl ⟨rfl, Gives.val (v := .pointer (some ⟨b1, o1 + kk * 6, none⟩)) (w' := V) (by simp only [execOp]; go_simp) ⟨rfl, hS⟩⟩
        | 3, ho =>
          obtain rfl := Option.some.inj ho
          have e2 : ρ (.tmp 66) = .pointer (some ⟨b1, o1 + kk * 6, none⟩) := hd 2 (by decide)
          clear hd
          have c0 := keep_cell hS y0
          have c1 := keep_cell hS y1
          have c2 := keep_cell hS y2
          have c3 := keep_cell hS y3
          have c4 := keep_cell hS y4
          have c5 := keep_cell hS y5
          exact Or.inl ⟨rfl, Gives.val (v := .agg #[.int .i64 y.C, .int .i64 y.B, .int .i64 y.T, .int .i64 y.D, .int .i64 y.J, .int .i64 y.P]) (w' := V) (by simp only [execOp]; go_simp) ⟨rfl, hS⟩⟩
        | 4, ho =>
          obtain rfl := Option.some.inj ho
          clear hd
          exact Or.inl ⟨rfl, Gives.val (v := .int .i64 wv) (w' := V) (by simp only [execOp]; go_simp) ⟨rfl, hS⟩⟩
        | 5, ho =>
          obtain rfl := Option.some.inj ho
          clear hd
          exact Or.inl ⟨rfl, Gives.val (v := .slice (some ⟨b1, o1, none⟩) n c) (w' := V) (by simp only [execOp]; go_simp) ⟨rfl, hS⟩⟩
        | 6, ho =>
          obtain rfl := Option.some.inj ho
          clear hd
          exact Or.inl ⟨rfl, Gives.val (v := .int .i64 (kk : Int)) (w' := V) (by simp only [execOp]; go_simp) ⟨rfl, hS⟩⟩
        | 7, ho =>
          obtain rfl := Option.some.inj ho
          have e5 : ρ (.tmp 69) = .slice (some ⟨b1, o1, none⟩) n c := hd 5 (by decide)
          have e6 : ρ (.tmp 70) = .int .i64 (kk : Int) := hd 6 (by decide)
          clear hd
          exact Or.inl ⟨rfl, Gives.val (v := .pointer (some ⟨b1, o1 + kk * 6, none⟩)) (w' := V) (by simp only [execOp]; go_simp) ⟨rfl, hS⟩⟩
        | 8, ho =>
          obtain rfl := Option.some.inj ho
          have e7 : ρ (.tmp 71) = .pointer (some ⟨b1, o1 + kk * 6, none⟩) := hd 7 (by decide)
          clear hd
          exact Or.inl ⟨rfl, Gives.val (v := .pointer (some ⟨b1, o1 + kk * 6 + 5, none⟩)) (w' := V) (by simp only [execOp]; go_simp) ⟨rfl, hS⟩⟩
        | 9, ho =>
          obtain rfl := Option.some.inj ho
          have e8 : ρ (.tmp 72) = .pointer (some ⟨b1, o1 + kk * 6 + 5, none⟩) := hd 8 (by decide)
          clear hd
          have c5 := keep_cell hS y5
          exact Or.inl ⟨rfl, Gives.val (v := .int .i64 y.P) (w' := V) (by simp only [execOp]; go_simp) ⟨rfl, hS⟩⟩
        | 10, ho =>
          obtain rfl := Option.some.inj ho
          clear hd
          exact Or.inl ⟨rfl, Gives.val (v := .slice (some ⟨b1, o1, none⟩) n c) (w' := V) (by simp only [execOp]; go_simp) ⟨rfl, hS⟩⟩
        | 11, ho =>
          obtain rfl := Option.some.inj ho
          clear hd
          exact Or.inl ⟨rfl, Gives.val (v := .int .i64 (i0 : Int)) (w' := V) (by simp only [execOp]; go_simp) ⟨rfl, hS⟩⟩
        | 12, ho =>
          obtain rfl := Option.some.inj ho
          have e10 : ρ (.tmp 74) = .slice (some ⟨b1, o1, none⟩) n c := hd 10 (by decide)
          have e11 : ρ (.tmp 75) = .int .i64 (i0 : Int) := hd 11 (by decide)
          clear hd
          exact Or.inl ⟨rfl, Gives.val (v := .pointer (some ⟨b1, o1 + i0 * 6, none⟩)) (w' := V) (by simp only [execOp]; go_simp) ⟨rfl, hS⟩⟩
        | 13, ho =>
          obtain rfl := Option.some.inj ho
          have e12 : ρ (.tmp 76) = .pointer (some ⟨b1, o1 + i0 * 6, none⟩) := hd 12 (by decide)
          clear hd
          exact Or.inl ⟨rfl, Gives.val (v := .pointer (some ⟨b1, o1 + i0 * 6 + 5, none⟩)) (w' := V) (by simp only [execOp]; go_simp) ⟨rfl, hS⟩⟩
        | 14, ho =>
          obtain rfl := Option.some.inj ho
          have e13 : ρ (.tmp 77) = .pointer (some ⟨b1, o1 + i0 * 6 + 5, none⟩) := hd 13 (by decide)
          clear hd
          have c5 := keep_cell hS x5
          exact Or.inl ⟨rfl, Gives.val (v := .int .i64 x.P) (w' := V) (by simp only [execOp]; go_simp) ⟨rfl, hS⟩⟩
        | 15, ho =>
          obtain rfl := Option.some.inj ho
          have e9 : ρ (.tmp 73) = .int .i64 y.P := hd 9 (by decide)
          have e14 : ρ (.tmp 78) = .int .i64 x.P := hd 14 (by decide)
          clear hd
          exact Or.inl ⟨rfl, Gives.val (v := .bool (y.P == x.P)) (w' := V) (by simp only [execOp]; go_simp) ⟨rfl, hS⟩⟩
        | 16, ho =>
          obtain rfl := Option.some.inj ho
          have e3 : ρ (.tmp 67) = .agg #[.int .i64 y.C, .int .i64 y.B, .int .i64 y.T, .int .i64 y.D, .int .i64 y.J, .int .i64 y.P] := hd 3 (by decide)
          have e4 : ρ (.tmp 68) = .int .i64 wv := hd 4 (by decide)
          have e15 : ρ (.tmp 79) = .bool (y.P == x.P) := hd 15 (by decide)
          clear hd
          refine Or.inl ⟨rfl, Gives.enter (f := 25) (args := #[.agg #[.int .i64 y.C, .int .i64 y.B, .int .i64 y.T, .int .i64 y.D, .int .i64 y.J, .int .i64 y.P], .int .i64 wv, .bool (y.P == x.P)]) (by simp only [execOp]; go_simp) ((CP.out _).mono ?_)⟩
          rintro e w8 ⟨rfl, b8⟩
          exact ⟨_, rfl, rfl, keep_below hS b8⟩
        | 17, ho =>
          obtain rfl := Option.some.inj ho
          have e16 : ρ (.tmp 80) = .tuple #[.int .i64 pv, .int .i64 pe] := hd 16 (by decide)
          clear hd
          exact Or.inl ⟨rfl, Gives.val (v := .tuple #[.int .i64 pv, .int .i64 pe]) (w' := V) (by simp only [execOp]; go_simp) ⟨rfl, hS⟩⟩
        | 18, ho =>
          obtain rfl := Option.some.inj ho
          have e17 : ρ (.tmp 63) = .tuple #[.int .i64 pv, .int .i64 pe] := hd 17 (by decide)
          clear hd
          exact Or.inl ⟨rfl, Gives.val (v := .int .i64 pv) (w' := V) (by simp only [execOp]; go_simp) ⟨rfl, hS⟩⟩
        | 19, ho =>
          obtain rfl := Option.some.inj ho
          have e17 : ρ (.tmp 63) = .tuple #[.int .i64 pv, .int .i64 pe] := hd 17 (by decide)
          clear hd
          exact Or.inl ⟨rfl, Gives.val (v := .int .i64 pe) (w' := V) (by simp only [execOp]; go_simp) ⟨rfl, hS⟩⟩
        | 20, ho =>
          obtain rfl := Option.some.inj ho
          have e18 : ρ (.tmp 81) = .int .i64 pv := hd 18 (by decide)
          clear hd
          exact Or.inl ⟨rfl, Gives.val (v := .int .i64 pv) (w' := V) (by simp only [execOp]; go_simp) ⟨rfl, hS⟩⟩
        | 21, ho =>
          obtain rfl := Option.some.inj ho
          have e19 : ρ (.tmp 82) = .int .i64 pe := hd 19 (by decide)
          clear hd
          exact Or.inl ⟨rfl, Gives.val (v := .int .i64 pe) (w' := V) (by simp only [execOp]; go_simp) ⟨rfl, hS⟩⟩
        | k + 22, ho => simp at ho
      · intro a' V hsz hdef hoth hok hS
        have hcov : ∀ i, i < 22 → 63 ≤ (fun i => ([64, 65, 66, 67, 68, 69, 70, 71, 72, 73, 74, 75, 76, 77, 78, 79, 80, 63, 81, 82, 10, 11] : List Nat).getD i 0) i ∧ (fun i => ([64, 65, 66, 67, 68, 69, 70, 71, 72, 73, 74, 75, 76, 77, 78, 79, 80, 63, 81, 82, 10, 11] : List Nat).getD i 0) i < 83 ∨ (fun i => ([64, 65, 66, 67, 68, 69, 70, 71, 72, 73, 74, 75, 76, 77, 78, 79, 80, 63, 81, 82, 10, 11] : List Nat).getD i 0) i = 10 ∨ (fun i => ([64, 65, 66, 67, 68, 69, 70, 71, 72, 73, 74, 75, 76, 77, 78, 79, 80, 63, 81, 82, 10, 11] : List Nat).getD i 0) i = 11 := by decide
        have hv10 : a'.eval (.tmp 10) = .int .i64 pv := hok 20 (by decide)
        have hv11 : a'.eval (.tmp 11) = .int .i64 pe := hok 21 (by decide)
        clear hok
        obtain ⟨us, hu1, rfl⟩ := act_mix2 63 20 10 11 (.int .i64 pv) (.int .i64 pe) rfl hsz hdef (by simp) (by simp) (by simp) hv10 hv11 (by decide) (fun k hkd hkd2 hk => hoth k (fun i hi => by have := hcov i hi; dsimp only at this ⊢; omega))
        match us, hu1 with
        | u63 :: u64 :: u65 :: u66 :: u67 :: u68 :: u69 :: u70 :: u71 :: u72 :: u73 :: u74 :: u75 :: u76 :: u77 :: u78 :: u79 :: u80 :: u81 :: u82 :: [], _ =>
          have hbV := keep_below HBL.out hS
          have HBV := Lib.hid hbV
          have hbs := hbV.size
          have HOV := Lib.hid (own_keep HO.out hS)
          clear hS HO hbV
          by_cases hpe : pe = 0
          · subst hpe
            have HP2 : Hid (ptB y wv (sames x.P y) = false ∧ pv = ptV y wv (sames x.P y)) := by
              rcases HP.out with ⟨-, h1, h2⟩ | ⟨h1, -⟩
              · exact ⟨h1, h2⟩
              · exact absurd rfl h1
            clear HP
            go_wp2_with (at_builtin; refine wpList_append_own _ rfl _ _ 33 rfl w.heap.size 3 tinf (.int .i64 0) 1 8 Try.underlying33 hi0 hz0 hz1 hz2 rfl (by decide) _ _ _ rfl (HOV.out.alloc _) ⟨V.heap.size, 0, none⟩ 1 1 [.int .i64 pv] rfl rfl ?c1 ?c2 ?c3 ?c4 ?c5 ?_)
            case c2 => rfl
            case c3 => unfold maxLen; omega
            case c4 => omega
            case c5 => omega
            · intro v' w5 hown' hgrow _
              have hb5 : Below w.heap.size w w5 := (HBV.out.alloc HBV.out.size _).grown hgrow (by simp; omega) (fun g hg => (HOV.out.lt g hg).1)
              have HO5 : Hid (w5.ownsRow w.heap.size 3 1 v' (q + 1) ((tms x wv (othTo L x.P i0 (kk + 1))).map (Value.int .i64))) := by
                show World.ownsRow _ _ _ _ _ _ _
                rw [HO2.out, tms_snoc, List.map_append]
                have e := HP2.out.2
                rw [← e]; exact hown'
              have HB5 : Hid (suB (othTo L x.P i0 (kk + 1)) x.P wv = false) := by
                show _ = _
                rw [HO2.out]; unfold suB at HB ⊢
                rw [List.any_append, HB.out]
                simp [HP2.out.1]
              clear hown' hgrow HOV
              go_wp2
              go_roundw
              case rel => exact ⟨kk + 1, q + 1, by omega, by go_num, by omega, HO5, HB5, hb5⟩
              case measure => simp [intOf]; omega
          · have HR : Hid (rv = 0 ∧ er = 4) := by
              have hb : ptB y wv (sames x.P y) = true := by
                rcases HP.out with ⟨h1, -⟩ | ⟨-, h1⟩
                · exact absurd h1 hpe
                · exact h1
              have hq := HQ.out
              rw [nxO_bad (oth_in HY.out hki (by omega)) hb] at hq
              cases hq; exact ⟨rfl, rfl⟩
            have d5 : (pe == 0) = false := beq_eq_false_iff_ne.2 hpe
            go_wp2
            go_ret2
            exact ⟨by rw [HR.out.1, HR.out.2]; rfl, HBV.out⟩
    · obtain rfl : n = kk := by omega
      have HL := Lib.hid hr.1
      have HTA : Hid (othTo L x.P i0 n = oth L x.P i0) := by show _ = _; rw [HL.out, othTo_all]
      have HO3 := HO.out
      rw [HTA.out] at HO3
      obtain ⟨a5, n5, c5, rfl, hR⟩ := Row.own HO3
      have hxo := okR_parts (rgR_mem HG.out (List.mem_of_getElem? HX.out))
      have hal : al (tms x wv (oth L x.P i0)) = true := tms_al (rgR_mem HG.out (List.mem_of_getElem? HX.out)) (fun y hy => rgR_mem HG.out (oth_mem hy).1) HW.out (by have := HB.out; rw [HTA.out] at this; exact this)
      have HBo : Hid (suB (oth L x.P i0) x.P wv = false) := by show _ = _; rw [← HTA.out]; exact HB.out
      have hsum := tms_sum x wv (oth L x.P i0)
      have hq := HQ.out
      have hn5 : n5 ≤ 1000000000000 := by have h1 := hR.1; have h2 := HO3.1; rw [List.length_map] at h2; omega
      have CA : Hid (∀ W, Below wr.heap.size wr W → Calls Try.prog 26 #[.slice a5 n5 c5] W fun r w' => r = .returned (.tuple #[.int .i64 rv, .int .i64 er]) ∧ Below W.heap.size W w') := by
        intro W hW
        by_cases c1 : x.C + x.B + suV (oth L x.P i0) x.P wv < 4611686018427387904
        · rw [show nxO x (oth L x.P i0) wv = some (x.C + x.B + suV (oth L x.P i0) x.P wv) from nxO_some.2 ⟨HBo.out, c1, rfl⟩] at hq
          cases hq
          exact addR_of (hR.below hW) hn5 (by rw [(add_ok hal (by rw [hsum]; exact c1)).2, hsum]) (add_ok hal (by rw [hsum]; exact c1)).1
        · have e : nxO x (oth L x.P i0) wv = none := by unfold nxO; rw [if_pos (Or.inr (by omega))]
          rw [e] at hq
          cases hq
          exact addR_of (hR.below hW) hn5 (add_big hal (by rw [hsum]; omega)).2 (add_big hal (by rw [hsum]; omega)).1
      clear hq hal hsum hR HO3 hxo
      go_wp2_with (go_at_call 26; refine (CA.out _ (Below.refl _ _)).mono ?_; rintro e w6 ⟨rfl, hb6⟩)
      go_ret2
      exact ⟨rfl, keep_below HBL.out hb6⟩
end Go.Proofs.Ytiibbeigkopkeaa
