/- What is proved here: the walk of the law CeilAlone. Conditions: the use lies in memory; the small numbers are below 256. -/
import Derived.Test.YthicoekoeffpaaaKw
import Derived.Test.YthicoekoeffpaaaPl
import Derived.Test.YthicoekoeffpaaaRc
namespace Go.Proofs.Ythicoekoeffpaaa
open Go.ChangeShapes Go.WideShapes Go.RowKit

/-- Uses without blocks. -/
def bareU (p : Int) : UsP := ⟨1 + p % 100, [], []⟩
def bareV (p : Int) : UsV := ⟨1 + p % 100, ⟨none, 0, 0⟩, ⟨none, 0, 0⟩⟩
theorem bareV_is (w : World) (p : Int) : (bareV p).Is w (bareU p) := ⟨rfl, ⟨Row.nil _ _, Nat.zero_le _⟩, ⟨Row.nil _ _, Nat.zero_le _⟩⟩
theorem bare_all {P : List Int} : ∀ v ∈ P.map bareU, v.bl = [] := by
  intro v hv
  obtain ⟨p, _, rfl⟩ := List.mem_map.1 hv
  rfl
theorem alone_waits {u : UsP} {P : List Int} (h1 : 0 ≤ u.pr) : ∀ x ∈ waitL (u :: P.map bareU), x = 0 := by
  intro x hx
  unfold waitL at hx
  obtain ⟨v, _, rfl⟩ := List.mem_map.1 hx
  exact waB_alone bare_all h1 _
theorem alone_active {u : UsP} {P : List Int} (B h : Int) (h1 : 0 ≤ u.pr) : acV u.pr h (ceilL B (u :: P.map bareU)) = u.pr := by
  unfold acV gre
  refine maxF_low fun x hx => ?_
  rw [grL_mem] at hx
  obtain ⟨k, hk, _, h3⟩ := hx
  have hkl : k < B.toNat := by rw [ceilL_len] at hk; omega
  rw [← h3, ceilL_get hkl]
  exact ceB_alone bare_all h1 _
theorem cells_one (t : UsV) : usC [t] = t.cells := by simp [usC]
set_option maxHeartbeats 4000000 in
set_option maxRecDepth 100000 in
theorem alone_walk (t : UsV) (u : UsP) (x y z : Int) (w : World) (h : t.Is w u) (hx : 0 ≤ x ∧ x ≤ 255) (hy : 0 ≤ y ∧ y ≤ 255) (hz : 0 ≤ z ∧ z ≤ 255) :
    Calls Try.prog 9 #[.agg #[.int .i64 t.pr, .slice t.bl.a t.bl.n t.bl.c, .slice t.le.a t.le.n t.le.c], .agg #[.int .u8 x, .int .u8 y, .int .u8 z]] w fun e w' => e = .returned (.bool true) ∧ Below w.heap.size w w' := by
  obtain ⟨pr, ⟨xa, xn, xc⟩, ⟨la, ln, lc⟩⟩ := t
  obtain ⟨hpr, ⟨hX, hXm⟩, ⟨hE, hEm⟩⟩ := h
  simp only at hpr hX hXm hE hEm
  subst hpr
  obtain ⟨P, hP⟩ : ∃ P : List Int, P = [x, y, z] := ⟨_, rfl⟩
  have HP : Hid (∀ p ∈ P, 0 ≤ p ∧ p ≤ 255) := by
    intro p hp
    rw [hP] at hp
    simp at hp
    rcases hp with rfl | rfl | rfl <;> assumption
  have HPl : Hid (P.length = 3) := by show _ = _; rw [hP]; rfl
  have CK := Lib.hid (fun W => known_any W)
  have I1 := One.new w #[.int .i64 u.pr, .slice xa xn xc, .slice la ln lc] 37
  have I2 := One.new (w.alloc (.cells #[.int .i64 u.pr, .slice xa xn xc, .slice la ln lc] 37)) #[.int .u8 x, .int .u8 y, .int .u8 z] 39
  have hs1 : (w.alloc (.cells #[.int .i64 u.pr, .slice xa xn xc, .slice la ln lc] 37)).heap.size = w.heap.size + 1 := Array.size_push _
  rw [hs1] at I2
  have J := Lib.hid (I1.keep (below_alloc _ (.cells #[.int .u8 x, .int .u8 y, .int .u8 z] 39)))
  have HC : Hid (∀ k p, P[k]? = some p → ((w.alloc (.cells #[.int .i64 u.pr, .slice xa xn xc, .slice la ln lc] 37)).alloc (.cells #[.int .u8 x, .int .u8 y, .int .u8 z] 39)).cell? ⟨w.heap.size + 1, k, none⟩ = some (.int .u8 p)) := by
    intro k p hk
    rw [hP] at hk
    match k, hk with
    | 0, hk => simp at hk; subst hk; exact I2.2 0 _ rfl
    | 1, hk => simp at hk; subst hk; exact I2.2 1 _ rfl
    | 2, hk => simp at hk; subst hk; exact I2.2 2 _ rfl
  have hs2 : Hid (((w.alloc (.cells #[.int .i64 u.pr, .slice xa xn xc, .slice la ln lc] 37)).alloc (.cells #[.int .u8 x, .int .u8 y, .int .u8 z] 39)).heap.size = w.heap.size + 1 + 1) := by show _ = _; rw [show ∀ (W : World) o, (W.alloc o).heap.size = W.heap.size + 1 from fun W o => Array.size_push _, hs1]
  obtain ⟨i0, hi0, hz0, hz1, hz2⟩ := info_parts us_info
  have d0 := J.out.2 0 _ rfl
  have d1 := J.out.2 1 _ rfl
  have d2 := J.out.2 2 _ rfl
  clear I1 I2 hs1 hP hx hy hz
  by_cases h5 : xn ≤ 50
  · by_cases h6 : ln ≤ 50
    · have q5 : decide (50 < (xn : Int)) = false := decide_eq_false (by omega)
      have q6 : decide (50 < (ln : Int)) = false := decide_eq_false (by omega)
      have h5i : ¬ (50 : Int) < (xn : Int) := by omega
      have h6i : ¬ (50 : Int) < (ln : Int) := by omega
      have HI : Hid (UsV.Is w ⟨u.pr, ⟨xa, xn, xc⟩, ⟨la, ln, lc⟩⟩ u) := ⟨rfl, ⟨hX, hXm⟩, ⟨hE, hEm⟩⟩
      clear hX hE h5 h6
      go_enter Try.func9, Try.ntmps9
      go_wp2
      generalize hW1 : (w.alloc (.cells #[.int .i64 u.pr, .slice xa xn xc, .slice la ln lc] 37)).alloc (.cells #[.int .u8 x, .int .u8 y, .int .u8 z] 39) = W1 at *
      have hz : W1.heap.size = w.heap.size + 1 + 1 := hs2.out
      have O0 := World.ownsRow_lit (base := w.heap.size + 1 + 1) (e := 37) (size := 3) W1 #[.int .i64 u.pr, .slice xa xn xc, .slice la ln lc] 1 (by omega) (by unfold maxLen; omega) rfl
      rw [hz] at O0
      have HJ := J.out
      have BW := Lib.hid HJ.1
      clear hW1 d1 d2 hs2 J
      generalize hW2 : W1.alloc (.cells #[.int .i64 u.pr, .slice xa xn xc, .slice la ln lc] 37) = W2 at *
      have B12 : Below W1.heap.size W1 W2 := by rw [← hW2]; exact below_alloc _ _
      have HZ := Lib.hid hz
      have HJ' := Lib.hid HJ
      clear hW2 hz HJ d0
      obtain ⟨PV, hPV0⟩ : ∃ PV, PV = P.map bareV := ⟨_, rfl⟩
      have hPV := Lib.hid hPV0
      clear hPV0
      go_loopw [5, 6] (fun s xx wr => ∃ k : Nat, k ≤ 3 ∧ xx = .int .i64 k ∧ wr.ownsRow (w.heap.size + 1 + 1) 37 3 s (k + 1) (usC (⟨u.pr, ⟨xa, xn, xc⟩, ⟨la, ln, lc⟩⟩ :: PV.take k)) ∧ Below W1.heap.size W1 wr) (fun _ xx _ => 3 - (intOf xx).toNat)
      case atStart => exact ⟨0, by omega, rfl, by rw [List.take_zero, cells_one]; exact O0, B12⟩
      case round =>
        obtain ⟨k, hk, rfl, hown, hbl⟩ := hrel
        have hbs := hbl.size
        have hzz := HZ.out
        by_cases hlt : k < 3
        · obtain ⟨p, hp⟩ : ∃ p, P[k]? = some p := ⟨_, List.getElem?_eq_getElem (by rw [HPl.out]; exact hlt)⟩
          have hpk := HP.out p (List.mem_of_getElem? hp)
          have hcp := keep_cell hbl (HC.out k p hp)
          have HTK : Hid (usC (⟨u.pr, ⟨xa, xn, xc⟩, ⟨la, ln, lc⟩⟩ :: PV.take (k + 1)) = usC (⟨u.pr, ⟨xa, xn, xc⟩, ⟨la, ln, lc⟩⟩ :: PV.take k) ++ (bareV p).cells) := by
            show _ = _
            rw [take_cat (x := bareV p) (by rw [hPV.out, List.getElem?_map, hp]; rfl), ← List.cons_append]
            exact usC_snoc _ _
          have d3 : decide ((k : Int) < 3) = true := decide_eq_true (by omega)
          have i1 : (0 : Int) ≤ (k : Int) := by omega
          have i2 : (k : Int) < 3 := by omega
          have tm : p.tmod 100 = p % 100 := Int.tmod_eq_emod_of_nonneg hpk.1
          have w1 : IntKind.i64.wrap p = p := IntWalk.i64_in _ (by omega)
          have w2' : IntKind.i64.wrap (1 + p % 100) = 1 + p % 100 := IntWalk.i64_in _ (by omega)
          clear hp
          go_wp2_with (at_builtin; refine wpList_append_own _ rfl _ _ 22 rfl (w.heap.size + 1 + 1) 37 i0 (.agg #[.int .i64 0, .slice none 0 0, .slice none 0 0]) 3 56 Try.underlying22 hi0 hz0 hz1 hz2 rfl (by decide) _ _ _ rfl (hown.alloc _) ⟨wr.heap.size, 0, none⟩ 1 1 (bareV p).cells rfl rfl ?c1 (usV_one _) ?c3 ?c4 ?c5 ?_)
          case c1 =>
            intro j tt hj
            first
              | exact hj
              | (rw [add_plain', Nat.zero_add]; exact cells_new wr _ _ j tt hj)
          case c3 => unfold maxLen; omega
          case c4 => omega
          case c5 => first | omega | (simp; omega)
          · intro v' w5 hown' hgrow _
            have hb5 : Below W1.heap.size W1 w5 := (hbl.alloc hbl.size _).grown hgrow (by simp; omega) (fun g hg => by have := (hown.lt g hg).1; omega)
            have hown3 : w5.ownsRow (w.heap.size + 1 + 1) 37 3 v' (k + 1 + 1) (usC (⟨u.pr, ⟨xa, xn, xc⟩, ⟨la, ln, lc⟩⟩ :: PV.take (k + 1))) := by rw [HTK.out]; exact hown'
            clear hown' hgrow hown
            go_wp2
            go_roundw
            case rel => exact ⟨k + 1, by omega, by go_num, hown3, hb5⟩
            case measure => simp [intOf]; omega
        · obtain rfl : k = 3 := by omega
          have hPl : PV.length = 3 := by rw [hPV.out, List.length_map]; exact HPl.out
          rw [List.take_of_length_le (by omega)] at hown
          have HU : UssIs w (⟨u.pr, ⟨xa, xn, xc⟩, ⟨la, ln, lc⟩⟩ :: PV) (u :: P.map bareU) := by
            refine ⟨by rw [List.length_cons, List.length_cons, hPl, List.length_map, HPl.out], fun j tt hj => ?_⟩
            rcases j with _ | j
            · simp at hj; subst hj; exact ⟨u, rfl, HI.out⟩
            · rw [List.getElem?_cons_succ, hPV.out, List.getElem?_map] at hj
              obtain ⟨p, hp, rfl⟩ := Option.map_eq_some_iff.1 hj
              exact ⟨bareU p, by rw [List.getElem?_cons_succ, List.getElem?_map, hp]; rfl, bareV_is w p⟩
          have BB := keep_below BW.out hbl
          obtain ⟨a5, c5, rfl, hm5, hR⟩ := RowU.own hown (HU.below BB)
          obtain ⟨L, hL⟩ : ∃ L, L = u :: P.map bareU := ⟨_, rfl⟩
          rw [← hL] at hR
          have HLL := Lib.hid hL
          have hlen : L.length = 4 := by rw [hL, List.length_cons, List.length_map, HPl.out]
          have HR := Lib.hid hR
          have BH := Lib.hid BB
          have HB3 := Lib.hid hbl
          clear hown HU hm5 hL hPl BB hR hbl
          obtain ⟨r, hq⟩ : ∃ r, okL 8 L = r := ⟨_, rfl⟩
          have CR := Lib.hid (right_any 8 a5 4 c5 L wr HR.out (by decide) r hq)
          cases r
          · go_wp2_with (go_at_call 12; fail)
            refine CR.out.mono ?_
            rintro e w6 ⟨rfl, hb6⟩
            go_wp2_with (go_at_call 11; fail)
            refine (CK.out _).mono ?_
            rintro e w7 ⟨rfl, hb7⟩
            go_wp2
            go_ret
            exact ⟨rfl, keep_below (keep_below BH.out hb6) hb7⟩
          have O := okL_of hq
          have hpos : 0 ≤ u.pr := by have := (O.all u (by rw [HLL.out]; exact List.mem_cons_self ..)).pr1; omega
          have HZW : Hid (∀ x ∈ waitL L, x = 0) := by show ∀ x ∈ waitL L, x = 0; rw [HLL.out]; exact alone_waits hpos
          have HAC : Hid (acV u.pr 255 (ceilL 8 L) = u.pr) := by show _ = _; rw [HLL.out]; exact alone_active 8 255 hpos
          have CC := Lib.hid (fun W (hb : Below wr.heap.size wr W) => ceilings_any 8 a5 4 c5 L W (HR.out.below hb) (by decide) _ (cL_yes hq))
          have CW := Lib.hid (fun W (hb : Below wr.heap.size wr W) => waits_any 8 a5 4 c5 L W (HR.out.below hb) (by decide) _ (wL_yes hq))
          unfold GotN at CC CW
          have hlw : (waitL L).length = 4 := by rw [waitL_len, hlen]
          have hlc : (ceilL 8 L).length = 8 := ceilL_len 8 L
          have HLW := Lib.hid hlw
          have HLC := Lib.hid hlc
          clear hq O hpos hlen hlw hlc
          go_wp2_with (go_at_call 12; fail)
          refine CR.out.mono ?_
          rintro e w6 ⟨rfl, hb6⟩
          go_wp2_with (go_at_call 16; fail)
          refine (CC.out _ hb6).mono ?_
          rintro e w7 ⟨a7, n7, c7, rfl, hr7, hc7, hb7, -⟩
          obtain rfl : n7 = 8 := by rw [hr7.1]; exact HLC.out
          have b67 := keep_below hb6 hb7
          go_wp2_with (go_at_call 18; fail)
          refine (CW.out _ b67).mono ?_
          rintro e w8 ⟨a8, n8, c8, rfl, hr8, -, hb8, -⟩
          obtain rfl : n8 = 4 := by rw [hr8.1]; exact HLW.out
          have B8 := Lib.hid (keep_below HB3.out (keep_below b67 hb8))
          have RC := Lib.hid (hr7.below hb8)
          have RWt := Lib.hid hr8
          have CA := Lib.hid (fun W (h : Row W a7 8 (ceilL 8 L)) => active_any u.pr 255 a7 8 c7 (ceilL 8 L) W h (by decide) hc7 u.pr HAC.out)
          have d0 := keep_cell B8.out (HJ'.out.2 0 _ rfl)
          clear hb6 hb7 hb8 hr7 hr8 b67 CC CW CR HR
          have ue : (u.pr == u.pr) = true := by simp
          have un : (u.pr != u.pr) = false := by simp
          go_wp2
          generalize w8 = W5 at *
          refine region_ok 72 17 (fun i => ([45, 46, 47, 48, 49, 50, 51, 52, 53, 54, 55, 56, 57, 58, 59, 60, 61] : List Nat).getD i 0) (fun i => ([[], [0], [1], [2], [3], [3, 4], [3, 5], [3, 6], [7], [8], [8, 9], [8], [8, 10, 11], [8], [8, 13], [8, 12, 14], [8, 15]] : List (List Nat)).getD i []) (fun i v => ([(fun v : Value => v = .slice a7 8 c7), (fun v : Value => v = .int .i64 8), (fun v : Value => v = .bool false), (fun v : Value => v = .bool false), (fun v : Value => v = .slice a8 4 c8), (fun v : Value => v = .int .i64 4), (fun v : Value => v = .bool false), (fun v : Value => v = .bool false), (fun v : Value => v = .bool false), (fun v : Value => v = .pointer (some ⟨w.heap.size, 0, none⟩)), (fun v : Value => v = .int .i64 u.pr), (fun v : Value => v = .slice a7 8 c7), (fun v : Value => v = .int .i64 u.pr), (fun v : Value => v = .pointer (some ⟨w.heap.size, 0, none⟩)), (fun v : Value => v = .int .i64 u.pr), (fun v : Value => v = .bool false), (fun v : Value => v = .bool false)] : List (Value → Prop)).getD i (fun _ => True) v) (fun V => Below W5.heap.size W5 V) (by kernel_rfl) rfl (fun i j hi hj => (by decide : ∀ i, i < 17 → ∀ j, j < 17 → (fun i => ([45, 46, 47, 48, 49, 50, 51, 52, 53, 54, 55, 56, 57, 58, 59, 60, 61] : List Nat).getD i 0) i = (fun i => ([45, 46, 47, 48, 49, 50, 51, 52, 53, 54, 55, 56, 57, 58, 59, 60, 61] : List Nat).getD i 0) j → i = j) i hi j hj) (by decide) rfl ?_ ?_ ⟨rfl, rfl, rfl, Nat.le_refl _, fun _ _ => rfl⟩ ?_
          · intro i o ho
            match i, ho with
            | 0, ho => obtain rfl := Option.some.inj ho; exact ⟨rfl, by decide, by decide⟩
            | 1, ho => obtain rfl := Option.some.inj ho; exact ⟨rfl, by decide, by decide⟩
            | 2, ho => obtain rfl := Option.some.inj ho; exact ⟨rfl, by decide, by decide⟩
            | 3, ho => obtain rfl := Option.some.inj ho; exact ⟨rfl, by decide, by decide⟩
            | 4, ho => obtain rfl := Option.some.inj ho; exact ⟨rfl, by decide, by decide⟩
            | 5, ho => obtain rfl := Option.some.inj ho; exact ⟨rfl, by decide, by decide⟩
            | 6, ho => obtain rfl := Option.some.inj ho; exact ⟨rfl, by decide, by decide⟩
            | 7, ho => obtain rfl := Option.some.inj ho; exact ⟨rfl, by decide, by decide⟩
            | 8, ho => obtain rfl := Option.some.inj ho; exact ⟨rfl, by decide, by decide⟩
            | 9, ho => obtain rfl := Option.some.inj ho; exact ⟨rfl, by decide, by decide⟩
            | 10, ho => obtain rfl := Option.some.inj ho; exact ⟨rfl, by decide, by decide⟩
            | 11, ho => obtain rfl := Option.some.inj ho; exact ⟨rfl, by decide, by decide⟩
            | 12, ho => obtain rfl := Option.some.inj ho; exact ⟨rfl, by decide, by decide⟩
            | 13, ho => obtain rfl := Option.some.inj ho; exact ⟨rfl, by decide, by decide⟩
            | 14, ho => obtain rfl := Option.some.inj ho; exact ⟨rfl, by decide, by decide⟩
            | 15, ho => obtain rfl := Option.some.inj ho; exact ⟨rfl, by decide, by decide⟩
            | 16, ho => obtain rfl := Option.some.inj ho; exact ⟨rfl, by decide, by decide⟩
            | k + 17, ho => simp at ho
          · intro i o ho a' V hS hoth hd
            have oS2 : a'.eval (.tmp 2) = .pointer (some ⟨w.heap.size, 0, none⟩) := hoth 2 (by decide)
            have oS7 : a'.eval (.tmp 7) = .slice a7 8 c7 := hoth 7 (by decide)
            have oS8 : a'.eval (.tmp 8) = .slice a8 4 c8 := hoth 8 (by decide)
            obtain ⟨ρ, hρ⟩ : ∃ ρ, ρ = a'.eval := ⟨_, rfl⟩
            have hc : ∀ v, ρ (.const v) = v := fun v => by rw [hρ]; rfl
            have hfn : ∀ f, ρ (.func f) = .func (.func f) #[] #[] := fun f => by rw [hρ]; rfl
            simp only [← hρ] at hd ⊢
            rw [← hρ] at oS2
            rw [← hρ] at oS7
            rw [← hρ] at oS8
            clear hρ hoth
            match i, ho with
            | 0, ho =>
              obtain rfl := Option.some.inj ho
              clear hd
              exact Or.inl ⟨rfl, Gives.val (v := .slice a7 8 c7) (w' := V) (by simp only [execOp]; go_simp) ⟨rfl, hS⟩⟩
            | 1, ho =>
              obtain rfl := Option.some.inj ho
              have e0 : ρ (.tmp 45) = .slice a7 8 c7 := hd 0 (by decide)
              clear hd
              exact Or.inl ⟨rfl, Gives.val (v := .int .i64 8) (w' := V) (by simp only [execOp]; go_simp) ⟨rfl, hS⟩⟩
            | 2, ho =>
              obtain rfl := Option.some.inj ho
              have e1 : ρ (.tmp 46) = .int .i64 8 := hd 1 (by decide)
              clear hd
              exact Or.inl ⟨rfl, Gives.val (v := .bool false) (w' := V) (by simp only [execOp]; go_simp) ⟨rfl, hS⟩⟩
            | 3, ho =>
              obtain rfl := Option.some.inj ho
              have e2 : ρ (.tmp 47) = .bool false := hd 2 (by decide)
              clear hd
              exact Or.inl ⟨rfl, Gives.val (v := .bool false) (w' := V) (by simp only [execOp]; go_simp) ⟨rfl, hS⟩⟩
            | 4, ho =>
              obtain rfl := Option.some.inj ho
              have e3 : ρ (.tmp 48) = .bool false := hd 3 (by decide)
              clear hd
              exact Or.inr ⟨3, false, false, rfl, by decide, e3, fun _ => Gives.val (v := .slice a8 4 c8) (w' := V) (by simp only [execOp]; go_simp) ⟨rfl, hS⟩, fun h => absurd rfl h⟩
            | 5, ho =>
              obtain rfl := Option.some.inj ho
              have e3 : ρ (.tmp 48) = .bool false := hd 3 (by decide)
              have e4 : ρ (.tmp 49) = .slice a8 4 c8 := hd 4 (by decide)
              clear hd
              exact Or.inr ⟨3, false, false, rfl, by decide, e3, fun _ => Gives.val (v := .int .i64 4) (w' := V) (by simp only [execOp]; go_simp) ⟨rfl, hS⟩, fun h => absurd rfl h⟩
            | 6, ho =>
              obtain rfl := Option.some.inj ho
              have e3 : ρ (.tmp 48) = .bool false := hd 3 (by decide)
              have e5 : ρ (.tmp 50) = .int .i64 4 := hd 5 (by decide)
              clear hd
              exact Or.inr ⟨3, false, false, rfl, by decide, e3, fun _ => Gives.val (v := .bool false) (w' := V) (by simp only [execOp]; go_simp) ⟨rfl, hS⟩, fun h => absurd rfl h⟩
            | 7, ho =>
              obtain rfl := Option.some.inj ho
              have e3 : ρ (.tmp 48) = .bool false := hd 3 (by decide)
              have e6 : ρ (.tmp 51) = .bool false := hd 6 (by decide)
              clear hd
              exact Or.inl ⟨rfl, Gives.val (v := .bool false) (w' := V) (by simp only [execOp]; go_simp) ⟨rfl, hS⟩⟩
            | 8, ho =>
              obtain rfl := Option.some.inj ho
              have e7 : ρ (.tmp 52) = .bool false := hd 7 (by decide)
              clear hd
              exact Or.inl ⟨rfl, Gives.val (v := .bool false) (w' := V) (by simp only [execOp]; go_simp) ⟨rfl, hS⟩⟩
            | 9, ho =>
              obtain rfl := Option.some.inj ho
              have e8 : ρ (.tmp 53) = .bool false := hd 8 (by decide)
              clear hd
              exact Or.inr ⟨8, false, false, rfl, by decide, e8, fun _ => Gives.val (v := .pointer (some ⟨w.heap.size, 0, none⟩)) (w' := V) (by simp only [execOp]; go_simp) ⟨rfl, hS⟩, fun h => absurd rfl h⟩
            | 10, ho =>
              obtain rfl := Option.some.inj ho
              have e8 : ρ (.tmp 53) = .bool false := hd 8 (by decide)
              have e9 : ρ (.tmp 54) = .pointer (some ⟨w.heap.size, 0, none⟩) := hd 9 (by decide)
              clear hd
              have c0 := keep_cell hS d0
              exact Or.inr ⟨8, false, false, rfl, by decide, e8, fun _ => Gives.val (v := .int .i64 u.pr) (w' := V) (by simp only [execOp]; go_simp) ⟨rfl, hS⟩, fun h => absurd rfl h⟩
            | 11, ho =>
              obtain rfl := Option.some.inj ho
              have e8 : ρ (.tmp 53) = .bool false := hd 8 (by decide)
              clear hd
              exact Or.inr ⟨8, false, false, rfl, by decide, e8, fun _ => Gives.val (v := .slice a7 8 c7) (w' := V) (by simp only [execOp]; go_simp) ⟨rfl, hS⟩, fun h => absurd rfl h⟩
            | 12, ho =>
              obtain rfl := Option.some.inj ho
              have e8 : ρ (.tmp 53) = .bool false := hd 8 (by decide)
              have e10 : ρ (.tmp 55) = .int .i64 u.pr := hd 10 (by decide)
              have e11 : ρ (.tmp 56) = .slice a7 8 c7 := hd 11 (by decide)
              clear hd
              refine Or.inr ⟨8, false, false, rfl, by decide, e8, fun _ => Gives.enter (f := 20) (args := #[.int .i64 u.pr, .int .i64 255, .slice a7 8 c7]) (by simp only [execOp]; go_simp) ((CA.out _ (RC.out.below hS)).mono ?_), fun h => absurd rfl h⟩
              rintro e w8 ⟨rfl, b8⟩
              exact ⟨_, rfl, rfl, keep_below hS b8⟩
            | 13, ho =>
              obtain rfl := Option.some.inj ho
              have e8 : ρ (.tmp 53) = .bool false := hd 8 (by decide)
              clear hd
              exact Or.inr ⟨8, false, false, rfl, by decide, e8, fun _ => Gives.val (v := .pointer (some ⟨w.heap.size, 0, none⟩)) (w' := V) (by simp only [execOp]; go_simp) ⟨rfl, hS⟩, fun h => absurd rfl h⟩
            | 14, ho =>
              obtain rfl := Option.some.inj ho
              have e8 : ρ (.tmp 53) = .bool false := hd 8 (by decide)
              have e13 : ρ (.tmp 58) = .pointer (some ⟨w.heap.size, 0, none⟩) := hd 13 (by decide)
              clear hd
              have c0 := keep_cell hS d0
              exact Or.inr ⟨8, false, false, rfl, by decide, e8, fun _ => Gives.val (v := .int .i64 u.pr) (w' := V) (by simp only [execOp]; go_simp) ⟨rfl, hS⟩, fun h => absurd rfl h⟩
            | 15, ho =>
              obtain rfl := Option.some.inj ho
              have e8 : ρ (.tmp 53) = .bool false := hd 8 (by decide)
              have e12 : ρ (.tmp 57) = .int .i64 u.pr := hd 12 (by decide)
              have e14 : ρ (.tmp 59) = .int .i64 u.pr := hd 14 (by decide)
              clear hd
              exact Or.inr ⟨8, false, false, rfl, by decide, e8, fun _ => Gives.val (v := .bool false) (w' := V) (by simp only [execOp]; go_simp) ⟨rfl, hS⟩, fun h => absurd rfl h⟩
            | 16, ho =>
              obtain rfl := Option.some.inj ho
              have e8 : ρ (.tmp 53) = .bool false := hd 8 (by decide)
              have e15 : ρ (.tmp 60) = .bool false := hd 15 (by decide)
              clear hd
              exact Or.inl ⟨rfl, Gives.val (v := .bool false) (w' := V) (by simp only [execOp]; go_simp) ⟨rfl, hS⟩⟩
            | k + 17, ho => simp at ho
          · intro a' V hsz hdef hoth hok hS
            have hcov : ∀ i, i < 17 → 45 ≤ (fun i => ([45, 46, 47, 48, 49, 50, 51, 52, 53, 54, 55, 56, 57, 58, 59, 60, 61] : List Nat).getD i 0) i ∧ (fun i => ([45, 46, 47, 48, 49, 50, 51, 52, 53, 54, 55, 56, 57, 58, 59, 60, 61] : List Nat).getD i 0) i < 62 := by decide
            have hv16 : a'.eval (.tmp 61) = .bool false := hok 16 (by decide)
            obtain ⟨us, hu1, hu2, ha⟩ := act_mix 45 17 rfl hsz hdef (by simp) (fun k hk => hoth k (fun i hi => by have := hcov i hi; dsimp only at this ⊢; omega))
            have hw16 := (hu2 16 (by decide)).trans hv16
            clear hv16
            clear hok hoth hu2
            subst ha
            match us, hu1, hw16 with
            | [u45, u46, u47, u48, u49, u50, u51, u52, u53, u54, u55, u56, u57, u58, u59, u60, u61], _, hw16 =>
              obtain rfl : u61 = .bool false := hw16
              have HV := Lib.hid hS
              clear hS d0
              go_wp2
              go_loopw [9] (fun xx wr => ∃ k : Nat, k ≤ 4 ∧ xx = .int .i64 k ∧ V = wr) (fun xx _ => 4 - (intOf xx).toNat)
              case atStart => exact ⟨0, by omega, rfl, rfl⟩
              case round =>
                obtain ⟨k, hk, rfl, rfl⟩ := hrel
                by_cases hlt4 : k < 4
                · obtain ⟨b7, o7, v, rfl, hB7, hx7, hc7'⟩ := (RWt.out.below HV.out).item hlt4
                  obtain rfl : v = 0 := HZW.out v (List.mem_of_getElem? hx7)
                  have d4 : decide ((k : Int) < 4) = true := decide_eq_true (by omega)
                  have i1 : (0 : Int) ≤ (k : Int) := by omega
                  have i2 : (k : Int) < 4 := by omega
                  clear hx7
                  go_wp2
                  go_roundw
                  case rel => exact ⟨k + 1, by omega, by go_num, by trivial⟩
                  case measure => simp [intOf]; omega
                · obtain rfl : k = 4 := by omega
                  go_wp2_with (go_at_call 11; fail)
                  refine (CK.out _).mono ?_
                  rintro e w9 ⟨rfl, hb9⟩
                  go_wp2
                  go_ret
                  exact ⟨rfl, keep_below (keep_below (keep_below BW.out B8.out) HV.out) hb9⟩
    · have q5 : decide (50 < (xn : Int)) = false := decide_eq_false (by omega)
      have q6 : decide (50 < (ln : Int)) = true := decide_eq_true (by omega)
      have h5i : ¬ (50 : Int) < (xn : Int) := by omega
      have h6i : (50 : Int) < (ln : Int) := by omega
      have BJ := J.out.1
      clear hX hE h5 h6
      go_enter Try.func9, Try.ntmps9
      go_wp2_with (go_at_call 11; fail)
      refine (CK.out _).mono ?_
      rintro e w1 ⟨rfl, hb1⟩
      go_wp2
      go_ret
      exact ⟨rfl, keep_below BJ hb1⟩
  · have q5 : decide (50 < (xn : Int)) = true := decide_eq_true (by omega)
    have h5i : (50 : Int) < (xn : Int) := by omega
    have BJ := J.out.1
    clear hX hE h5
    go_enter Try.func9, Try.ntmps9
    go_wp2_with (go_at_call 11; fail)
    refine (CK.out _).mono ?_
    rintro e w1 ⟨rfl, hb1⟩
    go_wp2
    go_ret
    exact ⟨rfl, keep_below BJ hb1⟩
end Go.Proofs.Ythicoekoeffpaaa
