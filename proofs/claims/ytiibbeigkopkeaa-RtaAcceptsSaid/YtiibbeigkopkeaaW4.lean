/- What is proved here: the walk of the law RtaPrios. Conditions: the row is not too long, and what RtaC says of the program. -/
import Derived.Test.YtiibbeigkopkeaaW2
import Derived.Test.YtiibbeigkopkeaaW8
namespace Go.Proofs.Ytiibbeigkopkeaa
open Go.ChangeShapes Go.WideShapes Go.RowKit

theorem back_len (l : List RtR) (p : Int) (i : Nat) : ∀ k, (back l p i k).length ≤ k
  | 0 => Nat.le_refl _
  | k + 1 => by
    have h := back_len l p i k
    unfold back
    rw [List.length_append]
    split
    · split <;> simp <;> omega
    · simp; omega
theorem back_at {l : List RtR} {k : Nat} {y : RtR} (h : l[k]? = some y) (p : Int) (i : Nat) : back l p i (k + 1) = (if k ≠ i ∧ p ≤ y.P then [y] else []) ++ back l p i k := by
  conv => lhs; unfold back
  rw [h]
theorem oth_len {L : List RtR} {k : Nat} {x : RtR} (h : L[k]? = some x) (p : Int) : (oth L p k).length + 1 ≤ L.length := by
  have h1 : (L.zipIdx.filter (cnt p k)).length < L.zipIdx.length := by
    rw [List.length_filter_lt_length_iff_exists]
    refine ⟨(x, k), List.mem_of_getElem? (i := k) (by rw [List.getElem?_zipIdx, h]; simp), ?_⟩
    unfold cnt; simp
  unfold oth
  rw [List.length_map]
  rw [List.length_zipIdx] at h1
  omega
theorem prios_same {L : List RtR} {k : Nat} {x : RtR} (hg : rgR L = true) (h : L[k]? = some x) : rspR (x :: back L x.P k L.length) 0 = rspR L k := by
  have hp := back_perm L x.P k L.length (Nat.le_refl _)
  rw [othTo_all] at hp
  have hall : ∀ y ∈ back L x.P k L.length, x.P ≤ y.P := fun y hy => (mem_back hy).2
  have hg2 : rgR (x :: back L x.P k L.length) = true := by
    unfold rgR
    simp only [Bool.and_eq_true, List.all_eq_true, decide_eq_true_eq]
    constructor
    · intro y hy
      rcases List.mem_cons.1 hy with rfl | hy
      · exact rgR_mem hg (List.mem_of_getElem? h)
      · exact rgR_mem hg (mem_back hy).1
    · rw [List.length_cons, hp.length_eq]
      have h1 := oth_len h x.P
      unfold rgR at hg
      simp only [Bool.and_eq_true, decide_eq_true_eq] at hg
      omega
  have e1 := rspR_at (k := 0) hg2 (by rfl)
  rw [oth_front hall, nxO_perm hp] at e1
  exact e1.trans (rspR_at hg h).symm
theorem prios_alone {L : List RtR} {k : Nat} {x : RtR} (hg : rgR L = true) (h : L[k]? = some x) (hb : back L x.P k L.length = []) {v : Int} (hv : rspR L k = (v, 0)) : v = x.C + x.B + x.J ∧ x.C + x.B + x.J ≤ x.D := by
  have hp := back_perm L x.P k L.length (Nat.le_refl _)
  rw [othTo_all, hb] at hp
  have e : oth L x.P k = [] := hp.symm.eq_nil
  rw [rspR_at hg h, e] at hv
  obtain ⟨m, e1, e2, e3, e4, _⟩ := rsp_sound (by decide) (nxO_grows (rgR_mem hg (List.mem_of_getElem? h)) (by simp)) hv
  rw [alone_next] at e2
  split at e2
  · cases e2
  · cases e2; exact ⟨e1, by omega⟩
set_option maxHeartbeats 4000000 in
set_option maxRecDepth 100000 in
theorem prios_walk (H : RtaC) (a : Option Addr) (n c : Nat) (L : List RtR) (i : Int) (w : World) (hr : RowS w a n L) (hn : n ≤ 140737488355328) :
    Calls Try.prog 6 #[.slice a n c, .int .i64 i] w fun e w' => e = .returned (.bool true) ∧ Below w.heap.size w w' := by
  obtain ⟨lt, hlt⟩ : ∃ r, litE L = r := ⟨_, rfl⟩
  have CL := Lib.hid (light_any a n c L w hr hn lt hlt)
  have H1 := Lib.hid H
  clear H
  cases lt
  · clear hr hlt
    go_enter Try.func6, Try.ntmps6
    go_wp2_with (first
      | (go_at_call 9; refine CL.out.mono ?_; rintro e w1 ⟨rfl, hw1⟩; have hw1 := hw1.symm; subst hw1)
      | (go_at_call 10; refine (known_any H1.out _).mono ?_; rintro e w2 ⟨rfl, hb2⟩))
    go_ret
    exact ⟨rfl, hb2⟩
  obtain ⟨g, hg⟩ : ∃ p, rgR L = p := ⟨_, rfl⟩
  have C4 := Lib.hid (H1.out.right a n c L w hr hn g hg)
  have HL := Lib.hid hr.1
  cases g
  · clear hr hlt hg
    go_enter Try.func6, Try.ntmps6
    go_wp2_with (first
      | (go_at_call 9; refine CL.out.mono ?_; rintro e w1 ⟨rfl, hw1⟩; have hw1 := hw1.symm; subst hw1)
      | (go_at_call 18; refine C4.out.mono ?_; rintro e w3 ⟨rfl, hb3⟩)
      | (go_at_call 10; refine (known_any H1.out _).mono ?_; rintro e w2 ⟨rfl, hb2⟩))
    go_ret
    exact ⟨rfl, keep_below hb3 hb2⟩
  by_cases z1 : i < 0
  · have q1 : decide (i < 0) = true := decide_eq_true z1
    clear hr hlt hg
    go_enter Try.func6, Try.ntmps6
    go_wp2_with (first
      | (go_at_call 9; refine CL.out.mono ?_; rintro e w1 ⟨rfl, hw1⟩; have hw1 := hw1.symm; subst hw1)
      | (go_at_call 18; refine C4.out.mono ?_; rintro e w3 ⟨rfl, hb3⟩)
      | (go_at_call 10; refine (known_any H1.out _).mono ?_; rintro e w2 ⟨rfl, hb2⟩))
    go_ret
    exact ⟨rfl, keep_below hb3 hb2⟩
  by_cases z2 : (n : Int) ≤ i
  · have q1 : decide (i < 0) = false := decide_eq_false z1
    have q2 : decide ((n : Int) ≤ i) = true := decide_eq_true z2
    clear hr hlt hg
    go_enter Try.func6, Try.ntmps6
    go_wp2_with (first
      | (go_at_call 9; refine CL.out.mono ?_; rintro e w1 ⟨rfl, hw1⟩; have hw1 := hw1.symm; subst hw1)
      | (go_at_call 18; refine C4.out.mono ?_; rintro e w3 ⟨rfl, hb3⟩)
      | (go_at_call 10; refine (known_any H1.out _).mono ?_; rintro e w2 ⟨rfl, hb2⟩))
    go_ret
    exact ⟨rfl, keep_below hb3 hb2⟩
  obtain ⟨i0, rfl⟩ := Int.eq_ofNat_of_zero_le (by omega : 0 ≤ i)
  have hi0 : i0 < n := by omega
  have q1 : decide ((i0 : Int) < 0) = false := decide_eq_false (by omega)
  have q2 : decide ((n : Int) ≤ (i0 : Int)) = false := decide_eq_false (by omega)
  have q3 : decide (n ≤ i0) = false := decide_eq_false (by omega)
  have i1 : (0 : Int) ≤ (i0 : Int) := by omega
  have i2 : (i0 : Int) < (n : Int) := by omega
  obtain ⟨b1, o1, x, e1, hB1, hx, f0, f1, f2, f3, f4, f5⟩ := hr.item (Below.refl _ _) hi0
  have hxo := rgR_mem hg (List.mem_of_getElem? hx)
  have hoo : ∀ y ∈ oth L x.P i0, okR y = true := fun y hy => rgR_mem hg (oth_mem hy).1
  obtain ⟨⟨rv, re⟩, hp⟩ : ∃ p, rspR L i0 = p := ⟨_, rfl⟩
  have CR := Lib.hid (fun W (hb : Below w.heap.size w W) => H1.out.resp a n c L i0 W (hr.below hb) hn rv re hp)
  have HSM := Lib.hid ((prios_same hg hx).trans hp)
  have HAL : Hid (back L x.P i0 L.length = [] → re = 0 → rv = x.C + x.B + x.J ∧ x.C + x.B + x.J ≤ x.D) := fun hb he => prios_alone hg hx hb (by rw [hp, he])
  have CM := Lib.hid (fun b m d W (hb : RowS W b m (x :: back L x.P i0 L.length)) (hm : m ≤ 140737488355328) => H1.out.resp b m d _ 0 W hb hm rv re HSM.out)
  have hn8 : n ≤ 8 := by have h1 := hr.1; unfold rgR at hg; simp only [Bool.and_eq_true, decide_eq_true_eq] at hg; omega
  obtain ⟨⟨p1, p2⟩, ⟨p3, p4⟩, _, ⟨p7, p8⟩, ⟨p9, p10⟩, _, _⟩ := okR_parts (rgR_mem hg (List.mem_of_getElem? hx))
  obtain ⟨ri, hi0', hz0, hz1, hz2⟩ := info_parts row_info
  have HF := Lib.hid (And.intro f0 (And.intro f1 (And.intro f2 (And.intro f3 (And.intro f4 f5)))))
  have HR := Lib.hid hr
  subst e1
  clear hlt hg hx z1 z2 f0 f1 f2 f3 f4 f5 hp hr
  go_enter Try.func6, Try.ntmps6
  go_wp2_with (first
    | (go_at_call 9; refine CL.out.mono ?_; rintro e w1 ⟨rfl, hw1⟩; have hw1 := hw1.symm; subst hw1)
    | (go_at_call 18; refine C4.out.mono ?_; rintro e w3 ⟨rfl, hb3⟩; have B3 := Lib.hid hb3; clear hb3)
    | (go_at_call 14; refine (CR.out _ B3.out).mono ?_; rintro e w4 ⟨rfl, hb4⟩; have B4 := Lib.hid (keep_below B3.out hb4); have y0 := keep_cell B4.out HF.out.1; have y1 := keep_cell B4.out HF.out.2.1; have y2 := keep_cell B4.out HF.out.2.2.1; have y3 := keep_cell B4.out HF.out.2.2.2.1; have y4 := keep_cell B4.out HF.out.2.2.2.2.1; have y5 := keep_cell B4.out HF.out.2.2.2.2.2; clear hb4))
  have O1 := Lib.hid (World.ownsRow_lit (base := w.heap.size) (e := 41) (size := 6) w4 #[.int .i64 x.C, .int .i64 x.B, .int .i64 x.T, .int .i64 x.D, .int .i64 x.J, .int .i64 x.P] 1 B4.out.size (by unfold maxLen; omega) rfl)
  have B5 := Lib.hid (keep_below B4.out (below_alloc w4 (.cells #[.int .i64 x.C, .int .i64 x.B, .int .i64 x.T, .int .i64 x.D, .int .i64 x.J, .int .i64 x.P] 41)))
  clear y0 y1 y2 y3 y4 y5 B3 CR
  generalize w4.alloc (.cells #[.int .i64 x.C, .int .i64 x.B, .int .i64 x.T, .int .i64 x.D, .int .i64 x.J, .int .i64 x.P] 41) = W5 at O1 B5 ⊢
  go_loopw [7, 8, 9] (fun s al j wr => ∃ (kk : Nat) (J : Int) (A : List RtR), kk ≤ n ∧ j = .int .i64 J ∧ Hid (J + 1 = (kk : Int)) ∧ al = .bool A.isEmpty ∧ Hid (A ++ back L x.P i0 kk = back L x.P i0 L.length) ∧ Hid (wr.ownsRow w.heap.size 41 6 s (A.length + 1) (rsC (x :: A))) ∧ Hid (Below w.heap.size w wr)) (fun _ _ j _ => (intOf j + 1).toNat)
  case atStart => exact ⟨n, (n : Int) - 1, [], Nat.le_refl _, rfl, (by show _ = _; omega), rfl, (by show _ = _; rw [HL.out]; rfl), O1, B5⟩
  case round =>
    obtain ⟨kk, J, A, hk, rfl, HJ, rfl, HA, HO, HBL⟩ := hrel
    rcases kk with _ | k
    · have hJ : J = -1 := by have := HJ.out; omega
      subst hJ
      have hAe : A = back L x.P i0 L.length := by have := HA.out; rw [show back L x.P i0 0 = [] from rfl, List.append_nil] at this; exact this
      obtain ⟨a5, c5, rfl, hm5, hR5⟩ := RowS.own HO.out
      have CX := Lib.hid (fun W (hb : Below wr.heap.size wr W) => CM.out a5 _ c5 W (by rw [← hAe]; exact hR5.below hb) (by have h1 := congrArg List.length hAe; have h2 := back_len L x.P i0 L.length; have := HL.out; omega))
      have HAL2 : Hid (A = [] → re = 0 → rv = x.C + x.B + x.J ∧ x.C + x.B + x.J ≤ x.D) := fun h => HAL.out (by rw [← hAe]; exact h)
      clear hAe hR5 hm5
      go_wp2_with (go_at_call 14; refine (CX.out _ (Below.refl _ _)).mono ?_; rintro e w9 ⟨rfl, hb9⟩; have HB9 := Lib.hid (keep_below HBL.out hb9); have y0 := keep_cell HB9.out HF.out.1; have y1 := keep_cell HB9.out HF.out.2.1; have y4 := keep_cell HB9.out HF.out.2.2.2.2.1; clear hb9)
      rcases A with _ | ⟨z, A⟩
      · rw [show ([] : List RtR).isEmpty = true from rfl]
        by_cases hre : re = 0
        · subst hre
          obtain ⟨hv, hbd⟩ := HAL2.out rfl rfl
          subst hv
          have hw1 : IntKind.i64.wrap (x.C + x.B) = x.C + x.B := by rw [IntKind.wrap_i64]; omega
          have hw2 : IntKind.i64.wrap (x.C + x.B + x.J) = x.C + x.B + x.J := by rw [IntKind.wrap_i64]; omega
          refine region_ok 115 31 (fun i => ([85, 86, 87, 88, 89, 90, 91, 92, 93, 94, 95, 96, 97, 98, 99, 100, 101, 102, 103, 104, 105, 106, 107, 108, 109, 110, 111, 112, 113, 114, 4] : List Nat).getD i 0) (fun i => ([[], [0], [1], [2], [2, 3], [2, 4], [5], [6], [6], [6], [6, 8, 9], [6, 10], [6, 11], [6], [6], [6, 13, 14], [6, 15], [6, 16], [6, 12, 17], [6], [6], [6, 19, 20], [6, 21], [6, 22], [6, 18, 23], [6, 7, 24], [6, 25], [26], [27], [27, 28], [29]] : List (List Nat)).getD i []) (fun i v => ([(fun v : Value => v = .bool true), (fun v : Value => v = .bool false), (fun v : Value => v = .bool false), (fun v : Value => v = .int .i64 0), (fun v : Value => v = .bool false), (fun v : Value => v = .bool false), (fun v : Value => v = .bool false), (fun v : Value => v = .int .i64 (x.C + x.B + x.J)), (fun v : Value => v = .slice (some ⟨b1, o1, none⟩) n c), (fun v : Value => v = .int .i64 (i0 : Int)), (fun v : Value => v = .pointer (some ⟨b1, o1 + i0 * 6, none⟩)), (fun v : Value => v = .pointer (some ⟨b1, o1 + i0 * 6, none⟩)), (fun v : Value => v = .int .i64 x.C), (fun v : Value => v = .slice (some ⟨b1, o1, none⟩) n c), (fun v : Value => v = .int .i64 (i0 : Int)), (fun v : Value => v = .pointer (some ⟨b1, o1 + i0 * 6, none⟩)), (fun v : Value => v = .pointer (some ⟨b1, o1 + i0 * 6 + 1, none⟩)), (fun v : Value => v = .int .i64 x.B), (fun v : Value => v = .int .i64 (x.C + x.B)), (fun v : Value => v = .slice (some ⟨b1, o1, none⟩) n c), (fun v : Value => v = .int .i64 (i0 : Int)), (fun v : Value => v = .pointer (some ⟨b1, o1 + i0 * 6, none⟩)), (fun v : Value => v = .pointer (some ⟨b1, o1 + i0 * 6 + 4, none⟩)), (fun v : Value => v = .int .i64 x.J), (fun v : Value => v = .int .i64 (x.C + x.B + x.J)), (fun v : Value => v = .bool true), (fun v : Value => v = .bool true), (fun v : Value => v = .bool true), (fun v : Value => v = .bool true), (fun v : Value => v = .bool true), (fun v : Value => v = .bool true)] : List (Value → Prop)).getD i (fun _ => True) v) (fun V => Below w9.heap.size w9 V) (by kernel_rfl) rfl (fun i j hi hj => (by decide : ∀ i, i < 31 → ∀ j, j < 31 → (fun i => ([85, 86, 87, 88, 89, 90, 91, 92, 93, 94, 95, 96, 97, 98, 99, 100, 101, 102, 103, 104, 105, 106, 107, 108, 109, 110, 111, 112, 113, 114, 4] : List Nat).getD i 0) i = (fun i => ([85, 86, 87, 88, 89, 90, 91, 92, 93, 94, 95, 96, 97, 98, 99, 100, 101, 102, 103, 104, 105, 106, 107, 108, 109, 110, 111, 112, 113, 114, 4] : List Nat).getD i 0) j → i = j) i hi j hj) (by decide) rfl ?_ ?_ ⟨rfl, rfl, rfl, Nat.le_refl _, fun _ _ => rfl⟩ ?_
          · intro i o ho
            match i, ho with
            | 0, ho => obtain rfl := Option.some.inj ho; exact ⟨rfl, by decide, by decide⟩
            | 1, ho => obtain rfl := Option.some.inj ho; exact ⟨rfl, by decide, by decide⟩
            | 2, ho => obtain rfl := Option.some.inj ho; exact ⟨rfl, by decide, by decide⟩
            | 3, ho => obtain rfl := Option.some.inj ho; exact ⟨rfl, by decide, by decide⟩
            | 4, ho => obtain rfl := Option.some.inj ho; exact ⟨rfl, by decide, by decide⟩
            | 5, ho => obtain rfl := Option.some.inj ho; exact ⟨rfl, by decide, by decide⟩
            | 6, ho => obtain rfl := Option.some.inj ho; exact ⟨rfl, by decide, by decide⟩
            | 7, ho => obtain rfl := Option.some.inj ho; exact ⟨rfl, by decide, by decide⟩
            | 8, ho => obtain rfl := Option.some.inj ho; exact ⟨rfl, by decide, by decide⟩
            | 9, ho => obtain rfl := Option.some.inj ho; exact ⟨rfl, by decide, by decide⟩
            | 10, ho => obtain rfl := Option.some.inj ho; exact ⟨rfl, by decide, by decide⟩
            | 11, ho => obtain rfl := Option.some.inj ho; exact ⟨rfl, by decide, by decide⟩
            | 12, ho => obtain rfl := Option.some.inj ho; exact ⟨rfl, by decide, by decide⟩
            | 13, ho => obtain rfl := Option.some.inj ho; exact ⟨rfl, by decide, by decide⟩
            | 14, ho => obtain rfl := Option.some.inj ho; exact ⟨rfl, by decide, by decide⟩
            | 15, ho => obtain rfl := Option.some.inj ho; exact ⟨rfl, by decide, by decide⟩
            | 16, ho => obtain rfl := Option.some.inj ho; exact ⟨rfl, by decide, by decide⟩
            | 17, ho => obtain rfl := Option.some.inj ho; exact ⟨rfl, by decide, by decide⟩
            | 18, ho => obtain rfl := Option.some.inj ho; exact ⟨rfl, by decide, by decide⟩
            | 19, ho => obtain rfl := Option.some.inj ho; exact ⟨rfl, by decide, by decide⟩
            | 20, ho => obtain rfl := Option.some.inj ho; exact ⟨rfl, by decide, by decide⟩
            | 21, ho => obtain rfl := Option.some.inj ho; exact ⟨rfl, by decide, by decide⟩
            | 22, ho => obtain rfl := Option.some.inj ho; exact ⟨rfl, by decide, by decide⟩
            | 23, ho => obtain rfl := Option.some.inj ho; exact ⟨rfl, by decide, by decide⟩
            | 24, ho => obtain rfl := Option.some.inj ho; exact ⟨rfl, by decide, by decide⟩
            | 25, ho => obtain rfl := Option.some.inj ho; exact ⟨rfl, by decide, by decide⟩
            | 26, ho => obtain rfl := Option.some.inj ho; exact ⟨rfl, by decide, by decide⟩
            | 27, ho => obtain rfl := Option.some.inj ho; exact ⟨rfl, by decide, by decide⟩
            | 28, ho => obtain rfl := Option.some.inj ho; exact ⟨rfl, by decide, by decide⟩
            | 29, ho => obtain rfl := Option.some.inj ho; exact ⟨rfl, by decide, by decide⟩
            | 30, ho => obtain rfl := Option.some.inj ho; exact ⟨rfl, by decide, by decide⟩
            | k + 31, ho => simp at ho
          · intro i o ho a' V hS hoth hd
            have oS0 : a'.eval (.tmp 0) = .slice (some ⟨b1, o1, none⟩) n c := hoth 0 (by decide)
            have oS1 : a'.eval (.tmp 1) = .int .i64 (i0 : Int) := hoth 1 (by decide)
            have oS5 : a'.eval (.tmp 5) = .int .i64 (x.C + x.B + x.J) := hoth 5 (by decide)
            have oS6 : a'.eval (.tmp 6) = .int .i64 0 := hoth 6 (by decide)
            have oS8 : a'.eval (.tmp 8) = .bool true := hoth 8 (by decide)
            obtain ⟨ρ, hρ⟩ : ∃ ρ, ρ = a'.eval := ⟨_, rfl⟩
            have hc : ∀ v, ρ (.const v) = v := fun v => by rw [hρ]; rfl
            have hfn : ∀ f, ρ (.func f) = .func (.func f) #[] #[] := fun f => by rw [hρ]; rfl
            simp only [← hρ] at hd ⊢
            rw [← hρ] at oS0
            rw [← hρ] at oS1
            rw [← hρ] at oS5
            rw [← hρ] at oS6
            rw [← hρ] at oS8
            clear hρ hoth
            match i, ho with
            | 0, ho =>
              obtain rfl := Option.some.inj ho
              clear hd
              exact Or.inl ⟨rfl, Gives.val (v := .bool true) (w' := V) (by simp only [execOp]; go_simp) ⟨rfl, hS⟩⟩
            | 1, ho =>
              obtain rfl := Option.some.inj ho
              have e0 : ρ (.tmp 85) = .bool true := hd 0 (by decide)
              clear hd
              exact Or.inl ⟨rfl, Gives.val (v := .bool false) (w' := V) (by simp only [execOp]; go_simp) ⟨rfl, hS⟩⟩
            | 2, ho =>
              obtain rfl := Option.some.inj ho
              have e1 : ρ (.tmp 86) = .bool false := hd 1 (by decide)
              clear hd
              exact Or.inl ⟨rfl, Gives.val (v := .bool false) (w' := V) (by simp only [execOp]; go_simp) ⟨rfl, hS⟩⟩
            | 3, ho =>
              obtain rfl := Option.some.inj ho
              have e2 : ρ (.tmp 87) = .bool false := hd 2 (by decide)
              clear hd
              exact Or.inr ⟨2, false, false, rfl, by decide, e2, fun _ => Gives.val (v := .int .i64 0) (w' := V) (by simp only [execOp]; go_simp) ⟨rfl, hS⟩, fun h => absurd rfl h⟩
            | 4, ho =>
              obtain rfl := Option.some.inj ho
              have e2 : ρ (.tmp 87) = .bool false := hd 2 (by decide)
              have e3 : ρ (.tmp 88) = .int .i64 0 := hd 3 (by decide)
              clear hd
              exact Or.inr ⟨2, false, false, rfl, by decide, e2, fun _ => Gives.val (v := .bool false) (w' := V) (by simp only [execOp]; go_simp) ⟨rfl, hS⟩, fun h => absurd rfl h⟩
            | 5, ho =>
              obtain rfl := Option.some.inj ho
              have e2 : ρ (.tmp 87) = .bool false := hd 2 (by decide)
              have e4 : ρ (.tmp 89) = .bool false := hd 4 (by decide)
              clear hd
              exact Or.inl ⟨rfl, Gives.val (v := .bool false) (w' := V) (by simp only [execOp]; go_simp) ⟨rfl, hS⟩⟩
            | 6, ho =>
              obtain rfl := Option.some.inj ho
              have e5 : ρ (.tmp 90) = .bool false := hd 5 (by decide)
              clear hd
              exact Or.inl ⟨rfl, Gives.val (v := .bool false) (w' := V) (by simp only [execOp]; go_simp) ⟨rfl, hS⟩⟩
            | 7, ho =>
              obtain rfl := Option.some.inj ho
              have e6 : ρ (.tmp 91) = .bool false := hd 6 (by decide)
              clear hd
              exact Or.inr ⟨6, false, false, rfl, by decide, e6, fun _ => Gives.val (v := .int .i64 (x.C + x.B + x.J)) (w' := V) (by simp only [execOp]; go_simp) ⟨rfl, hS⟩, fun h => absurd rfl h⟩
            | 8, ho =>
              obtain rfl := Option.some.inj ho
              have e6 : ρ (.tmp 91) = .bool false := hd 6 (by decide)
              clear hd
              exact Or.inr ⟨6, false, false, rfl, by decide, e6, fun _ => Gives.val (v := .slice (some ⟨b1, o1, none⟩) n c) (w' := V) (by simp only [execOp]; go_simp) ⟨rfl, hS⟩, fun h => absurd rfl h⟩
            | 9, ho =>
              obtain rfl := Option.some.inj ho
              have e6 : ρ (.tmp 91) = .bool false := hd 6 (by decide)
              clear hd
              exact Or.inr ⟨6, false, false, rfl, by decide, e6, fun _ => Gives.val (v := .int .i64 (i0 : Int)) (w' := V) (by simp only [execOp]; go_simp) ⟨rfl, hS⟩, fun h => absurd rfl h⟩
            | 10, ho =>
              obtain rfl := Option.some.inj ho
              have e6 : ρ (.tmp 91) = .bool false := hd 6 (by decide)
              have e8 : ρ (.tmp 93) = .slice (some ⟨b1, o1, none⟩) n c := hd 8 (by decide)
              have e9 : ρ (.tmp 94) = .int .i64 (i0 : Int) := hd 9 (by decide)
              clear hd
              exact Or.inr ⟨6, false, false, rfl, by decide, e6, fun _ => Gives.val (v := .pointer (some ⟨b1, o1 + i0 * 6, none⟩)) (w' := V) (by simp only [execOp]; go_simp) ⟨rfl, hS⟩, fun h => absurd rfl h⟩
            | 11, ho =>
              obtain rfl := Option.some.inj ho
              have e6 : ρ (.tmp 91) = .bool false := hd 6 (by decide)
              have e10 : ρ (.tmp 95) = .pointer (some ⟨b1, o1 + i0 * 6, none⟩) := hd 10 (by decide)
              clear hd
              exact Or.inr ⟨6, false, false, rfl, by decide, e6, fun _ => Gives.val (v := .pointer (some ⟨b1, o1 + i0 * 6, none⟩)) (w' := V) (by simp only [execOp]; go_simp) ⟨rfl, hS⟩, fun h => absurd rfl h⟩
            | 12, ho =>
              obtain rfl := Option.some.inj ho
              have e6 : ρ (.tmp 91) = .bool false := hd 6 (by decide)
              have e11 : ρ (.tmp 96) = .pointer (some ⟨b1, o1 + i0 * 6, none⟩) := hd 11 (by decide)
              clear hd
              have c0 := keep_cell hS y0
              exact Or.inr ⟨6, false, false, rfl, by decide, e6, fun _ => Gives.val (v := .int .i64 x.C) (w' := V) (by simp only [execOp]; go_simp) ⟨rfl, hS⟩, fun h => absurd rfl h⟩
            | 13, ho =>
              obtain rfl := Option.some.inj ho
              have e6 : ρ (.tmp 91) = .bool false := hd 6 (by decide)
              clear hd
              exact Or.inr ⟨6, false, false, rfl, by decide, e6, fun _ => Gives.val (v := .slice (some ⟨b1, o1, none⟩) n c) (w' := V) (by simp only [execOp]; go_simp) ⟨rfl, hS⟩, fun h => absurd rfl h⟩
            | 14, ho =>
              obtain rfl := Option.some.inj ho
              have e6 : ρ (.tmp 91) = .bool false := hd 6 (by decide)
              clear hd
              exact Or.inr ⟨6, false, false, rfl, by decide, e6, fun _ => Gives.val (v := .int .i64 (i0 : Int)) (w' := V) (by simp only [execOp]; go_simp) ⟨rfl, hS⟩, fun h => absurd rfl h⟩
            | 15, ho =>
              obtain rfl := Option.some.inj ho
              have e6 : ρ (.tmp 91) = .bool false := hd 6 (by decide)
              have e13 : ρ (.tmp 98) = .slice (some ⟨b1, o1, none⟩) n c := hd 13 (by decide)
              have e14 : ρ (.tmp 99) = .int .i64 (i0 : Int) := hd 14 (by decide)
              clear hd
              exact Or.inr ⟨6, false, false, rfl, by decide, e6, fun _ => Gives.val (v := .pointer (some ⟨b1, o1 + i0 * 6, none⟩)) (w' := V) (by simp only [execOp]; go_simp) ⟨rfl, hS⟩, fun h => absurd rfl h⟩
            | 16, ho =>
              obtain rfl := Option.some.inj ho
              have e6 : ρ (.tmp 91) = .bool false := hd 6 (by decide)
              have e15 : ρ (.tmp 100) = .pointer (some ⟨b1, o1 + i0 * 6, none⟩) := hd 15 (by decide)
              clear hd
              exact Or.inr ⟨6, false, false, rfl, by decide, e6, fun _ => Gives.val (v := .pointer (some ⟨b1, o1 + i0 * 6 + 1, none⟩)) (w' := V) (by simp only [execOp]; go_simp) ⟨rfl, hS⟩, fun h => absurd rfl h⟩
            | 17, ho =>
              obtain rfl := Option.some.inj ho
              have e6 : ρ (.tmp 91) = .bool false := hd 6 (by decide)
              have e16 : ρ (.tmp 101) = .pointer (some ⟨b1, o1 + i0 * 6 + 1, none⟩) := hd 16 (by decide)
              clear hd
              have c1 := keep_cell hS y1
              exact Or.inr ⟨6, false, false, rfl, by decide, e6, fun _ => Gives.val (v := .int .i64 x.B) (w' := V) (by simp only [execOp]; go_simp) ⟨rfl, hS⟩, fun h => absurd rfl h⟩
            | 18, ho =>
              obtain rfl := Option.some.inj ho
              have e6 : ρ (.tmp 91) = .bool false := hd 6 (by decide)
              have e12 : ρ (.tmp 97) = .int .i64 x.C := hd 12 (by decide)
              have e17 : ρ (.tmp 102) = .int .i64 x.B := hd 17 (by decide)
              clear hd
              exact Or.inr ⟨6, false, false, rfl, by decide, e6, fun _ => Gives.val (v := .int .i64 (x.C + x.B)) (w' := V) (by simp only [execOp]; go_simp) ⟨rfl, hS⟩, fun h => absurd rfl h⟩
            | 19, ho =>
              obtain rfl := Option.some.inj ho
              have e6 : ρ (.tmp 91) = .bool false := hd 6 (by decide)
              clear hd
              exact Or.inr ⟨6, false, false, rfl, by decide, e6, fun _ => Gives.val (v := .slice (some ⟨b1, o1, none⟩) n c) (w' := V) (by simp only [execOp]; go_simp) ⟨rfl, hS⟩, fun h => absurd rfl h⟩
            | 20, ho =>
              obtain rfl := Option.some.inj ho
              have e6 : ρ (.tmp 91) = .bool false := hd 6 (by decide)
              clear hd
              exact Or.inr ⟨6, false, false, rfl, by decide, e6, fun _ => Gives.val (v := .int .i64 (i0 : Int)) (w' := V) (by simp only [execOp]; go_simp) ⟨rfl, hS⟩, fun h => absurd rfl h⟩
            | 21, ho =>
              obtain rfl := Option.some.inj ho
              have e6 : ρ (.tmp 91) = .bool false := hd 6 (by decide)
              have e19 : ρ (.tmp 104) = .slice (some ⟨b1, o1, none⟩) n c := hd 19 (by decide)
              have e20 : ρ (.tmp 105) = .int .i64 (i0 : Int) := hd 20 (by decide)
              clear hd
              exact Or.inr ⟨6, false, false, rfl, by decide, e6, fun _ => Gives.val (v := .pointer (some ⟨b1, o1 + i0 * 6, none⟩)) (w' := V) (by simp only [execOp]; go_simp) ⟨rfl, hS⟩, fun h => absurd rfl h⟩
            | 22, ho =>
              obtain rfl := Option.some.inj ho
              have e6 : ρ (.tmp 91) = .bool false := hd 6 (by decide)
              have e21 : ρ (.tmp 106) = .pointer (some ⟨b1, o1 + i0 * 6, none⟩) := hd 21 (by decide)
              clear hd
              exact Or.inr ⟨6, false, false, rfl, by decide, e6, fun _ => Gives.val (v := .pointer (some ⟨b1, o1 + i0 * 6 + 4, none⟩)) (w' := V) (by simp only [execOp]; go_simp) ⟨rfl, hS⟩, fun h => absurd rfl h⟩
            | 23, ho =>
              obtain rfl := Option.some.inj ho
              have e6 : ρ (.tmp 91) = .bool false := hd 6 (by decide)
              have e22 : ρ (.tmp 107) = .pointer (some ⟨b1, o1 + i0 * 6 + 4, none⟩) := hd 22 (by decide)
              clear hd
              have c4 := keep_cell hS y4
              exact Or.inr ⟨6, false, false, rfl, by decide, e6, fun _ => Gives.val (v := .int .i64 x.J) (w' := V) (by simp only [execOp]; go_simp) ⟨rfl, hS⟩, fun h => absurd rfl h⟩
            | 24, ho =>
              obtain rfl := Option.some.inj ho
              have e6 : ρ (.tmp 91) = .bool false := hd 6 (by decide)
              have e18 : ρ (.tmp 103) = .int .i64 (x.C + x.B) := hd 18 (by decide)
              have e23 : ρ (.tmp 108) = .int .i64 x.J := hd 23 (by decide)
              clear hd
              exact Or.inr ⟨6, false, false, rfl, by decide, e6, fun _ => Gives.val (v := .int .i64 (x.C + x.B + x.J)) (w' := V) (by simp only [execOp]; go_simp) ⟨rfl, hS⟩, fun h => absurd rfl h⟩
            | 25, ho =>
              obtain rfl := Option.some.inj ho
              have e6 : ρ (.tmp 91) = .bool false := hd 6 (by decide)
              have e7 : ρ (.tmp 92) = .int .i64 (x.C + x.B + x.J) := hd 7 (by decide)
              have e24 : ρ (.tmp 109) = .int .i64 (x.C + x.B + x.J) := hd 24 (by decide)
              clear hd
              exact Or.inr ⟨6, false, false, rfl, by decide, e6, fun _ => Gives.val (v := .bool true) (w' := V) (by simp only [execOp]; go_simp) ⟨rfl, hS⟩, fun h => absurd rfl h⟩
            | 26, ho =>
              obtain rfl := Option.some.inj ho
              have e6 : ρ (.tmp 91) = .bool false := hd 6 (by decide)
              have e25 : ρ (.tmp 110) = .bool true := hd 25 (by decide)
              clear hd
              exact Or.inl ⟨rfl, Gives.val (v := .bool true) (w' := V) (by simp only [execOp]; go_simp) ⟨rfl, hS⟩⟩
            | 27, ho =>
              obtain rfl := Option.some.inj ho
              have e26 : ρ (.tmp 111) = .bool true := hd 26 (by decide)
              clear hd
              exact Or.inl ⟨rfl, Gives.val (v := .bool true) (w' := V) (by simp only [execOp]; go_simp) ⟨rfl, hS⟩⟩
            | 28, ho =>
              obtain rfl := Option.some.inj ho
              have e27 : ρ (.tmp 112) = .bool true := hd 27 (by decide)
              clear hd
              refine Or.inr ⟨27, true, true, rfl, by decide, e27, fun _ => Gives.enter (f := 10) (args := #[]) (by simp only [execOp]; go_simp) ((known_any H1.out _).mono ?_), fun h => absurd rfl h⟩
              rintro e w8 ⟨rfl, b8⟩
              exact ⟨_, rfl, rfl, keep_below hS b8⟩
            | 29, ho =>
              obtain rfl := Option.some.inj ho
              have e27 : ρ (.tmp 112) = .bool true := hd 27 (by decide)
              have e28 : ρ (.tmp 113) = .bool true := hd 28 (by decide)
              clear hd
              exact Or.inl ⟨rfl, Gives.val (v := .bool true) (w' := V) (by simp only [execOp]; go_simp) ⟨rfl, hS⟩⟩
            | 30, ho =>
              obtain rfl := Option.some.inj ho
              have e29 : ρ (.tmp 114) = .bool true := hd 29 (by decide)
              clear hd
              exact Or.inl ⟨rfl, Gives.val (v := .bool true) (w' := V) (by simp only [execOp]; go_simp) ⟨rfl, hS⟩⟩
            | k + 31, ho => simp at ho
          · intro a' V hsz hdef hoth hok hS
            have hcov : ∀ i, i < 31 → 85 ≤ (fun i => ([85, 86, 87, 88, 89, 90, 91, 92, 93, 94, 95, 96, 97, 98, 99, 100, 101, 102, 103, 104, 105, 106, 107, 108, 109, 110, 111, 112, 113, 114, 4] : List Nat).getD i 0) i ∧ (fun i => ([85, 86, 87, 88, 89, 90, 91, 92, 93, 94, 95, 96, 97, 98, 99, 100, 101, 102, 103, 104, 105, 106, 107, 108, 109, 110, 111, 112, 113, 114, 4] : List Nat).getD i 0) i < 115 ∨ (fun i => ([85, 86, 87, 88, 89, 90, 91, 92, 93, 94, 95, 96, 97, 98, 99, 100, 101, 102, 103, 104, 105, 106, 107, 108, 109, 110, 111, 112, 113, 114, 4] : List Nat).getD i 0) i = 4 := by decide
            have hv4 : a'.eval (.tmp 4) = .bool true := hok 30 (by decide)
            clear hok
            obtain ⟨us, hu1, rfl⟩ := act_mix1 85 30 4 (.bool true) rfl hsz hdef (by simp) (by simp) hv4 (by decide) (fun k hkd hk => hoth k (fun i hi => by have := hcov i hi; dsimp only at this ⊢; omega))
            match us, hu1 with
            | u85 :: u86 :: u87 :: u88 :: u89 :: u90 :: u91 :: u92 :: u93 :: u94 :: u95 :: u96 :: u97 :: u98 :: u99 :: u100 :: u101 :: u102 :: u103 :: u104 :: u105 :: u106 :: u107 :: u108 :: u109 :: u110 :: u111 :: u112 :: u113 :: u114 :: [], _ =>
              go_wp2
              go_ret
              exact ⟨rfl, keep_below HB9.out hS⟩
        · have d9 : (re == 0) = false := beq_eq_false_iff_ne.2 hre
          have d9b : (re != 0) = true := bne_iff_ne.2 hre
          have d9c : (!(re == 0)) = true := by rw [d9]; rfl
          have d9d : decide (re = 0) = false := decide_eq_false hre
          refine region_ok 115 31 (fun i => ([85, 86, 87, 88, 89, 90, 91, 92, 93, 94, 95, 96, 97, 98, 99, 100, 101, 102, 103, 104, 105, 106, 107, 108, 109, 110, 111, 112, 113, 114, 4] : List Nat).getD i 0) (fun i => ([[], [0], [1], [2], [2, 3], [2, 4], [5], [6], [6], [6], [6, 8, 9], [6, 10], [6, 11], [6], [6], [6, 13, 14], [6, 15], [6, 16], [6, 12, 17], [6], [6], [6, 19, 20], [6, 21], [6, 22], [6, 18, 23], [6, 7, 24], [6, 25], [26], [27], [27, 28], [29]] : List (List Nat)).getD i []) (fun i v => ([(fun v : Value => v = .bool true), (fun v : Value => v = .bool false), (fun v : Value => v = .bool false), (fun v : Value => v = .int .i64 re), (fun v : Value => v = .bool true), (fun v : Value => v = .bool true), (fun v : Value => v = .bool true), (fun v : Value => v = undef), (fun v : Value => v = undef), (fun v : Value => v = undef), (fun v : Value => v = undef), (fun v : Value => v = undef), (fun v : Value => v = undef), (fun v : Value => v = undef), (fun v : Value => v = undef), (fun v : Value => v = undef), (fun v : Value => v = undef), (fun v : Value => v = undef), (fun v : Value => v = undef), (fun v : Value => v = undef), (fun v : Value => v = undef), (fun v : Value => v = undef), (fun v : Value => v = undef), (fun v : Value => v = undef), (fun v : Value => v = undef), (fun v : Value => v = undef), (fun v : Value => v = .bool true), (fun v : Value => v = .bool true), (fun v : Value => v = .bool true), (fun v : Value => v = .bool true), (fun v : Value => v = .bool true)] : List (Value → Prop)).getD i (fun _ => True) v) (fun V => Below w9.heap.size w9 V) (by kernel_rfl) rfl (fun i j hi hj => (by decide : ∀ i, i < 31 → ∀ j, j < 31 → (fun i => ([85, 86, 87, 88, 89, 90, 91, 92, 93, 94, 95, 96, 97, 98, 99, 100, 101, 102, 103, 104, 105, 106, 107, 108, 109, 110, 111, 112, 113, 114, 4] : List Nat).getD i 0) i = (fun i => ([85, 86, 87, 88, 89, 90, 91, 92, 93, 94, 95, 96, 97, 98, 99, 100, 101, 102, 103, 104, 105, 106, 107, 108, 109, 110, 111, 112, 113, 114, 4] : List Nat).getD i 0) j → i = j) i hi j hj) (by decide) rfl ?_ ?_ ⟨rfl, rfl, rfl, Nat.le_refl _, fun _ _ => rfl⟩ ?_
          · intro i o ho
            match i, ho with
            | 0, ho => obtain rfl := Option.some.inj ho; exact ⟨rfl, by decide, by decide⟩
            | 1, ho => obtain rfl := Option.some.inj ho; exact ⟨rfl, by decide, by decide⟩
            | 2, ho => obtain rfl := Option.some.inj ho; exact ⟨rfl, by decide, by decide⟩
            | 3, ho => obtain rfl := Option.some.inj ho; exact ⟨rfl, by decide, by decide⟩
            | 4, ho => obtain rfl := Option.some.inj ho; exact ⟨rfl, by decide, by decide⟩
            | 5, ho => obtain rfl := Option.some.inj ho; exact ⟨rfl, by decide, by decide⟩
            | 6, ho => obtain rfl := Option.some.inj ho; exact ⟨rfl, by decide, by decide⟩
            | 7, ho => obtain rfl := Option.some.inj ho; exact ⟨rfl, by decide, by decide⟩
            | 8, ho => obtain rfl := Option.some.inj ho; exact ⟨rfl, by decide, by decide⟩
            | 9, ho => obtain rfl := Option.some.inj ho; exact ⟨rfl, by decide, by decide⟩
            | 10, ho => obtain rfl := Option.some.inj ho; exact ⟨rfl, by decide, by decide⟩
            | 11, ho => obtain rfl := Option.some.inj ho; exact ⟨rfl, by decide, by decide⟩
            | 12, ho => obtain rfl := Option.some.inj ho; exact ⟨rfl, by decide, by decide⟩
            | 13, ho => obtain rfl := Option.some.inj ho; exact ⟨rfl, by decide, by decide⟩
            | 14, ho => obtain rfl := Option.some.inj ho; exact ⟨rfl, by decide, by decide⟩
            | 15, ho => obtain rfl := Option.some.inj ho; exact ⟨rfl, by decide, by decide⟩
            | 16, ho => obtain rfl := Option.some.inj ho; exact ⟨rfl, by decide, by decide⟩
            | 17, ho => obtain rfl := Option.some.inj ho; exact ⟨rfl, by decide, by decide⟩
            | 18, ho => obtain rfl := Option.some.inj ho; exact ⟨rfl, by decide, by decide⟩
            | 19, ho => obtain rfl := Option.some.inj ho; exact ⟨rfl, by decide, by decide⟩
            | 20, ho => obtain rfl := Option.some.inj ho; exact ⟨rfl, by decide, by decide⟩
            | 21, ho => obtain rfl := Option.some.inj ho; exact ⟨rfl, by decide, by decide⟩
            | 22, ho => obtain rfl := Option.some.inj ho; exact ⟨rfl, by decide, by decide⟩
            | 23, ho => obtain rfl := Option.some.inj ho; exact ⟨rfl, by decide, by decide⟩
            | 24, ho => obtain rfl := Option.some.inj ho; exact ⟨rfl, by decide, by decide⟩
            | 25, ho => obtain rfl := Option.some.inj ho; exact ⟨rfl, by decide, by decide⟩
            | 26, ho => obtain rfl := Option.some.inj ho; exact ⟨rfl, by decide, by decide⟩
            | 27, ho => obtain rfl := Option.some.inj ho; exact ⟨rfl, by decide, by decide⟩
            | 28, ho => obtain rfl := Option.some.inj ho; exact ⟨rfl, by decide, by decide⟩
            | 29, ho => obtain rfl := Option.some.inj ho; exact ⟨rfl, by decide, by decide⟩
            | 30, ho => obtain rfl := Option.some.inj ho; exact ⟨rfl, by decide, by decide⟩
            | k + 31, ho => simp at ho
          · intro i o ho a' V hS hoth hd
            have oS0 : a'.eval (.tmp 0) = .slice (some ⟨b1, o1, none⟩) n c := hoth 0 (by decide)
            have oS1 : a'.eval (.tmp 1) = .int .i64 (i0 : Int) := hoth 1 (by decide)
            have oS5 : a'.eval (.tmp 5) = .int .i64 rv := hoth 5 (by decide)
            have oS6 : a'.eval (.tmp 6) = .int .i64 re := hoth 6 (by decide)
            have oS8 : a'.eval (.tmp 8) = .bool true := hoth 8 (by decide)
            obtain ⟨ρ, hρ⟩ : ∃ ρ, ρ = a'.eval := ⟨_, rfl⟩
            have hc : ∀ v, ρ (.const v) = v := fun v => by rw [hρ]; rfl
            have hfn : ∀ f, ρ (.func f) = .func (.func f) #[] #[] := fun f => by rw [hρ]; rfl
            simp only [← hρ] at hd ⊢
            rw [← hρ] at oS0
            rw [← hρ] at oS1
            rw [← hρ] at oS5
            rw [← hρ] at oS6
            rw [← hρ] at oS8
            clear hρ hoth
            match i, ho with
            | 0, ho =>
              obtain rfl := Option.some.inj ho
              clear hd
              exact Or.inl ⟨rfl, Gives.val (v := .bool true) (w' := V) (by simp only [execOp]; go_simp) ⟨rfl, hS⟩⟩
            | 1, ho =>
              obtain rfl := Option.some.inj ho
              have e0 : ρ (.tmp 85) = .bool true := hd 0 (by decide)
              clear hd
              exact Or.inl ⟨rfl, Gives.val (v := .bool false) (w' := V) (by simp only [execOp]; go_simp) ⟨rfl, hS⟩⟩
            | 2, ho =>
              obtain rfl := Option.some.inj ho
              have e1 : ρ (.tmp 86) = .bool false := hd 1 (by decide)
              clear hd
              exact Or.inl ⟨rfl, Gives.val (v := .bool false) (w' := V) (by simp only [execOp]; go_simp) ⟨rfl, hS⟩⟩
            | 3, ho =>
              obtain rfl := Option.some.inj ho
              have e2 : ρ (.tmp 87) = .bool false := hd 2 (by decide)
              clear hd
              exact Or.inr ⟨2, false, false, rfl, by decide, e2, fun _ => Gives.val (v := .int .i64 re) (w' := V) (by simp only [execOp]; go_simp) ⟨rfl, hS⟩, fun h => absurd rfl h⟩
            | 4, ho =>
              obtain rfl := Option.some.inj ho
              have e2 : ρ (.tmp 87) = .bool false := hd 2 (by decide)
              have e3 : ρ (.tmp 88) = .int .i64 re := hd 3 (by decide)
              clear hd
              exact Or.inr ⟨2, false, false, rfl, by decide, e2, fun _ => Gives.val (v := .bool true) (w' := V) (by simp only [execOp]; go_simp) ⟨rfl, hS⟩, fun h => absurd rfl h⟩
            | 5, ho =>
              obtain rfl := Option.some.inj ho
              have e2 : ρ (.tmp 87) = .bool false := hd 2 (by decide)
              have e4 : ρ (.tmp 89) = .bool true := hd 4 (by decide)
              clear hd
              exact Or.inl ⟨rfl, Gives.val (v := .bool true) (w' := V) (by simp only [execOp]; go_simp) ⟨rfl, hS⟩⟩
            | 6, ho =>
              obtain rfl := Option.some.inj ho
              have e5 : ρ (.tmp 90) = .bool true := hd 5 (by decide)
              clear hd
              exact Or.inl ⟨rfl, Gives.val (v := .bool true) (w' := V) (by simp only [execOp]; go_simp) ⟨rfl, hS⟩⟩
            | 7, ho =>
              obtain rfl := Option.some.inj ho
              have e6 : ρ (.tmp 91) = .bool true := hd 6 (by decide)
              clear hd
              exact Or.inr ⟨6, false, true, rfl, by decide, e6, fun h => absurd h (by decide), fun _ => rfl⟩
            | 8, ho =>
              obtain rfl := Option.some.inj ho
              have e6 : ρ (.tmp 91) = .bool true := hd 6 (by decide)
              clear hd
              exact Or.inr ⟨6, false, true, rfl, by decide, e6, fun h => absurd h (by decide), fun _ => rfl⟩
            | 9, ho =>
              obtain rfl := Option.some.inj ho
              have e6 : ρ (.tmp 91) = .bool true := hd 6 (by decide)
              clear hd
              exact Or.inr ⟨6, false, true, rfl, by decide, e6, fun h => absurd h (by decide), fun _ => rfl⟩
            | 10, ho =>
              obtain rfl := Option.some.inj ho
              have e6 : ρ (.tmp 91) = .bool true := hd 6 (by decide)
              have e8 : ρ (.tmp 93) = undef := hd 8 (by decide)
              have e9 : ρ (.tmp 94) = undef := hd 9 (by decide)
              clear hd
              exact Or.inr ⟨6, false, true, rfl, by decide, e6, fun h => absurd h (by decide), fun _ => rfl⟩
            | 11, ho =>
              obtain rfl := Option.some.inj ho
              have e6 : ρ (.tmp 91) = .bool true := hd 6 (by decide)
              have e10 : ρ (.tmp 95) = undef := hd 10 (by decide)
              clear hd
              exact Or.inr ⟨6, false, true, rfl, by decide, e6, fun h => absurd h (by decide), fun _ => rfl⟩
            | 12, ho =>
              obtain rfl := Option.some.inj ho
              have e6 : ρ (.tmp 91) = .bool true := hd 6 (by decide)
              have e11 : ρ (.tmp 96) = undef := hd 11 (by decide)
              clear hd
              exact Or.inr ⟨6, false, true, rfl, by decide, e6, fun h => absurd h (by decide), fun _ => rfl⟩
            | 13, ho =>
              obtain rfl := Option.some.inj ho
              have e6 : ρ (.tmp 91) = .bool true := hd 6 (by decide)
              clear hd
              exact Or.inr ⟨6, false, true, rfl, by decide, e6, fun h => absurd h (by decide), fun _ => rfl⟩
            | 14, ho =>
              obtain rfl := Option.some.inj ho
              have e6 : ρ (.tmp 91) = .bool true := hd 6 (by decide)
              clear hd
              exact Or.inr ⟨6, false, true, rfl, by decide, e6, fun h => absurd h (by decide), fun _ => rfl⟩
            | 15, ho =>
              obtain rfl := Option.some.inj ho
              have e6 : ρ (.tmp 91) = .bool true := hd 6 (by decide)
              have e13 : ρ (.tmp 98) = undef := hd 13 (by decide)
              have e14 : ρ (.tmp 99) = undef := hd 14 (by decide)
              clear hd
              exact Or.inr ⟨6, false, true, rfl, by decide, e6, fun h => absurd h (by decide), fun _ => rfl⟩
            | 16, ho =>
              obtain rfl := Option.some.inj ho
              have e6 : ρ (.tmp 91) = .bool true := hd 6 (by decide)
              have e15 : ρ (.tmp 100) = undef := hd 15 (by decide)
              clear hd
              exact Or.inr ⟨6, false, true, rfl, by decide, e6, fun h => absurd h (by decide), fun _ => rfl⟩
            | 17, ho =>
              obtain rfl := Option.some.inj ho
              have e6 : ρ (.tmp 91) = .bool true := hd 6 (by decide)
              have e16 : ρ (.tmp 101) = undef := hd 16 (by decide)
              clear hd
              exact Or.inr ⟨6, false, true, rfl, by decide, e6, fun h => absurd h (by decide), fun _ => rfl⟩
            | 18, ho =>
              obtain rfl := Option.some.inj ho
              have e6 : ρ (.tmp 91) = .bool true := hd 6 (by decide)
              have e12 : ρ (.tmp 97) = undef := hd 12 (by decide)
              have e17 : ρ (.tmp 102) = undef := hd 17 (by decide)
              clear hd
              exact Or.inr ⟨6, false, true, rfl, by decide, e6, fun h => absurd h (by decide), fun _ => rfl⟩
            | 19, ho =>
              obtain rfl := Option.some.inj ho
              have e6 : ρ (.tmp 91) = .bool true := hd 6 (by decide)
              clear hd
              exact Or.inr ⟨6, false, true, rfl, by decide, e6, fun h => absurd h (by decide), fun _ => rfl⟩
            | 20, ho =>
              obtain rfl := Option.some.inj ho
              have e6 : ρ (.tmp 91) = .bool true := hd 6 (by decide)
              clear hd
              exact Or.inr ⟨6, false, true, rfl, by decide, e6, fun h => absurd h (by decide), fun _ => rfl⟩
            | 21, ho =>
              obtain rfl := Option.some.inj ho
              have e6 : ρ (.tmp 91) = .bool true := hd 6 (by decide)
              have e19 : ρ (.tmp 104) = undef := hd 19 (by decide)
              have e20 : ρ (.tmp 105) = undef := hd 20 (by decide)
              clear hd
              exact Or.inr ⟨6, false, true, rfl, by decide, e6, fun h => absurd h (by decide), fun _ => rfl⟩
            | 22, ho =>
              obtain rfl := Option.some.inj ho
              have e6 : ρ (.tmp 91) = .bool true := hd 6 (by decide)
              have e21 : ρ (.tmp 106) = undef := hd 21 (by decide)
              clear hd
              exact Or.inr ⟨6, false, true, rfl, by decide, e6, fun h => absurd h (by decide), fun _ => rfl⟩
            | 23, ho =>
              obtain rfl := Option.some.inj ho
              have e6 : ρ (.tmp 91) = .bool true := hd 6 (by decide)
              have e22 : ρ (.tmp 107) = undef := hd 22 (by decide)
              clear hd
              exact Or.inr ⟨6, false, true, rfl, by decide, e6, fun h => absurd h (by decide), fun _ => rfl⟩
            | 24, ho =>
              obtain rfl := Option.some.inj ho
              have e6 : ρ (.tmp 91) = .bool true := hd 6 (by decide)
              have e18 : ρ (.tmp 103) = undef := hd 18 (by decide)
              have e23 : ρ (.tmp 108) = undef := hd 23 (by decide)
              clear hd
              exact Or.inr ⟨6, false, true, rfl, by decide, e6, fun h => absurd h (by decide), fun _ => rfl⟩
            | 25, ho =>
              obtain rfl := Option.some.inj ho
              have e6 : ρ (.tmp 91) = .bool true := hd 6 (by decide)
              have e7 : ρ (.tmp 92) = undef := hd 7 (by decide)
              have e24 : ρ (.tmp 109) = undef := hd 24 (by decide)
              clear hd
              exact Or.inr ⟨6, false, true, rfl, by decide, e6, fun h => absurd h (by decide), fun _ => rfl⟩
            | 26, ho =>
              obtain rfl := Option.some.inj ho
              have e6 : ρ (.tmp 91) = .bool true := hd 6 (by decide)
              have e25 : ρ (.tmp 110) = undef := hd 25 (by decide)
              clear hd
              exact Or.inl ⟨rfl, Gives.val (v := .bool true) (w' := V) (by simp only [execOp]; go_simp) ⟨rfl, hS⟩⟩
            | 27, ho =>
              obtain rfl := Option.some.inj ho
              have e26 : ρ (.tmp 111) = .bool true := hd 26 (by decide)
              clear hd
              exact Or.inl ⟨rfl, Gives.val (v := .bool true) (w' := V) (by simp only [execOp]; go_simp) ⟨rfl, hS⟩⟩
            | 28, ho =>
              obtain rfl := Option.some.inj ho
              have e27 : ρ (.tmp 112) = .bool true := hd 27 (by decide)
              clear hd
              refine Or.inr ⟨27, true, true, rfl, by decide, e27, fun _ => Gives.enter (f := 10) (args := #[]) (by simp only [execOp]; go_simp) ((known_any H1.out _).mono ?_), fun h => absurd rfl h⟩
              rintro e w8 ⟨rfl, b8⟩
              exact ⟨_, rfl, rfl, keep_below hS b8⟩
            | 29, ho =>
              obtain rfl := Option.some.inj ho
              have e27 : ρ (.tmp 112) = .bool true := hd 27 (by decide)
              have e28 : ρ (.tmp 113) = .bool true := hd 28 (by decide)
              clear hd
              exact Or.inl ⟨rfl, Gives.val (v := .bool true) (w' := V) (by simp only [execOp]; go_simp) ⟨rfl, hS⟩⟩
            | 30, ho =>
              obtain rfl := Option.some.inj ho
              have e29 : ρ (.tmp 114) = .bool true := hd 29 (by decide)
              clear hd
              exact Or.inl ⟨rfl, Gives.val (v := .bool true) (w' := V) (by simp only [execOp]; go_simp) ⟨rfl, hS⟩⟩
            | k + 31, ho => simp at ho
          · intro a' V hsz hdef hoth hok hS
            have hcov : ∀ i, i < 31 → 85 ≤ (fun i => ([85, 86, 87, 88, 89, 90, 91, 92, 93, 94, 95, 96, 97, 98, 99, 100, 101, 102, 103, 104, 105, 106, 107, 108, 109, 110, 111, 112, 113, 114, 4] : List Nat).getD i 0) i ∧ (fun i => ([85, 86, 87, 88, 89, 90, 91, 92, 93, 94, 95, 96, 97, 98, 99, 100, 101, 102, 103, 104, 105, 106, 107, 108, 109, 110, 111, 112, 113, 114, 4] : List Nat).getD i 0) i < 115 ∨ (fun i => ([85, 86, 87, 88, 89, 90, 91, 92, 93, 94, 95, 96, 97, 98, 99, 100, 101, 102, 103, 104, 105, 106, 107, 108, 109, 110, 111, 112, 113, 114, 4] : List Nat).getD i 0) i = 4 := by decide
            have hv4 : a'.eval (.tmp 4) = .bool true := hok 30 (by decide)
            clear hok
            obtain ⟨us, hu1, rfl⟩ := act_mix1 85 30 4 (.bool true) rfl hsz hdef (by simp) (by simp) hv4 (by decide) (fun k hkd hk => hoth k (fun i hi => by have := hcov i hi; dsimp only at this ⊢; omega))
            match us, hu1 with
            | u85 :: u86 :: u87 :: u88 :: u89 :: u90 :: u91 :: u92 :: u93 :: u94 :: u95 :: u96 :: u97 :: u98 :: u99 :: u100 :: u101 :: u102 :: u103 :: u104 :: u105 :: u106 :: u107 :: u108 :: u109 :: u110 :: u111 :: u112 :: u113 :: u114 :: [], _ =>
              go_wp2
              go_ret
              exact ⟨rfl, keep_below HB9.out hS⟩
      · rw [show (z :: A).isEmpty = false from rfl]
        · clear CX
          refine region_ok 115 31 (fun i => ([85, 86, 87, 88, 89, 90, 91, 92, 93, 94, 95, 96, 97, 98, 99, 100, 101, 102, 103, 104, 105, 106, 107, 108, 109, 110, 111, 112, 113, 114, 4] : List Nat).getD i 0) (fun i => ([[], [0], [1], [2], [2, 3], [2, 4], [5], [6], [6], [6], [6, 8, 9], [6, 10], [6, 11], [6], [6], [6, 13, 14], [6, 15], [6, 16], [6, 12, 17], [6], [6], [6, 19, 20], [6, 21], [6, 22], [6, 18, 23], [6, 7, 24], [6, 25], [26], [27], [27, 28], [29]] : List (List Nat)).getD i []) (fun i v => ([(fun v : Value => v = .bool false), (fun v : Value => v = .bool true), (fun v : Value => v = .bool true), (fun v : Value => v = undef), (fun v : Value => v = undef), (fun v : Value => v = .bool true), (fun v : Value => v = .bool true), (fun v : Value => v = undef), (fun v : Value => v = undef), (fun v : Value => v = undef), (fun v : Value => v = undef), (fun v : Value => v = undef), (fun v : Value => v = undef), (fun v : Value => v = undef), (fun v : Value => v = undef), (fun v : Value => v = undef), (fun v : Value => v = undef), (fun v : Value => v = undef), (fun v : Value => v = undef), (fun v : Value => v = undef), (fun v : Value => v = undef), (fun v : Value => v = undef), (fun v : Value => v = undef), (fun v : Value => v = undef), (fun v : Value => v = undef), (fun v : Value => v = undef), (fun v : Value => v = .bool true), (fun v : Value => v = .bool true), (fun v : Value => v = .bool true), (fun v : Value => v = .bool true), (fun v : Value => v = .bool true)] : List (Value → Prop)).getD i (fun _ => True) v) (fun V => Below w9.heap.size w9 V) (by kernel_rfl) rfl (fun i j hi hj => (by decide : ∀ i, i < 31 → ∀ j, j < 31 → (fun i => ([85, 86, 87, 88, 89, 90, 91, 92, 93, 94, 95, 96, 97, 98, 99, 100, 101, 102, 103, 104, 105, 106, 107, 108, 109, 110, 111, 112, 113, 114, 4] : List Nat).getD i 0) i = (fun i => ([85, 86, 87, 88, 89, 90, 91, 92, 93, 94, 95, 96, 97, 98, 99, 100, 101, 102, 103, 104, 105, 106, 107, 108, 109, 110, 111, 112, 113, 114, 4] : List Nat).getD i 0) j → i = j) i hi j hj) (by decide) rfl ?_ ?_ ⟨rfl, rfl, rfl, Nat.le_refl _, fun _ _ => rfl⟩ ?_
          · intro i o ho
            match i, ho with
            | 0, ho => obtain rfl := Option.some.inj ho; exact ⟨rfl, by decide, by decide⟩
            | 1, ho => obtain rfl := Option.some.inj ho; exact ⟨rfl, by decide, by decide⟩
            | 2, ho => obtain rfl := Option.some.inj ho; exact ⟨rfl, by decide, by decide⟩
            | 3, ho => obtain rfl := Option.some.inj ho; exact ⟨rfl, by decide, by decide⟩
            | 4, ho => obtain rfl := Option.some.inj ho; exact ⟨rfl, by decide, by decide⟩
            | 5, ho => obtain rfl := Option.some.inj ho; exact ⟨rfl, by decide, by decide⟩
            | 6, ho => obtain rfl := Option.some.inj ho; exact ⟨rfl, by decide, by decide⟩
            | 7, ho => obtain rfl := Option.some.inj ho; exact ⟨rfl, by decide, by decide⟩
            | 8, ho => obtain rfl := Option.some.inj ho; exact ⟨rfl, by decide, by decide⟩
            | 9, ho => obtain rfl := Option.some.inj ho; exact ⟨rfl, by decide, by decide⟩
            | 10, ho => obtain rfl := Option.some.inj ho; exact ⟨rfl, by decide, by decide⟩
            | 11, ho => obtain rfl := Option.some.inj ho; exact ⟨rfl, by decide, by decide⟩
            | 12, ho => obtain rfl := Option.some.inj ho; exact ⟨rfl, by decide, by decide⟩
            | 13, ho => obtain rfl := Option.some.inj ho; exact ⟨rfl, by decide, by decide⟩
            | 14, ho => obtain rfl := Option.some.inj ho; exact ⟨rfl, by decide, by decide⟩
            | 15, ho => obtain rfl := Option.some.inj ho; exact ⟨rfl, by decide, by decide⟩
            | 16, ho => obtain rfl := Option.some.inj ho; exact ⟨rfl, by decide, by decide⟩
            | 17, ho => obtain rfl := Option.some.inj ho; exact ⟨rfl, by decide, by decide⟩
            | 18, ho => obtain rfl := Option.some.inj ho; exact ⟨rfl, by decide, by decide⟩
            | 19, ho => obtain rfl := Option.some.inj ho; exact ⟨rfl, by decide, by decide⟩
            | 20, ho => obtain rfl := Option.some.inj ho; exact ⟨rfl, by decide, by decide⟩
            | 21, ho => obtain rfl := Option.some.inj ho; exact ⟨rfl, by decide, by decide⟩
            | 22, ho => obtain rfl := Option.some.inj ho; exact ⟨rfl, by decide, by decide⟩
            | 23, ho => obtain rfl := Option.some.inj ho; exact ⟨rfl, by decide, by decide⟩
            | 24, ho => obtain rfl := Option.some.inj ho; exact ⟨rfl, by decide, by decide⟩
            | 25, ho => obtain rfl := Option.some.inj ho; exact ⟨rfl, by decide, by decide⟩
            | 26, ho => obtain rfl := Option.some.inj ho; exact ⟨rfl, by decide, by decide⟩
            | 27, ho => obtain rfl := Option.some.inj ho; exact ⟨rfl, by decide, by decide⟩
            | 28, ho => obtain rfl := Option.some.inj ho; exact ⟨rfl, by decide, by decide⟩
            | 29, ho => obtain rfl := Option.some.inj ho; exact ⟨rfl, by decide, by decide⟩
            | 30, ho => obtain rfl := Option.some.inj ho; exact ⟨rfl, by decide, by decide⟩
            | k + 31, ho => simp at ho
          · intro i o ho a' V hS hoth hd
            have oS0 : a'.eval (.tmp 0) = .slice (some ⟨b1, o1, none⟩) n c := hoth 0 (by decide)
            have oS1 : a'.eval (.tmp 1) = .int .i64 (i0 : Int) := hoth 1 (by decide)
            have oS5 : a'.eval (.tmp 5) = .int .i64 rv := hoth 5 (by decide)
            have oS6 : a'.eval (.tmp 6) = .int .i64 re := hoth 6 (by decide)
            have oS8 : a'.eval (.tmp 8) = .bool false := hoth 8 (by decide)
            obtain ⟨ρ, hρ⟩ : ∃ ρ, ρ = a'.eval := ⟨_, rfl⟩
            have hc : ∀ v, ρ (.const v) = v := fun v => by rw [hρ]; rfl
            have hfn : ∀ f, ρ (.func f) = .func (.func f) #[] #[] := fun f => by rw [hρ]; rfl
            simp only [← hρ] at hd ⊢
            rw [← hρ] at oS0
            rw [← hρ] at oS1
            rw [← hρ] at oS5
            rw [← hρ] at oS6
            rw [← hρ] at oS8
            clear hρ hoth
            match i, ho with
            | 0, ho =>
              obtain rfl := Option.some.inj ho
              clear hd
              exact Or.inl ⟨rfl, Gives.val (v := .bool false) (w' := V) (by simp only [execOp]; go_simp) ⟨rfl, hS⟩⟩
            | 1, ho =>
              obtain rfl := Option.some.inj ho
              have e0 : ρ (.tmp 85) = .bool false := hd 0 (by decide)
              clear hd
              exact Or.inl ⟨rfl, Gives.val (v := .bool true) (w' := V) (by simp only [execOp]; go_simp) ⟨rfl, hS⟩⟩
            | 2, ho =>
              obtain rfl := Option.some.inj ho
              have e1 : ρ (.tmp 86) = .bool true := hd 1 (by decide)
              clear hd
              exact Or.inl ⟨rfl, Gives.val (v := .bool true) (w' := V) (by simp only [execOp]; go_simp) ⟨rfl, hS⟩⟩
            | 3, ho =>
              obtain rfl := Option.some.inj ho
              have e2 : ρ (.tmp 87) = .bool true := hd 2 (by decide)
              clear hd
              exact Or.inr ⟨2, false, true, rfl, by decide, e2, fun h => absurd h (by decide), fun _ => rfl⟩
            | 4, ho =>
              obtain rfl := Option.some.inj ho
              have e2 : ρ (.tmp 87) = .bool true := hd 2 (by decide)
              have e3 : ρ (.tmp 88) = undef := hd 3 (by decide)
              clear hd
              exact Or.inr ⟨2, false, true, rfl, by decide, e2, fun h => absurd h (by decide), fun _ => rfl⟩
            | 5, ho =>
              obtain rfl := Option.some.inj ho
              have e2 : ρ (.tmp 87) = .bool true := hd 2 (by decide)
              have e4 : ρ (.tmp 89) = undef := hd 4 (by decide)
              clear hd
              exact Or.inl ⟨rfl, Gives.val (v := .bool true) (w' := V) (by simp only [execOp]; go_simp) ⟨rfl, hS⟩⟩
            | 6, ho =>
              obtain rfl := Option.some.inj ho
              have e5 : ρ (.tmp 90) = .bool true := hd 5 (by decide)
              clear hd
              exact Or.inl ⟨rfl, Gives.val (v := .bool true) (w' := V) (by simp only [execOp]; go_simp) ⟨rfl, hS⟩⟩
            | 7, ho =>
              obtain rfl := Option.some.inj ho
              have e6 : ρ (.tmp 91) = .bool true := hd 6 (by decide)
              clear hd
              exact Or.inr ⟨6, false, true, rfl, by decide, e6, fun h => absurd h (by decide), fun _ => rfl⟩
            | 8, ho =>
              obtain rfl := Option.some.inj ho
              have e6 : ρ (.tmp 91) = .bool true := hd 6 (by decide)
              clear hd
              exact Or.inr ⟨6, false, true, rfl, by decide, e6, fun h => absurd h (by decide), fun _ => rfl⟩
            | 9, ho =>
              obtain rfl := Option.some.inj ho
              have e6 : ρ (.tmp 91) = .bool true := hd 6 (by decide)
              clear hd
              exact Or.inr ⟨6, false, true, rfl, by decide, e6, fun h => absurd h (by decide), fun _ => rfl⟩
            | 10, ho =>
              obtain rfl := Option.some.inj ho
              have e6 : ρ (.tmp 91) = .bool true := hd 6 (by decide)
              have e8 : ρ (.tmp 93) = undef := hd 8 (by decide)
              have e9 : ρ (.tmp 94) = undef := hd 9 (by decide)
              clear hd
              exact Or.inr ⟨6, false, true, rfl, by decide, e6, fun h => absurd h (by decide), fun _ => rfl⟩
            | 11, ho =>
              obtain rfl := Option.some.inj ho
              have e6 : ρ (.tmp 91) = .bool true := hd 6 (by decide)
              have e10 : ρ (.tmp 95) = undef := hd 10 (by decide)
              clear hd
              exact Or.inr ⟨6, false, true, rfl, by decide, e6, fun h => absurd h (by decide), fun _ => rfl⟩
            | 12, ho =>
              obtain rfl := Option.some.inj ho
              have e6 : ρ (.tmp 91) = .bool true := hd 6 (by decide)
              have e11 : ρ (.tmp 96) = undef := hd 11 (by decide)
              clear hd
              exact Or.inr ⟨6, false, true, rfl, by decide, e6, fun h => absurd h (by decide), fun _ => rfl⟩
            | 13, ho =>
              obtain rfl := Option.some.inj ho
              have e6 : ρ (.tmp 91) = .bool true := hd 6 (by decide)
              clear hd
              exact Or.inr ⟨6, false, true, rfl, by decide, e6, fun h => absurd h (by decide), fun _ => rfl⟩
            | 14, ho =>
              obtain rfl := Option.some.inj ho
              have e6 : ρ (.tmp 91) = .bool true := hd 6 (by decide)
              clear hd
              exact Or.inr ⟨6, false, true, rfl, by decide, e6, fun h => absurd h (by decide), fun _ => rfl⟩
            | 15, ho =>
              obtain rfl := Option.some.inj ho
              have e6 : ρ (.tmp 91) = .bool true := hd 6 (by decide)
              have e13 : ρ (.tmp 98) = undef := hd 13 (by decide)
              have e14 : ρ (.tmp 99) = undef := hd 14 (by decide)
              clear hd
              exact Or.inr ⟨6, false, true, rfl, by decide, e6, fun h => absurd h (by decide), fun _ => rfl⟩
            | 16, ho =>
              obtain rfl := Option.some.inj ho
              have e6 : ρ (.tmp 91) = .bool true := hd 6 (by decide)
              have e15 : ρ (.tmp 100) = undef := hd 15 (by decide)
              clear hd
              exact Or.inr ⟨6, false, true, rfl, by decide, e6, fun h => absurd h (by decide), fun _ => rfl⟩
            | 17, ho =>
              obtain rfl := Option.some.inj ho
              have e6 : ρ (.tmp 91) = .bool true := hd 6 (by decide)
              have e16 : ρ (.tmp 101) = undef := hd 16 (by decide)
              clear hd
              exact Or.inr ⟨6, false, true, rfl, by decide, e6, fun h => absurd h (by decide), fun _ => rfl⟩
            | 18, ho =>
              obtain rfl := Option.some.inj ho
              have e6 : ρ (.tmp 91) = .bool true := hd 6 (by decide)
              have e12 : ρ (.tmp 97) = undef := hd 12 (by decide)
              have e17 : ρ (.tmp 102) = undef := hd 17 (by decide)
              clear hd
              exact Or.inr ⟨6, false, true, rfl, by decide, e6, fun h => absurd h (by decide), fun _ => rfl⟩
            | 19, ho =>
              obtain rfl := Option.some.inj ho
              have e6 : ρ (.tmp 91) = .bool true := hd 6 (by decide)
              clear hd
              exact Or.inr ⟨6, false, true, rfl, by decide, e6, fun h => absurd h (by decide), fun _ => rfl⟩
            | 20, ho =>
              obtain rfl := Option.some.inj ho
              have e6 : ρ (.tmp 91) = .bool true := hd 6 (by decide)
              clear hd
              exact Or.inr ⟨6, false, true, rfl, by decide, e6, fun h => absurd h (by decide), fun _ => rfl⟩
            | 21, ho =>
              obtain rfl := Option.some.inj ho
              have e6 : ρ (.tmp 91) = .bool true := hd 6 (by decide)
              have e19 : ρ (.tmp 104) = undef := hd 19 (by decide)
              have e20 : ρ (.tmp 105) = undef := hd 20 (by decide)
              clear hd
              exact Or.inr ⟨6, false, true, rfl, by decide, e6, fun h => absurd h (by decide), fun _ => rfl⟩
            | 22, ho =>
              obtain rfl := Option.some.inj ho
              have e6 : ρ (.tmp 91) = .bool true := hd 6 (by decide)
              have e21 : ρ (.tmp 106) = undef := hd 21 (by decide)
              clear hd
              exact Or.inr ⟨6, false, true, rfl, by decide, e6, fun h => absurd h (by decide), fun _ => rfl⟩
            | 23, ho =>
              obtain rfl := Option.some.inj ho
              have e6 : ρ (.tmp 91) = .bool true := hd 6 (by decide)
              have e22 : ρ (.tmp 107) = undef := hd 22 (by decide)
              clear hd
              exact Or.inr ⟨6, false, true, rfl, by decide, e6, fun h => absurd h (by decide), fun _ => rfl⟩
            | 24, ho =>
              obtain rfl := Option.some.inj ho
              have e6 : ρ (.tmp 91) = .bool true := hd 6 (by decide)
              have e18 : ρ (.tmp 103) = undef := hd 18 (by decide)
              have e23 : ρ (.tmp 108) = undef := hd 23 (by decide)
              clear hd
              exact Or.inr ⟨6, false, true, rfl, by decide, e6, fun h => absurd h (by decide), fun _ => rfl⟩
            | 25, ho =>
              obtain rfl := Option.some.inj ho
              have e6 : ρ (.tmp 91) = .bool true := hd 6 (by decide)
              have e7 : ρ (.tmp 92) = undef := hd 7 (by decide)
              have e24 : ρ (.tmp 109) = undef := hd 24 (by decide)
              clear hd
              exact Or.inr ⟨6, false, true, rfl, by decide, e6, fun h => absurd h (by decide), fun _ => rfl⟩
            | 26, ho =>
              obtain rfl := Option.some.inj ho
              have e6 : ρ (.tmp 91) = .bool true := hd 6 (by decide)
              have e25 : ρ (.tmp 110) = undef := hd 25 (by decide)
              clear hd
              exact Or.inl ⟨rfl, Gives.val (v := .bool true) (w' := V) (by simp only [execOp]; go_simp) ⟨rfl, hS⟩⟩
            | 27, ho =>
              obtain rfl := Option.some.inj ho
              have e26 : ρ (.tmp 111) = .bool true := hd 26 (by decide)
              clear hd
              exact Or.inl ⟨rfl, Gives.val (v := .bool true) (w' := V) (by simp only [execOp]; go_simp) ⟨rfl, hS⟩⟩
            | 28, ho =>
              obtain rfl := Option.some.inj ho
              have e27 : ρ (.tmp 112) = .bool true := hd 27 (by decide)
              clear hd
              refine Or.inr ⟨27, true, true, rfl, by decide, e27, fun _ => Gives.enter (f := 10) (args := #[]) (by simp only [execOp]; go_simp) ((known_any H1.out _).mono ?_), fun h => absurd rfl h⟩
              rintro e w8 ⟨rfl, b8⟩
              exact ⟨_, rfl, rfl, keep_below hS b8⟩
            | 29, ho =>
              obtain rfl := Option.some.inj ho
              have e27 : ρ (.tmp 112) = .bool true := hd 27 (by decide)
              have e28 : ρ (.tmp 113) = .bool true := hd 28 (by decide)
              clear hd
              exact Or.inl ⟨rfl, Gives.val (v := .bool true) (w' := V) (by simp only [execOp]; go_simp) ⟨rfl, hS⟩⟩
            | 30, ho =>
              obtain rfl := Option.some.inj ho
              have e29 : ρ (.tmp 114) = .bool true := hd 29 (by decide)
              clear hd
              exact Or.inl ⟨rfl, Gives.val (v := .bool true) (w' := V) (by simp only [execOp]; go_simp) ⟨rfl, hS⟩⟩
            | k + 31, ho => simp at ho
          · intro a' V hsz hdef hoth hok hS
            have hcov : ∀ i, i < 31 → 85 ≤ (fun i => ([85, 86, 87, 88, 89, 90, 91, 92, 93, 94, 95, 96, 97, 98, 99, 100, 101, 102, 103, 104, 105, 106, 107, 108, 109, 110, 111, 112, 113, 114, 4] : List Nat).getD i 0) i ∧ (fun i => ([85, 86, 87, 88, 89, 90, 91, 92, 93, 94, 95, 96, 97, 98, 99, 100, 101, 102, 103, 104, 105, 106, 107, 108, 109, 110, 111, 112, 113, 114, 4] : List Nat).getD i 0) i < 115 ∨ (fun i => ([85, 86, 87, 88, 89, 90, 91, 92, 93, 94, 95, 96, 97, 98, 99, 100, 101, 102, 103, 104, 105, 106, 107, 108, 109, 110, 111, 112, 113, 114, 4] : List Nat).getD i 0) i = 4 := by decide
            have hv4 : a'.eval (.tmp 4) = .bool true := hok 30 (by decide)
            clear hok
            obtain ⟨us, hu1, rfl⟩ := act_mix1 85 30 4 (.bool true) rfl hsz hdef (by simp) (by simp) hv4 (by decide) (fun k hkd hk => hoth k (fun i hi => by have := hcov i hi; dsimp only at this ⊢; omega))
            match us, hu1 with
            | u85 :: u86 :: u87 :: u88 :: u89 :: u90 :: u91 :: u92 :: u93 :: u94 :: u95 :: u96 :: u97 :: u98 :: u99 :: u100 :: u101 :: u102 :: u103 :: u104 :: u105 :: u106 :: u107 :: u108 :: u109 :: u110 :: u111 :: u112 :: u113 :: u114 :: [], _ =>
              go_wp2
              go_ret
              exact ⟨rfl, keep_below HB9.out hS⟩
    · have hJ : J = (k : Int) := by have := HJ.out; omega
      subst hJ
      clear HJ
      obtain ⟨b2, o2, y, e2, hB2, hy, y0, y1, y2, y3, y4, y5⟩ := HR.out.item HBL.out (by omega : k < n)
      cases e2
      have x5 := keep_cell HBL.out HF.out.2.2.2.2.2
      have j1 : (0 : Int) ≤ (k : Int) := by omega
      have j2 : (k : Int) < (n : Int) := by omega
      have HBK := Lib.hid (back_at hy x.P i0)
      have hAl : A.length ≤ 20 := by have h1 := congrArg List.length HA.out; rw [List.length_append] at h1; have h2 := back_len L x.P i0 L.length; have := HL.out; omega
      clear hy
      by_cases hki : k = i0
      · subst hki
        have HA2 : Hid (A ++ back L x.P k k = back L x.P k L.length) := by have := HA.out; rw [HBK.out, if_neg (by simp)] at this; exact this
        go_wp2
        go_quiet (fail)
        go_wp2
        go_roundw
        case rel => exact ⟨k, (k : Int) - 1, A, by omega, by go_num, (by show _ = _; omega), rfl, HA2, own_keep HO.out ⟨rfl, rfl, rfl, Nat.le_refl _, fun _ _ => rfl⟩, HBL.out.trans ⟨rfl, rfl, rfl, Nat.le_refl _, fun _ _ => rfl⟩⟩
        case measure => first | (simp [intOf]; done) | (simp [intOf]; omega)
      have d3 : ((k : Int) == (i0 : Int)) = false := beq_eq_false_iff_ne.2 (by omega)
      have d3b : ((k : Int) != (i0 : Int)) = true := bne_iff_ne.2 (by omega)
      have d3c : decide ((k : Int) ≠ (i0 : Int)) = true := decide_eq_true (by omega)
      have d3d : (!((k : Int) == (i0 : Int))) = true := by rw [d3]; rfl
      by_cases hyx : x.P ≤ y.P
      · have d4 : decide (x.P ≤ y.P) = true := decide_eq_true hyx
        have HA2 : Hid ((A ++ [y]) ++ back L x.P i0 k = back L x.P i0 L.length) := by have := HA.out; rw [HBK.out, if_pos ⟨hki, hyx⟩] at this; rw [List.append_assoc]; exact this
        go_wp2
        go_quiet (fail)
        have HO2 := Lib.hid (own_keep HO.out (⟨rfl, rfl, rfl, Nat.le_refl _, fun _ _ => rfl⟩ : Below wr.heap.size wr (wr.drewN nq)))
        have HB2 : Hid (Below w.heap.size w (wr.drewN nq)) := HBL.out.trans ⟨rfl, rfl, rfl, Nat.le_refl _, fun _ _ => rfl⟩
        have hbs := HBL.out.size
        go_wp2_with (at_builtin; refine wpList_append_own _ rfl _ _ 22 rfl w.heap.size 41 ri (.agg #[.int .i64 0, .int .i64 0, .int .i64 0, .int .i64 0, .int .i64 0, .int .i64 0]) 6 48 Try.underlying22 hi0' hz0 hz1 hz2 rfl (by decide) _ _ _ rfl (HO2.out.alloc _) ⟨wr.heap.size, 0, none⟩ 1 1 [.int .i64 y.C, .int .i64 y.B, .int .i64 y.T, .int .i64 y.D, .int .i64 y.J, .int .i64 y.P] rfl rfl ?c1 ?c2 ?c3 ?c4 ?c5 ?_)
        case c1 =>
          intro q t hj
          rw [add_plain', Nat.zero_add]
          exact cells_new (wr.drewN nq) #[.int .i64 y.C, .int .i64 y.B, .int .i64 y.T, .int .i64 y.D, .int .i64 y.J, .int .i64 y.P] 41 q t hj
        case c2 => exact rtC_cell y
        case c3 => unfold maxLen; omega
        case c4 => omega
        case c5 => simp; omega
        · intro v' w5 hown' hgrow _
          have hb5 : Below w.heap.size w w5 := (HB2.out.alloc HB2.out.size _).grown hgrow (by simp; omega) (fun g hg => (HO2.out.lt g hg).1)
          have HO5 : Hid (w5.ownsRow w.heap.size 41 6 v' ((A ++ [y]).length + 1) (rsC (x :: (A ++ [y])))) := by
            show World.ownsRow _ _ _ _ _ _ _
            rw [show x :: (A ++ [y]) = (x :: A) ++ [y] from rfl, rsC_snoc, List.length_append]
            exact hown'
          have HE : Hid ((A ++ [y]).isEmpty = false) := by show _ = _; cases A <;> rfl
          clear hown' hgrow
          go_wp2
          go_roundw
          case rel => exact ⟨k, (k : Int) - 1, A ++ [y], by omega, by go_num, (by show _ = _; omega), by rw [HE.out], HA2, HO5, hb5⟩
          case measure => first | (simp [intOf]; done) | (simp [intOf]; omega)
      · have d4 : decide (x.P ≤ y.P) = false := decide_eq_false hyx
        have HA2 : Hid (A ++ back L x.P i0 k = back L x.P i0 L.length) := by have := HA.out; rw [HBK.out, if_neg (by simp [hyx])] at this; exact this
        go_wp2
        go_quiet (fail)
        go_wp2
        go_roundw
        case rel => exact ⟨k, (k : Int) - 1, A, by omega, by go_num, (by show _ = _; omega), rfl, HA2, own_keep HO.out ⟨rfl, rfl, rfl, Nat.le_refl _, fun _ _ => rfl⟩, HBL.out.trans ⟨rfl, rfl, rfl, Nat.le_refl _, fun _ _ => rfl⟩⟩
        case measure => first | (simp [intOf]; done) | (simp [intOf]; omega)
end Go.Proofs.Ytiibbeigkopkeaa
