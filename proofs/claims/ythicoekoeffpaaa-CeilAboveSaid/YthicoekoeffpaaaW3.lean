/- What is proved here: the walk of the law CeilAbove. Conditions: the row is not too long. -/
import Derived.Test.YthicoekoeffpaaaKw
import Derived.Test.YthicoekoeffpaaaRc
import Derived.Test.YthicoekoeffpaaaR3
namespace Go.Proofs.Ythicoekoeffpaaa
open Go.ChangeShapes Go.WideShapes Go.RowKit

theorem acV_hit {p h : Int} {c : List Int} {k : Nat} (h1 : k < c.length) (h2 : k < 64) (h3 : bitOf h k = true) : c.getD k 0 ≤ acV p h c := by
  unfold acV gre
  exact maxF_ge p (grL_mem.2 ⟨k, by omega, h3, rfl⟩)
theorem bit_pow (k : Nat) : bitOf (2 ^ k) k = true := by
  unfold bitOf
  rw [Int.ediv_self (Int.ne_of_gt (Int.pow_pos (by decide)))]; rfl
theorem above_fact {B : Int} {L : List UsP} (O : OkL B L) {u v : UsP} {b : Nat} (hu : u ∈ L) (hb : (b : Int) ∈ u.bl) (hv : v ∈ L) (hbv : (b : Int) ∈ v.bl) : v.pr ≤ acV u.pr (2 ^ b) (ceilL B L) := by
  have h1 := (O.all u hu).bl _ hb
  have h2 := O.b8
  have e : (ceilL B L).getD b 0 = ceB L (b : Int) := ceilL_get (by omega)
  have := acV_hit (p := u.pr) (c := ceilL B L) (k := b) (by rw [ceilL_len]; omega) (by omega) (bit_pow b)
  rw [e] at this
  exact Int.le_trans (ceB_ge hv hbv) this
set_option maxHeartbeats 4000000 in
set_option maxRecDepth 100000 in
theorem above_walk (B : Int) (a : Option Addr) (n c : Nat) (L : List UsP) (w : World) (hr : RowU w a n L) (hn : n ≤ 140737488355328) :
    Calls Try.prog 5 #[.int .i64 B, .slice a n c] w fun e w' => e = .returned (.bool true) ∧ Below w.heap.size w w' := by
  obtain ⟨lt, hlt⟩ : ∃ r, litE L = r := ⟨_, rfl⟩
  have CL := Lib.hid (light_any a n c L w hr hn lt hlt)
  have CK := Lib.hid (fun W => known_any W)
  cases lt
  · go_enter Try.func5, Try.ntmps5
    go_wp2_with (first
      | (go_at_call 10; refine CL.out.mono ?_; rintro e w1 ⟨rfl, hw1⟩; have hw1 := hw1.symm; subst hw1)
      | (go_at_call 11; refine (CK.out _).mono ?_; rintro e w2 ⟨rfl, hb2⟩))
    go_ret
    exact ⟨rfl, hb2⟩
  obtain ⟨r, hq⟩ : ∃ r, okL B L = r := ⟨_, rfl⟩
  have CR := Lib.hid (right_any B a n c L w hr hn r hq)
  cases r
  · go_enter Try.func5, Try.ntmps5
    go_wp2_with (first
      | (go_at_call 10; refine CL.out.mono ?_; rintro e w1 ⟨rfl, hw1⟩; have hw1 := hw1.symm; subst hw1)
      | (go_at_call 12; refine CR.out.mono ?_; rintro e w2 ⟨rfl, hb2⟩)
      | (go_at_call 11; refine (CK.out _).mono ?_; rintro e w3 ⟨rfl, hb3⟩))
    go_ret
    exact ⟨rfl, keep_below hb2 hb3⟩
  have O := Lib.hid (okL_of hq)
  have LT := Lib.hid (lit_of hlt)
  have CC := Lib.hid (fun W (hb : Below w.heap.size w W) => ceilings_any B a n c L W (hr.below hb) hn _ (cL_yes hq))
  unfold GotN at CC
  clear hq hlt
  go_enter Try.func5, Try.ntmps5
  go_wp2_with (first
    | (go_at_call 10; refine CL.out.mono ?_; rintro e w1 ⟨rfl, hw1⟩; have hw1 := hw1.symm; subst hw1)
    | (go_at_call 12; refine CR.out.mono ?_; rintro e w2 ⟨rfl, hb2⟩)
    | (go_at_call 16; fail))
  refine (CC.out _ hb2).mono ?_
  rintro e w3 ⟨ca, cn, cc, rfl, hrc, hcc, hb3, -⟩
  have hcn : (cn : Int) = B := by rw [hrc.1, ceilL_len]; have := O.out.b0; omega
  subst hcn
  have b3 := Lib.hid (keep_below hb2 hb3)
  have HC := Lib.hid hrc
  have hcn2 : (cn : Int) ≤ 8 := O.out.b8
  clear hb2 hb3 hrc CC CR CL
  go_wp2
  go_loopw [6] (fun x wr => ∃ ii : Nat, ii ≤ n ∧ x = .int .i64 ii ∧ Hid (Below w3.heap.size w3 wr)) (fun x _ => n - (intOf x).toNat)
  case atStart => exact ⟨0, by omega, rfl, Below.refl _ _⟩
  case round =>
    obtain ⟨ii, hi, rfl, HB1⟩ := hrel
    by_cases hlt : ii < n
    · obtain ⟨b1, o1, u, xa, xn, xc, la, ln, lc, rfl, hB1, hx, ⟨hX, hXm⟩, -, f0, f1, -⟩ := hr.item (Below.refl _ _) hlt
      have hU := Lib.hid (List.mem_of_getElem? hx)
      have HX := Lib.hid hX
      have F0 := Lib.hid f0
      have F1 := Lib.hid f1
      have i1 : (0 : Int) ≤ (ii : Int) := by omega
      have i2 : (ii : Int) < (n : Int) := by omega
      clear hx hX f0 f1
      go_wp2
      go_loopw [7] (fun x wr => ∃ k : Nat, k ≤ xn ∧ x = .int .i64 k ∧ Hid (Below w3.heap.size w3 wr)) (fun x _ => xn - (intOf x).toNat)
      case atStart => exact ⟨0, by omega, rfl, HB1⟩
      case round =>
        obtain ⟨k, hk, rfl, HB2⟩ := hrel
        have HWr := Lib.hid (keep_below b3.out HB2.out)
        have h0 := keep_cell HWr.out F0.out
        have h1 := keep_cell HWr.out F1.out
        by_cases hlt2 : k < xn
        · obtain ⟨b2, o2, z, rfl, hB2, hy, hc1⟩ := (HX.out.below HWr.out).item hlt2
          have hzm := List.mem_of_getElem? hy
          obtain ⟨z0, z8⟩ := (O.out.all u hU.out).bl z hzm
          obtain ⟨b, rfl⟩ := Int.eq_ofNat_of_zero_le z0
          have hb8 : b < 8 := by omega
          have HZ := Lib.hid hzm
          have k1 : (0 : Int) ≤ (k : Int) := by omega
          have k2 : (k : Int) < (xn : Int) := by omega
          obtain ⟨N, hN⟩ : ∃ N, acV u.pr (2 ^ b) (ceilL cn L) = N := ⟨_, rfl⟩
          have HN : Hid (∀ v, v ∈ L → (b : Int) ∈ v.bl → v.pr ≤ N) := fun v hv hbv => by rw [← hN]; exact above_fact O.out hU.out HZ.out hv hbv
          have CA := Lib.hid (fun W (hc : Row W ca cn (ceilL cn L)) => active_any u.pr (2 ^ b) ca cn cc (ceilL cn L) W hc (by omega) hcc N hN)
          have hpw : IntKind.i64.wrap (2 ^ b) = 2 ^ b := by
            rcases (show b = 0 ∨ b = 1 ∨ b = 2 ∨ b = 3 ∨ b = 4 ∨ b = 5 ∨ b = 6 ∨ b = 7 by omega) with rfl | rfl | rfl | rfl | rfl | rfl | rfl | rfl <;> decide
          clear hy hzm z0 z8 hN HB1
          go_wp2
          clear h1 hc1
          generalize wr = W2 at *
          refine region_ok 98 10 (fun i => ([53, 54, 55, 56, 57, 58, 59, 60, 61, 9] : List Nat).getD i 0) (fun i => ([[], [], [0, 1], [2], [3], [], [5], [], [4, 6, 7], [8]] : List (List Nat)).getD i []) (fun i v => ([(fun v : Value => v = .slice (some ⟨b1, o1, none⟩) n c), (fun v : Value => v = .int .i64 (ii : Int)), (fun v : Value => v = .pointer (some ⟨b1, o1 + ii * 3, none⟩)), (fun v : Value => v = .pointer (some ⟨b1, o1 + ii * 3, none⟩)), (fun v : Value => v = .int .i64 u.pr), (fun v : Value => v = .int .i64 (b : Int)), (fun v : Value => v = .int .i64 (2 ^ b : Int)), (fun v : Value => v = .slice ca cn cc), (fun v : Value => v = .int .i64 N), (fun v : Value => v = .int .i64 N)] : List (Value → Prop)).getD i (fun _ => True) v) (fun V => Below W2.heap.size W2 V) (by kernel_rfl) rfl (fun i j hi hj => (by decide : ∀ i, i < 10 → ∀ j, j < 10 → (fun i => ([53, 54, 55, 56, 57, 58, 59, 60, 61, 9] : List Nat).getD i 0) i = (fun i => ([53, 54, 55, 56, 57, 58, 59, 60, 61, 9] : List Nat).getD i 0) j → i = j) i hi j hj) (by decide) rfl ?_ ?_ ⟨rfl, rfl, rfl, Nat.le_refl _, fun _ _ => rfl⟩ ?_
          · intro i o ho
            match i, ho with
            | 0, ho => obtain rfl := Option.some.inj ho; exact ⟨rfl, by decide, by decide⟩
            | 1, ho => obtain rfl := Option.some.inj ho; exact ⟨rfl, by decide, by decide⟩
            | 2, ho => obtain rfl := Option.some.inj ho; exact ⟨rfl, by decide, by decide⟩
            | 3, ho => obtain rfl := Option.some.inj ho; exact ⟨rfl, by decide, by decide⟩
            | 4, ho => obtain rfl := Option.some.inj ho; exact ⟨rfl, by decide, by decide⟩
            | 5, ho => obtain rfl := Option.some.inj ho; exact ⟨rfl, by decide, by decide⟩
            | 6, ho => obtain rfl := Option.some.inj ho; exact ⟨rfl, by decide, by decide⟩
            | 7, ho => obtain rfl := Option.some.inj ho; exact ⟨rfl, by decide, by decide⟩
            | 8, ho => obtain rfl := Option.some.inj ho; exact ⟨rfl, by decide, by decide⟩
            | 9, ho => obtain rfl := Option.some.inj ho; exact ⟨rfl, by decide, by decide⟩
            | k + 10, ho => simp at ho
          · intro i o ho a' V hS hoth hd
            have oS1 : a'.eval (.tmp 1) = .slice (some ⟨b1, o1, none⟩) n c := hoth 1 (by decide)
            have oS5 : a'.eval (.tmp 5) = .slice ca cn cc := hoth 5 (by decide)
            have oS6 : a'.eval (.tmp 6) = .int .i64 (ii : Int) := hoth 6 (by decide)
            have oS8 : a'.eval (.tmp 8) = .int .i64 (b : Int) := hoth 8 (by decide)
            obtain ⟨ρ, hρ⟩ : ∃ ρ, ρ = a'.eval := ⟨_, rfl⟩
            have hc : ∀ v, ρ (.const v) = v := fun v => by rw [hρ]; rfl
            have hfn : ∀ f, ρ (.func f) = .func (.func f) #[] #[] := fun f => by rw [hρ]; rfl
            simp only [← hρ] at hd ⊢
            rw [← hρ] at oS1
            rw [← hρ] at oS5
            rw [← hρ] at oS6
            rw [← hρ] at oS8
            clear hρ hoth
            match i, ho with
            | 0, ho =>
              obtain rfl := Option.some.inj ho
              clear hd
              exact Or.inl ⟨rfl, Gives.val (v := .slice (some ⟨b1, o1, none⟩) n c) (w' := V) (by simp only [execOp]; go_simp) ⟨rfl, hS⟩⟩
            | 1, ho =>
              obtain rfl := Option.some.inj ho
              clear hd
              exact Or.inl ⟨rfl, Gives.val (v := .int .i64 (ii : Int)) (w' := V) (by simp only [execOp]; go_simp) ⟨rfl, hS⟩⟩
            | 2, ho =>
              obtain rfl := Option.some.inj ho
              have e0 : ρ (.tmp 53) = .slice (some ⟨b1, o1, none⟩) n c := hd 0 (by decide)
              have e1 : ρ (.tmp 54) = .int .i64 (ii : Int) := hd 1 (by decide)
              clear hd
              exact Or.inl ⟨rfl, Gives.val (v := .pointer (some ⟨b1, o1 + ii * 3, none⟩)) (w' := V) (by simp only [execOp]; go_simp) ⟨rfl, hS⟩⟩
            | 3, ho =>
              obtain rfl := Option.some.inj ho
              have e2 : ρ (.tmp 55) = .pointer (some ⟨b1, o1 + ii * 3, none⟩) := hd 2 (by decide)
              clear hd
              exact Or.inl ⟨rfl, Gives.val (v := .pointer (some ⟨b1, o1 + ii * 3, none⟩)) (w' := V) (by simp only [execOp]; go_simp) ⟨rfl, hS⟩⟩
            | 4, ho =>
              obtain rfl := Option.some.inj ho
              have e3 : ρ (.tmp 56) = .pointer (some ⟨b1, o1 + ii * 3, none⟩) := hd 3 (by decide)
              clear hd
              have c0 := keep_cell hS h0
              exact Or.inl ⟨rfl, Gives.val (v := .int .i64 u.pr) (w' := V) (by simp only [execOp]; go_simp) ⟨rfl, hS⟩⟩
            | 5, ho =>
              obtain rfl := Option.some.inj ho
              clear hd
              exact Or.inl ⟨rfl, Gives.val (v := .int .i64 (b : Int)) (w' := V) (by simp only [execOp]; go_simp) ⟨rfl, hS⟩⟩
            | 6, ho =>
              obtain rfl := Option.some.inj ho
              have e5 : ρ (.tmp 58) = .int .i64 (b : Int) := hd 5 (by decide)
              clear hd
              exact Or.inl ⟨rfl, Gives.val (v := .int .i64 (2 ^ b : Int)) (w' := V) (by simp only [execOp]; go_simp) ⟨rfl, hS⟩⟩
            | 7, ho =>
              obtain rfl := Option.some.inj ho
              clear hd
              exact Or.inl ⟨rfl, Gives.val (v := .slice ca cn cc) (w' := V) (by simp only [execOp]; go_simp) ⟨rfl, hS⟩⟩
            | 8, ho =>
              obtain rfl := Option.some.inj ho
              have e4 : ρ (.tmp 57) = .int .i64 u.pr := hd 4 (by decide)
              have e6 : ρ (.tmp 59) = .int .i64 (2 ^ b : Int) := hd 6 (by decide)
              have e7 : ρ (.tmp 60) = .slice ca cn cc := hd 7 (by decide)
              clear hd
              refine Or.inl ⟨rfl, Gives.enter (f := 20) (args := #[.int .i64 u.pr, .int .i64 (2 ^ b : Int), .slice ca cn cc]) (by simp only [execOp]; go_simp) ((CA.out _ (HC.out.below (keep_below HB2.out hS))).mono ?_)⟩
              rintro e w8 ⟨rfl, b8⟩
              exact ⟨_, rfl, rfl, keep_below hS b8⟩
            | 9, ho =>
              obtain rfl := Option.some.inj ho
              have e8 : ρ (.tmp 61) = .int .i64 N := hd 8 (by decide)
              clear hd
              exact Or.inl ⟨rfl, Gives.val (v := .int .i64 N) (w' := V) (by simp only [execOp]; go_simp) ⟨rfl, hS⟩⟩
            | k + 10, ho => simp at ho
          · intro a' V hsz hdef hoth hok hS
            have hcov : ∀ i, i < 10 → 53 ≤ (fun i => ([53, 54, 55, 56, 57, 58, 59, 60, 61, 9] : List Nat).getD i 0) i ∧ (fun i => ([53, 54, 55, 56, 57, 58, 59, 60, 61, 9] : List Nat).getD i 0) i < 62 ∨ (fun i => ([53, 54, 55, 56, 57, 58, 59, 60, 61, 9] : List Nat).getD i 0) i = 9 := by decide
            have hv9 : a'.eval (.tmp 9) = .int .i64 N := hok 9 (by decide)
            clear hok
            obtain ⟨us, hu1, rfl⟩ := act_mix1 53 9 9 (.int .i64 N) rfl hsz hdef (by simp) (by simp) hv9 (by decide) (fun k hkd hk => hoth k (fun i hi => by have := hcov i hi; dsimp only at this ⊢; omega))
            match us, hu1 with
            | [u53, u54, u55, u56, u57, u58, u59, u60, u61], _ =>
              have HV := Lib.hid (keep_below HWr.out hS)
              have HV3 := Lib.hid (keep_below HB2.out hS)
              clear hS h0
              go_wp2
              go_loopw [10] (fun x wr => ∃ j : Nat, j ≤ n ∧ x = .int .i64 j ∧ V = wr) (fun x _ => n - (intOf x).toNat)
              case atStart => exact ⟨0, by omega, rfl, rfl⟩
              case round =>
                obtain ⟨j, hj, rfl, rfl⟩ := hrel
                by_cases hlt3 : j < n
                · obtain ⟨b3', o3, v, ya, yn, yc, ma, mn, mc, e3, hB3, hx3, ⟨hY, hYm⟩, -, g0, g1, -⟩ := hr.item HV.out hlt3
                  cases e3
                  have hv := Lib.hid (List.mem_of_getElem? hx3)
                  have j1 : (0 : Int) ≤ (j : Int) := by omega
                  have j2 : (j : Int) < (n : Int) := by omega
                  have HY := Lib.hid hY
                  clear hx3 hY
                  go_wp2
                  go_loopw [11] (fun x wr => ∃ m : Nat, m ≤ yn ∧ x = .int .i64 m ∧ V = wr) (fun x _ => yn - (intOf x).toNat)
                  case atStart => exact ⟨0, by omega, rfl, rfl⟩
                  case round =>
                    obtain ⟨m, hm, rfl, rfl⟩ := hrel
                    by_cases hlt4 : m < yn
                    · obtain ⟨b4, o4, z, rfl, hB4, hz, hc4⟩ := (HY.out.below HV.out).item hlt4
                      have m1 : (0 : Int) ≤ (m : Int) := by omega
                      have m2 : (m : Int) < (yn : Int) := by omega
                      have hzm := List.mem_of_getElem? hz
                      by_cases hzb : z = (b : Int)
                      · subst hzb
                        have hle := HN.out v hv.out hzm
                        have d1 : decide (N < v.pr) = false := decide_eq_false (by omega)
                        have d2 : ((b : Int) == (b : Int)) = true := by simp
                        clear hz hzm hle
                        go_wp2
                        go_roundw
                        case rel => exact ⟨m + 1, by omega, by go_num, by trivial⟩
                        case measure => simp [intOf]; omega
                      · have d2 : (z == (b : Int)) = false := by simpa using hzb
                        clear hz hzm hzb
                        go_wp2
                        go_roundw
                        case rel => exact ⟨m + 1, by omega, by go_num, by trivial⟩
                        case measure => simp [intOf]; omega
                    · obtain rfl : yn = m := by omega
                      go_wp2
                      go_roundw
                      case rel => exact ⟨j + 1, by omega, by go_num, by trivial⟩
                      case measure => simp [intOf]; omega
                · obtain rfl : n = j := by omega
                  go_wp2
                  go_roundw
                  case rel => exact ⟨k + 1, by omega, by go_num, HV3⟩
                  case measure => simp [intOf]; omega
        · obtain rfl : xn = k := by omega
          go_wp2
          go_roundw
          case rel => exact ⟨ii + 1, by omega, by go_num, HB2⟩
          case measure => simp [intOf]; omega
    · obtain rfl : n = ii := by omega
      go_wp2_with (go_at_call 11; fail)
      refine (CK.out _).mono ?_
      rintro e w5 ⟨rfl, hb5⟩
      go_wp2
      go_ret
      exact ⟨rfl, keep_below (keep_below b3.out HB1.out) hb5⟩
end Go.Proofs.Ythicoekoeffpaaa
