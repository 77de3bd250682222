/- What is proved here: contracts of the program's reader of an image's bytes: count, row. Conditions: the bytes are at most a million; the table of names holds what its initialiser lays. the contract of the program's reader of a task. -/
import Derived.Test.YtngehojibcmieaaGreatDoorQPr1
import Derived.Test.YtngehojibcmieaaGreatDoorQB4
set_option maxRecDepth 100000
set_option maxHeartbeats 8000000
section
namespace Go.Proofs.YtngehojibcmieaaGreatDoor
open Go.ChangeShapes Go.WideShapes Go.RowKit
theorem count_any (g : Nat) (s : ByteArray) (st st' : Rst) (most v : Int) (w : World) (h : Rdr 90 g s st w) (hs : s.size ≤ 1000000) (hq : rCount s.data.toList most st = (v, st')) :
  Calls Tryz.prog 85 #[.pointer (some ⟨g, 0, none⟩), .int .i64 most] w fun e w' => e = .returned (.int .i64 v) ∧ Rdr 90 g s st' w' ∧ Kep g w w' := by
 obtain ⟨⟨n, s1⟩, hn⟩ : ∃ p, rNum s.data.toList st = p := ⟨_, rfl⟩
 have C := Lib.hid (number_any g s st s1 n w h hs hn)
 unfold rCount at hq
 rw [hn] at hq
 clear hn h
 by_cases h0 : n < 0
 ·have HV : Hid (v = 0 ∧ st' = ⟨s1.pos, 3⟩) := by
   rw [if_pos h0] at hq; cases hq; exact ⟨rfl, rfl⟩
  have d0 : decide (n < 0) = true := decide_eq_true h0
  clear hq
  go_enter Tryz.func85, Tryz.ntmps85
  go_wp2_with (go_at_call 83; refine C.out.mono ?_; rintro e w1 ⟨rfl, h1, k1⟩; have H1 := Lib.hid h1; have K1 := Lib.hid k1; have c2 := h1.c2; have f2 := World.rowIs.frozen h1 2; clear h1 k1)
  go_ret
  exact ⟨by rw [HV.out.1]; rfl, by rw [HV.out.2]; exact H1.out.err 3, K1.out.trans (Kep.set _ _ _ _)⟩
 have d0 : decide (n < 0) = false := decide_eq_false h0
 rw [if_neg h0] at hq
 by_cases h1 : most < n
 ·have HV : Hid (v = 0 ∧ st' = ⟨s1.pos, 4⟩) := by
   rw [if_pos h1] at hq; cases hq; exact ⟨rfl, rfl⟩
  have d1 : decide (most < n) = true := decide_eq_true h1
  clear hq
  go_enter Tryz.func85, Tryz.ntmps85
  go_wp2_with (go_at_call 83; refine C.out.mono ?_; rintro e w1 ⟨rfl, h1, k1⟩; have H1 := Lib.hid h1; have K1 := Lib.hid k1; have c2 := h1.c2; have f2 := World.rowIs.frozen h1 2; clear h1 k1)
  go_ret
  exact ⟨by rw [HV.out.1]; rfl, by rw [HV.out.2]; exact H1.out.err 4, K1.out.trans (Kep.set _ _ _ _)⟩
 have d1 : decide (most < n) = false := decide_eq_false h1
 rw [if_neg h1] at hq
 have HV : Hid (v = n ∧ st' = s1) := by cases hq; exact ⟨rfl, rfl⟩
 clear hq
 go_enter Tryz.func85, Tryz.ntmps85
 go_wp2_with (go_at_call 83; refine C.out.mono ?_; rintro e w1 ⟨rfl, h1, k1⟩; have H1 := Lib.hid h1; have K1 := Lib.hid k1; clear h1 k1)
 go_ret
 exact ⟨by rw [HV.out.1]; rfl, by rw [HV.out.2]; exact H1.out, K1.out⟩
theorem blw_drN (w : World) (n : Nat) : Below w.heap.size w (w.drewN n) := ⟨rfl, rfl, rfl, Nat.le_refl _, fun _ _ => rfl⟩
theorem Nms.kep {g : Nat} {w W : World} (h : Nms w) (hk : Kep g w W) (hg : 1 < g) : Nms W :=
 ⟨Nat.lt_of_lt_of_le h.1 hk.size, fun i hi => hk.cell (show 1 ≠ g by omega) (h.2 i hi)⟩
theorem rRow_len (l : List UInt8) (st : Rst) : (rRow l st).1.length ≤ 200 := by
 unfold rRow
 split
 ·exact Nat.zero_le _
 ·split
  ·exact Nat.zero_le _
  ·exact Kb.rd_len _
theorem row_any (g : Nat) (s : ByteArray) (st st' : Rst) (l : List (Int × Int × Int)) (w : World) (h : Rdr 90 g s st w) (hs : s.size ≤ 1000000) (hf : Fine s.data.toList st) (hN : Nms w) (hg1 : 1 < g) (hq : rRow s.data.toList st = (l, st')) :
  Calls Tryz.prog 128 #[.pointer (some ⟨g, 0, none⟩)] w fun e w' => ∃ a n c, e = .returned (.slice a n c) ∧ RowIA w.heap.size w' a n l ∧ Rdr 90 g s st' w' ∧ Kep g w w' := by
 obtain ⟨⟨z, ⟨p1, e1⟩⟩, hz⟩ : ∃ p, rCount s.data.toList 4000 st = p := ⟨_, rfl⟩
 have C := Lib.hid (count_any g s st ⟨p1, e1⟩ 4000 z w h hs hz)
 have hgl := World.rowIs.lt h
 have hz0 := rCount_pos (l := s.data.toList) (s := st) (m := 4000) (by decide)
 have hf1 := rCount_fine (m := 4000) hf
 have HN := Lib.hid hN
 unfold rRow at hq
 rw [hz] at hq hz0 hf1
 clear hz h hN hf
 simp only at hz0 hf1
 by_cases he : e1 = 0
 rotate_left
 ·have HV : Hid ([] = l ∧ (⟨p1, e1⟩ : Rst) = st') := by
   rw [if_pos he] at hq; cases hq; exact ⟨rfl, rfl⟩
  have d1 : (e1 == 0) = false := beq_eq_false_iff_ne.2 he
  clear hq
  go_enter Tryz.func128, Tryz.ntmps128
  go_wp2_with (go_at_call 85; refine C.out.mono ?_; rintro e w1 ⟨rfl, h1, k1⟩; have H1 := Lib.hid h1; have K1 := Lib.hid k1; have c2 := h1.c2; clear h1 k1)
  go_ret
  exact ⟨none, 0, 0, rfl, by rw [← HV.out.1]; exact ⟨⟨rfl, fun h => absurd h (by omega)⟩, fun _ h => by cases h⟩, by rw [← HV.out.2]; exact H1.out, K1.out⟩
 rw [if_neg (by simpa using he)] at hq
 obtain ⟨f0, f1⟩ : 0 ≤ p1 ∧ p1 ≤ (s.data.toList.length : Int) := hf1 he
 have hlen : s.data.toList.length = s.size := by simp
 rw [hlen] at f1 hq
 have c2e : ∀ W, Rdr 90 g s ⟨p1, e1⟩ W → W.cell? ⟨g, 2, none⟩ = some (.int .i64 0) := fun W hW => by have := hW.c2; rw [he] at this; exact this
 have C2 := Lib.hid c2e
 have wS : IntKind.i64.wrap ((s.size : Int) - p1) = (s.size : Int) - p1 := by rw [IntKind.wrap_i64]; omega
 by_cases h1 : (s.size : Int) - p1 < z
 ·have HV : Hid ([] = l ∧ (⟨p1, 2⟩ : Rst) = st') := by
   rw [if_pos h1] at hq; cases hq; exact ⟨rfl, rfl⟩
  have d1 : decide ((s.size : Int) - p1 < z) = true := decide_eq_true h1
  clear hq hlen c2e he
  go_enter Tryz.func128, Tryz.ntmps128
  go_wp2_with (go_at_call 85; refine C.out.mono ?_; rintro e w1 ⟨rfl, h1, k1⟩; have H1 := Lib.hid h1; have K1 := Lib.hid k1; have c0 := h1.c0; have c1 := h1.c1; have c2 := C2.out _ h1; have f2 := World.rowIs.frozen h1 2; clear h1 k1)
  go_quiet (fail)
  go_wp2
  go_ret
  exact ⟨none, 0, 0, rfl, by rw [← HV.out.1]; exact ⟨⟨rfl, fun h => absurd h (by omega)⟩, fun _ h => by cases h⟩, by rw [← HV.out.2]; exact (H1.out.below (blw_drN _ _)).err 2, (K1.out.trans (Kep.of (blw_drN _ _))).trans (Kep.set _ _ _ _)⟩
 ·obtain ⟨m, rfl⟩ := Int.eq_ofNat_of_zero_le hz0.1
  obtain ⟨p, rfl⟩ := Int.eq_ofNat_of_zero_le f0
  subst he
  rw [if_neg h1, Int.toNat_natCast, Int.toNat_natCast] at hq
  obtain ⟨B, hB⟩ : ∃ B : ByteArray, s.extract p (p + m) = B := ⟨_, rfl⟩
  have hBl : B.data.toList = (s.data.toList.drop p).take m := by
   rw [← hB]
   simp [ByteArray.data_extract]
  have hBs : B.size ≤ 1000000 := by
   have := congrArg List.length hBl
   simp only [Array.length_toList, List.length_take, List.length_drop] at this
   show B.data.size ≤ _
   omega
  have CG := Lib.hid (fun W (hW : Nms W) => Kb.read_any B hBs W hW)
  rw [hBl] at CG
  unfold Kb.GotR at CG
  obtain ⟨l0, hl0⟩ : ∃ n, (Kb.rd ((s.data.toList.drop p).take m)).1 = n := ⟨_, rfl⟩
  obtain ⟨e0, he0⟩ : ∃ n, (Kb.rd ((s.data.toList.drop p).take m)).2 = n := ⟨_, rfl⟩
  rw [hl0, he0] at CG hq
  have HV : Hid (l0 = l ∧ (⟨(p : Int) + m, e0⟩ : Rst) = st') := by cases hq; exact ⟨rfl, rfl⟩
  have d1 : decide ((s.size : Int) - (p : Int) < (m : Int)) = false := decide_eq_false h1
  have wA : IntKind.i64.wrap ((p : Int) + (m : Int)) = (p : Int) + m := by rw [IntKind.wrap_i64]; omega
  have HBB := Lib.hid hB
  clear hq hlen c2e hl0 he0 hBl hB
  go_enter Tryz.func128, Tryz.ntmps128
  go_wp2_with (go_at_call 85; refine C.out.mono ?_; rintro e w1 ⟨rfl, h1, k1⟩; have H1 := Lib.hid h1; have K1 := Lib.hid k1; have c0 := h1.c0; have c1 := h1.c1; have c2 := C2.out _ h1; have f2 := World.rowIs.frozen h1 2; clear h1 k1)
  go_quiet (fail)
  go_wp2_with fail
  have H2 := Lib.hid (H1.out.below (blw_drN w1 nq))
  have K2 := Lib.hid (K1.out.trans (Kep.of (blw_drN w1 nq)))
  clear H1 K1 c0 c1 c2 f2
  generalize w1.drewN nq = W1 at H2 K2 ⊢
  refine region_gh (θ := Option Sl) 60 24 2 (fun t => ([16, 23] : List Nat).getD t 0) (fun i => ([30, 31, 32, 33, 34, 35, 36, 37, 38, 39, 40, 41, 42, 43, 44, 45, 46, 29, 47, 48, 4, 49, 50, 60] : List Nat).getD i 0) (fun i => ([[], [], [1], [2], [3], [], [5], [6], [7], [], [9], [10], [11], [], [12, 13], [4, 8, 14], [15], [16], [17], [17], [18], [0], [21], [22, 19, 20, 16]] : List (List Nat)).getD i []) (fun (gs : Option Sl) i v => ([(fun _ v => v = .pointer (some ⟨g, 0, none⟩)), (fun _ v => v = .pointer (some ⟨g, 0, none⟩)), (fun _ v => v = .pointer (some ⟨g, 0, none⟩)), (fun _ v => v = .pointer (some ⟨g, 0, none⟩)), (fun _ v => v = .string s), (fun _ v => v = .pointer (some ⟨g, 0, none⟩)), (fun _ v => v = .pointer (some ⟨g, 0, none⟩)), (fun _ v => v = .pointer (some ⟨g, 1, none⟩)), (fun _ v => v = .int .i64 (p : Int)), (fun _ v => v = .pointer (some ⟨g, 0, none⟩)), (fun _ v => v = .pointer (some ⟨g, 0, none⟩)), (fun _ v => v = .pointer (some ⟨g, 1, none⟩)), (fun _ v => v = .int .i64 (p : Int)), (fun _ v => v = .int .i64 (m : Int)), (fun _ v => v = .int .i64 ((p : Int) + (m : Int))), (fun _ v => v = .string B), (fun gs v => ∃ t : Sl, gs = some t ∧ v = .tuple #[.slice t.a t.n t.c, .int .i64 e0]), (fun gs v => ∃ t : Sl, gs = some t ∧ v = .tuple #[.slice t.a t.n t.c, .int .i64 e0]), (fun gs v => ∃ t : Sl, gs = some t ∧ v = .slice t.a t.n t.c), (fun _ v => v = .int .i64 e0), (fun gs v => ∃ t : Sl, gs = some t ∧ v = .slice t.a t.n t.c), (fun _ v => v = .pointer (some ⟨g, 0, none⟩)), (fun _ v => v = .pointer (some ⟨g, 2, none⟩)), (fun _ _ => True)] : List (Option Sl → Value → Prop)).getD i (fun _ _ => False) gs v) (fun j (gs : Option Sl) W => ([(fun gs W => gs = none ∧ Rdr 90 g s ⟨p, 0⟩ W ∧ Kep g w W), (fun gs W => Rdr 90 g s ⟨p, 0⟩ W ∧ Kep g w W ∧ ∃ t : Sl, gs = some t ∧ RowIA w.heap.size W t.a t.n l0), (fun gs W => Rdr 90 g s ⟨p, e0⟩ W ∧ Kep g w W ∧ ∃ t : Sl, gs = some t ∧ RowIA w.heap.size W t.a t.n l0)] : List (Option Sl → World → Prop)).getD j (fun _ _ => False) gs W) none (by kernel_rfl) rfl (fun i j hi hj => (by decide : ∀ i, i < 24 → ∀ j, j < 24 → (fun i => ([30, 31, 32, 33, 34, 35, 36, 37, 38, 39, 40, 41, 42, 43, 44, 45, 46, 29, 47, 48, 4, 49, 50, 60] : List Nat).getD i 0) i = (fun i => ([30, 31, 32, 33, 34, 35, 36, 37, 38, 39, 40, 41, 42, 43, 44, 45, 46, 29, 47, 48, 4, 49, 50, 60] : List Nat).getD i 0) j → i = j) i hi j hj) rfl (fun s t hs ht => (by decide : ∀ s, s < 2 → ∀ t, t < 2 → (fun t => ([16, 23] : List Nat).getD t 0) s = (fun t => ([16, 23] : List Nat).getD t 0) t → s = t) s hs t ht) (by decide) (fun t ht => (by decide : ∀ t, t < 1 → (fun t => ([16, 23] : List Nat).getD t 0) t ∈ (fun i => ([[], [], [1], [2], [3], [], [5], [6], [7], [], [9], [10], [11], [], [12, 13], [4, 8, 14], [15], [16], [17], [17], [18], [0], [21], [22, 19, 20, 16]] : List (List Nat)).getD i []) ((fun t => ([16, 23] : List Nat).getD t 0) (t + 1))) t (by omega)) ?_ ?_ ⟨rfl, H2.out.drew, K2.out.trans (Kep.of (blw_dr _))⟩ ?_
  ·intro i o ho
   iterate 24 (rcases i with _ | i; (obtain rfl := Option.some.inj ho; first | exact ⟨Or.inl ⟨rfl, by decide⟩, rfl, by decide, by decide⟩ | exact ⟨Or.inr ⟨rfl, by decide, fun _ _ _ h => h⟩, rfl, by decide, by decide⟩))
   simp at ho
  ·intro i o j gs ho a' W hj hS hoth hd hfr
   have oS0 : a'.eval (.tmp 0) = .pointer (some ⟨g, 0, none⟩) := hoth 0 (by decide)
   have oS3 : a'.eval (.tmp 3) = .int .i64 (m : Int) := hoth 3 (by decide)
   obtain ⟨ρ, hρ⟩ : ∃ ρ, ρ = a'.eval := ⟨_, rfl⟩
   have hc : ∀ v, ρ (.const v) = v := fun v => by rw [hρ]; rfl
   have hfn : ∀ f, ρ (.func f) = .func (.func f) #[] #[] := fun f => by rw [hρ]; rfl
   have qS0 : ρ (.tmp 0) = .pointer (some ⟨g, 0, none⟩) := by rw [hρ]; exact oS0
   have qS3 : ρ (.tmp 3) = .int .i64 (m : Int) := by rw [hρ]; exact oS3
   clear hoth
   match i, ho with
   | 0, ho =>
    obtain rfl := Option.some.inj ho
    refine Or.inl ⟨by decide, ?_⟩
    rw [← hρ]
    clear hd hρ
    exact ⟨.pointer (some ⟨g, 0, none⟩), by simp only [execOp]; go_simp, rfl⟩
   | 1, ho =>
    obtain rfl := Option.some.inj ho
    refine Or.inl ⟨by decide, ?_⟩
    rw [← hρ]
    clear hd hρ
    exact ⟨.pointer (some ⟨g, 0, none⟩), by simp only [execOp]; go_simp, rfl⟩
   | 2, ho =>
    obtain rfl := Option.some.inj ho
    have e1 : (a'.eval (.tmp 31)) = .pointer (some ⟨g, 0, none⟩) := hd 1 (by decide)
    refine Or.inl ⟨by decide, ?_⟩
    rw [← hρ]
    rw [← hρ] at e1
    clear hd hρ
    exact ⟨.pointer (some ⟨g, 0, none⟩), by simp only [execOp]; go_simp, rfl⟩
   | 3, ho =>
    obtain rfl := Option.some.inj ho
    have e2 : (a'.eval (.tmp 32)) = .pointer (some ⟨g, 0, none⟩) := hd 2 (by decide)
    refine Or.inl ⟨by decide, ?_⟩
    rw [← hρ]
    rw [← hρ] at e2
    clear hd hρ
    exact ⟨.pointer (some ⟨g, 0, none⟩), by simp only [execOp]; go_simp, rfl⟩
   | 4, ho =>
    obtain rfl := Option.some.inj ho
    have e3 : (a'.eval (.tmp 33)) = .pointer (some ⟨g, 0, none⟩) := hd 3 (by decide)
    refine Or.inl ⟨by decide, ?_⟩
    rw [← hρ]
    rw [← hρ] at e3
    clear hd hρ
    have hj0 : j = 0 := by have := hfr 5 0 (by decide) (by decide); omega
    subst hj0
    have hS : (fun gs W => gs = none ∧ Rdr 90 g s ⟨p, 0⟩ W ∧ Kep g w W : Option Sl → World → Prop) gs W := hS
    have c0 := hS.2.1.c0
    have c1 := hS.2.1.c1
    exact ⟨.string s, by simp only [execOp]; go_simp, rfl⟩
   | 5, ho =>
    obtain rfl := Option.some.inj ho
    refine Or.inl ⟨by decide, ?_⟩
    rw [← hρ]
    clear hd hρ
    exact ⟨.pointer (some ⟨g, 0, none⟩), by simp only [execOp]; go_simp, rfl⟩
   | 6, ho =>
    obtain rfl := Option.some.inj ho
    have e5 : (a'.eval (.tmp 35)) = .pointer (some ⟨g, 0, none⟩) := hd 5 (by decide)
    refine Or.inl ⟨by decide, ?_⟩
    rw [← hρ]
    rw [← hρ] at e5
    clear hd hρ
    exact ⟨.pointer (some ⟨g, 0, none⟩), by simp only [execOp]; go_simp, rfl⟩
   | 7, ho =>
    obtain rfl := Option.some.inj ho
    have e6 : (a'.eval (.tmp 36)) = .pointer (some ⟨g, 0, none⟩) := hd 6 (by decide)
    refine Or.inl ⟨by decide, ?_⟩
    rw [← hρ]
    rw [← hρ] at e6
    clear hd hρ
    exact ⟨.pointer (some ⟨g, 1, none⟩), by simp only [execOp]; go_simp, rfl⟩
   | 8, ho =>
    obtain rfl := Option.some.inj ho
    have e7 : (a'.eval (.tmp 37)) = .pointer (some ⟨g, 1, none⟩) := hd 7 (by decide)
    refine Or.inl ⟨by decide, ?_⟩
    rw [← hρ]
    rw [← hρ] at e7
    clear hd hρ
    have hj0 : j = 0 := by have := hfr 5 0 (by decide) (by decide); omega
    subst hj0
    have hS : (fun gs W => gs = none ∧ Rdr 90 g s ⟨p, 0⟩ W ∧ Kep g w W : Option Sl → World → Prop) gs W := hS
    have c0 := hS.2.1.c0
    have c1 := hS.2.1.c1
    exact ⟨.int .i64 (p : Int), by simp only [execOp]; go_simp, rfl⟩
   | 9, ho =>
    obtain rfl := Option.some.inj ho
    refine Or.inl ⟨by decide, ?_⟩
    rw [← hρ]
    clear hd hρ
    exact ⟨.pointer (some ⟨g, 0, none⟩), by simp only [execOp]; go_simp, rfl⟩
   | 10, ho =>
    obtain rfl := Option.some.inj ho
    have e9 : (a'.eval (.tmp 39)) = .pointer (some ⟨g, 0, none⟩) := hd 9 (by decide)
    refine Or.inl ⟨by decide, ?_⟩
    rw [← hρ]
    rw [← hρ] at e9
    clear hd hρ
    exact ⟨.pointer (some ⟨g, 0, none⟩), by simp only [execOp]; go_simp, rfl⟩
   | 11, ho =>
    obtain rfl := Option.some.inj ho
    have e10 : (a'.eval (.tmp 40)) = .pointer (some ⟨g, 0, none⟩) := hd 10 (by decide)
    refine Or.inl ⟨by decide, ?_⟩
    rw [← hρ]
    rw [← hρ] at e10
    clear hd hρ
    exact ⟨.pointer (some ⟨g, 1, none⟩), by simp only [execOp]; go_simp, rfl⟩
   | 12, ho =>
    obtain rfl := Option.some.inj ho
    have e11 : (a'.eval (.tmp 41)) = .pointer (some ⟨g, 1, none⟩) := hd 11 (by decide)
    refine Or.inl ⟨by decide, ?_⟩
    rw [← hρ]
    rw [← hρ] at e11
    clear hd hρ
    have hj0 : j = 0 := by have := hfr 5 0 (by decide) (by decide); omega
    subst hj0
    have hS : (fun gs W => gs = none ∧ Rdr 90 g s ⟨p, 0⟩ W ∧ Kep g w W : Option Sl → World → Prop) gs W := hS
    have c0 := hS.2.1.c0
    have c1 := hS.2.1.c1
    exact ⟨.int .i64 (p : Int), by simp only [execOp]; go_simp, rfl⟩
   | 13, ho =>
    obtain rfl := Option.some.inj ho
    refine Or.inl ⟨by decide, ?_⟩
    rw [← hρ]
    clear hd hρ
    exact ⟨.int .i64 (m : Int), by simp only [execOp]; go_simp, rfl⟩
   | 14, ho =>
    obtain rfl := Option.some.inj ho
    have e12 : (a'.eval (.tmp 42)) = .int .i64 (p : Int) := hd 12 (by decide)
    have e13 : (a'.eval (.tmp 43)) = .int .i64 (m : Int) := hd 13 (by decide)
    refine Or.inl ⟨by decide, ?_⟩
    rw [← hρ]
    rw [← hρ] at e12
    rw [← hρ] at e13
    clear hd hρ
    exact ⟨.int .i64 ((p : Int) + (m : Int)), by simp only [execOp]; go_simp, rfl⟩
   | 15, ho =>
    obtain rfl := Option.some.inj ho
    have e4 : (a'.eval (.tmp 34)) = .string s := hd 4 (by decide)
    have e8 : (a'.eval (.tmp 38)) = .int .i64 (p : Int) := hd 8 (by decide)
    have e14 : (a'.eval (.tmp 44)) = .int .i64 ((p : Int) + (m : Int)) := hd 14 (by decide)
    refine Or.inl ⟨by decide, ?_⟩
    rw [← hρ]
    rw [← hρ] at e4
    rw [← hρ] at e8
    rw [← hρ] at e14
    clear hd hρ
    exact ⟨.string B, by simp only [execOp]; go_simp; rw [if_pos ⟨by omega, by omega⟩, if_pos (by omega), show ((p : Int) + (m : Int)).toNat = p + m by omega, HBB.out], rfl⟩
   | 16, ho =>
    obtain rfl := Option.some.inj ho
    have e15 : (a'.eval (.tmp 45)) = .string B := hd 15 (by decide)
    refine Or.inr ⟨?_, 0, by decide, rfl⟩
    intro t ht hti htj K hK
    have ht0 : t = 0 := by match t, ht, hti with
     | 0, _, h => rfl
     | 1, _, h => exact absurd h (by decide)
     | k + 2, ht, _ => omega
    subst ht0
    subst htj
    clear hd
    have r15 : (ρ (.tmp 45)) = .string B := by rw [hρ]; exact e15
    have hS : (fun gs W => gs = none ∧ Rdr 90 g s ⟨p, 0⟩ W ∧ Kep g w W : Option Sl → World → Prop) gs W := hS
    refine Kd.Gives.wp (R := fun v' W' => ∃ t : Sl, v' = .tuple #[.slice t.a t.n t.c, .int .i64 e0] ∧ RowI W' t.a t.n l0 ∧ Below W.heap.size W W' ∧ ∀ ad, t.a = some ad → W.heap.size ≤ ad.block) (Kd.Gives.enter (f := 173) (args := #[.string B]) (by rw [← hρ]; clear hρ; simp only [execOp]; go_simp) ((CG.out W (HN.out.kep hS.2.2 hg1)).mono ?_)) ?_
    ·rintro e w8 ⟨a, n, c, rfl, h1, h2, h3⟩; exact ⟨_, rfl, ⟨a, n, c⟩, rfl, h1, h2, h3⟩
    ·rintro v' W' ⟨t, rfl, h1, h2, h3⟩
     exact hK _ _ (some t) ⟨t, rfl, rfl⟩ (by
      intro k v hk
      have hg0 : gs = none := hS.1
      subst hg0
      match k, hk with
      | 0, hk => exact hk
      | 1, hk => exact hk
      | 2, hk => exact hk
      | 3, hk => exact hk
      | 4, hk => exact hk
      | 5, hk => exact hk
      | 6, hk => exact hk
      | 7, hk => exact hk
      | 8, hk => exact hk
      | 9, hk => exact hk
      | 10, hk => exact hk
      | 11, hk => exact hk
      | 12, hk => exact hk
      | 13, hk => exact hk
      | 14, hk => exact hk
      | 15, hk => exact hk
      | 16, hk => obtain ⟨_, e, _⟩ := hk; cases e
      | 17, hk => obtain ⟨_, e, _⟩ := hk; cases e
      | 18, hk => obtain ⟨_, e, _⟩ := hk; cases e
      | 19, hk => exact hk
      | 20, hk => obtain ⟨_, e, _⟩ := hk; cases e
      | 21, hk => exact hk
      | 22, hk => exact hk
      | 23, hk => exact hk
      | k + 24, hk => exact hk) ⟨hS.2.1.below h2, hS.2.2.trans (Kep.of h2), t, rfl, h1, fun ad e => Nat.le_trans hS.2.2.size (h3 ad e)⟩
   | 17, ho =>
    obtain rfl := Option.some.inj ho
    have e16 : ∃ t : Sl, gs = some t ∧ (a'.eval (.tmp 46)) = .tuple #[.slice t.a t.n t.c, .int .i64 e0] := hd 16 (by decide)
    refine Or.inl ⟨by decide, ?_⟩
    rw [← hρ]
    rw [← hρ] at e16
    clear hd hρ
    obtain ⟨t, ht, r⟩ := e16
    exact ⟨.tuple #[.slice t.a t.n t.c, .int .i64 e0], by simp only [execOp]; go_simp, t, ht, rfl⟩
   | 18, ho =>
    obtain rfl := Option.some.inj ho
    have e17 : ∃ t : Sl, gs = some t ∧ (a'.eval (.tmp 29)) = .tuple #[.slice t.a t.n t.c, .int .i64 e0] := hd 17 (by decide)
    refine Or.inl ⟨by decide, ?_⟩
    rw [← hρ]
    rw [← hρ] at e17
    clear hd hρ
    obtain ⟨t, ht, r⟩ := e17
    exact ⟨.slice t.a t.n t.c, by simp only [execOp]; go_simp, t, ht, rfl⟩
   | 19, ho =>
    obtain rfl := Option.some.inj ho
    have e17 : ∃ t : Sl, gs = some t ∧ (a'.eval (.tmp 29)) = .tuple #[.slice t.a t.n t.c, .int .i64 e0] := hd 17 (by decide)
    refine Or.inl ⟨by decide, ?_⟩
    rw [← hρ]
    rw [← hρ] at e17
    clear hd hρ
    obtain ⟨t, ht, r⟩ := e17
    exact ⟨.int .i64 e0, by simp only [execOp]; go_simp, rfl⟩
   | 20, ho =>
    obtain rfl := Option.some.inj ho
    have e18 : ∃ t : Sl, gs = some t ∧ (a'.eval (.tmp 47)) = .slice t.a t.n t.c := hd 18 (by decide)
    refine Or.inl ⟨by decide, ?_⟩
    rw [← hρ]
    rw [← hρ] at e18
    clear hd hρ
    obtain ⟨t, ht, r⟩ := e18
    exact ⟨.slice t.a t.n t.c, by simp only [execOp]; go_simp, t, ht, rfl⟩
   | 21, ho =>
    obtain rfl := Option.some.inj ho
    have e0 : (a'.eval (.tmp 30)) = .pointer (some ⟨g, 0, none⟩) := hd 0 (by decide)
    refine Or.inl ⟨by decide, ?_⟩
    rw [← hρ]
    rw [← hρ] at e0
    clear hd hρ
    exact ⟨.pointer (some ⟨g, 0, none⟩), by simp only [execOp]; go_simp, rfl⟩
   | 22, ho =>
    obtain rfl := Option.some.inj ho
    have e21 : (a'.eval (.tmp 49)) = .pointer (some ⟨g, 0, none⟩) := hd 21 (by decide)
    refine Or.inl ⟨by decide, ?_⟩
    rw [← hρ]
    rw [← hρ] at e21
    clear hd hρ
    exact ⟨.pointer (some ⟨g, 2, none⟩), by simp only [execOp]; go_simp, rfl⟩
   | 23, ho =>
    obtain rfl := Option.some.inj ho
    have e22 : (a'.eval (.tmp 50)) = .pointer (some ⟨g, 2, none⟩) := hd 22 (by decide)
    have e19 : (a'.eval (.tmp 48)) = .int .i64 e0 := hd 19 (by decide)
    have e20 : ∃ t : Sl, gs = some t ∧ (a'.eval (.tmp 4)) = .slice t.a t.n t.c := hd 20 (by decide)
    have e16 : ∃ t : Sl, gs = some t ∧ (a'.eval (.tmp 46)) = .tuple #[.slice t.a t.n t.c, .int .i64 e0] := hd 16 (by decide)
    refine Or.inr ⟨?_, 1, by decide, rfl⟩
    intro t ht hti htj K hK
    have ht0 : t = 1 := by match t, ht, hti with
     | 0, _, h => exact absurd h (by decide)
     | 1, _, h => rfl
     | k + 2, ht, _ => omega
    subst ht0
    subst htj
    clear hd
    have r22 : (ρ (.tmp 50)) = .pointer (some ⟨g, 2, none⟩) := by rw [hρ]; exact e22
    have r19 : (ρ (.tmp 48)) = .int .i64 e0 := by rw [hρ]; exact e19
    have r20 : ∃ t : Sl, gs = some t ∧ (ρ (.tmp 4)) = .slice t.a t.n t.c := by rw [hρ]; exact e20
    have r16 : ∃ t : Sl, gs = some t ∧ (ρ (.tmp 46)) = .tuple #[.slice t.a t.n t.c, .int .i64 e0] := by rw [hρ]; exact e16
    have hS : (fun gs W => Rdr 90 g s ⟨p, 0⟩ W ∧ Kep g w W ∧ ∃ t : Sl, gs = some t ∧ RowIA w.heap.size W t.a t.n l0 : Option Sl → World → Prop) gs W := hS
    obtain ⟨h1, h2, t, ht, h3⟩ := hS
    have c2 := h1.c2
    have f2 := World.rowIs.frozen h1 2
    exact Kd.wp_skip (w' := W.setCell ⟨g, 2, none⟩ (.int .i64 e0)) (by rw [← hρ]; clear hρ; simp only [execOp]; go_simp) (hK _ _ gs trivial (fun _ _ h => h) ⟨h1.err e0, h2.trans (Kep.set _ _ _ _), t, ht, h3.kep (Kep.set _ _ _ _) hgl⟩)
   | k + 24, ho => simp at ho
  ·intro a' W gs hsz hdef hoth hok hS
   have hcov : ∀ i, i < 24 → (fun i => ([30, 31, 32, 33, 34, 35, 36, 37, 38, 39, 40, 41, 42, 43, 44, 45, 46, 29, 47, 48, 4, 49, 50, 60] : List Nat).getD i 0) i < 60 → (29 ≤ (fun i => ([30, 31, 32, 33, 34, 35, 36, 37, 38, 39, 40, 41, 42, 43, 44, 45, 46, 29, 47, 48, 4, 49, 50, 60] : List Nat).getD i 0) i ∧ (fun i => ([30, 31, 32, 33, 34, 35, 36, 37, 38, 39, 40, 41, 42, 43, 44, 45, 46, 29, 47, 48, 4, 49, 50, 60] : List Nat).getD i 0) i < 51) ∨ (fun i => ([30, 31, 32, 33, 34, 35, 36, 37, 38, 39, 40, 41, 42, 43, 44, 45, 46, 29, 47, 48, 4, 49, 50, 60] : List Nat).getD i 0) i = 4 := by decide
   obtain ⟨t, ht, hv9⟩ : ∃ t : Sl, gs = some t ∧ a'.eval (.tmp 4) = .slice t.a t.n t.c := hok 20 (by decide)
   have hS : Rdr 90 g s ⟨p, e0⟩ W ∧ Kep g w W ∧ RowIA w.heap.size W t.a t.n l0 := by
    obtain ⟨h1, h2, t', ht', h3⟩ := hS
    rw [ht] at ht'
    cases ht'
    exact ⟨h1, h2, h3⟩
   obtain ⟨us, hu1, rfl⟩ := Kd.act_mix1 29 22 4 (.slice t.a t.n t.c) rfl hsz hdef (by simp) (by simp) hv9 (by decide) (fun k hkd hk => by
    by_cases hkT : k < 60
    ·exact hoth k (fun i hi e => by have := hcov i hi (Nat.lt_of_le_of_lt (Nat.le_of_eq e) hkT); dsimp only at this e; omega)
    ·rw [eval_far (by rw [hsz]; omega), eval_far (by simp; omega)])
   match us, hu1 with
   | [u29, u30, u31, u32, u33, u34, u35, u36, u37, u38, u39, u40, u41, u42, u43, u44, u45, u46, u47, u48, u49, u50], _ =>
    have HS := Lib.hid hS
    have c1 := hS.1.c1
    have f1 := World.rowIs.frozen hS.1 1
    clear hS hok hoth hv9 hcov ht
    go_wp2
    go_ret
    exact ⟨_, _, ⟨_, rfl⟩, by rw [← HV.out.1]; exact HS.out.2.2.kep (Kep.set _ _ _ _) hgl, by rw [← HV.out.2]; exact HS.out.1.pos _, HS.out.2.1.trans (Kep.set _ _ _ _)⟩
theorem rowIs_kep {g b n : Nat} {t : TypeId} {f : Nat → Value} {w w' : World} (h : w.rowIs b t n f) (hk : Kep g w w') (hb : b ≠ g) : w'.rowIs b t n f := World.rowIs.of_block h (hk.block b (World.rowIs.lt h) hb)
theorem rowIs_new (w : World) (cs : Array Value) (t : TypeId) (n : Nat) (hn : cs.size = n) : (w.alloc (.cells cs t)).rowIs w.heap.size t n (fun i => cs.getD i undef) := by
 subst hn
 exact World.rowIs_alloc w cs t _ (fun i hi => by simp [hi])
def TskV (t : TaV) : Value := .agg #[.int .i64 t.pr, .int .i64 t.pe, .int .i64 t.de, .int .i64 t.ji, .slice t.bl.a t.bl.n t.bl.c, .slice t.ou.a t.ou.n t.ou.c, .slice t.co.a t.co.n t.co.c]
structure TaA (lo : Nat) (w : World) (t : TaV) (T : TkP) : Prop where
 pr : t.pr = T.pr
 pe : t.pe = T.pe
 de : t.de = T.de
 ji : t.ji = T.ji
 bl : RowA lo w t.bl.a t.bl.n T.bl
 ou : RowA lo w t.ou.a t.ou.n T.ou
 co : RowIA lo w t.co.a t.co.n T.co
theorem TaA.mono {lo lo' : Nat} {w : World} {t : TaV} {T : TkP} (h : TaA lo w t T) (hl : lo' ≤ lo) : TaA lo' w t T := ⟨h.pr, h.pe, h.de, h.ji, h.bl.mono hl, h.ou.mono hl, h.co.mono hl⟩
theorem Kep.new {g : Nat} {w w7 w8 : World} (h : Kep g w w7) (h8 : Kep w.heap.size w7 w8) : Kep g w w8 :=
 ⟨h8.os.trans h.os, h8.tape.trans h.tape, h8.output.trans h.output, Nat.le_trans h.size h8.size, fun i hi hg => (h8.block i (Nat.lt_of_lt_of_le hi h.size) (by omega)).trans (h.block i hi hg)⟩
theorem task_rd (g : Nat) (s : ByteArray) (st st' : Rst) (K : TkP) (w : World) (h : Rdr 90 g s st w) (hs : s.size ≤ 1000000) (hf : Fine s.data.toList st) (hN : Nms w) (hg1 : 1 < g) (hq : rTask s.data.toList st = (K, st')) :
  Calls Tryz.prog 86 #[.pointer (some ⟨g, 0, none⟩)] w fun e w' => ∃ t : TaV, e = .returned (TskV t) ∧ TaA (w.heap.size + 1) w' t K ∧ Rdr 90 g s st' w' ∧ Kep g w w' := by
 obtain ⟨⟨v1, s1⟩, q1⟩ : ∃ p, rNum s.data.toList st = p := ⟨_, rfl⟩
 obtain ⟨⟨v2, s2⟩, q2⟩ : ∃ p, rNum s.data.toList s1 = p := ⟨_, rfl⟩
 obtain ⟨⟨v3, s3⟩, q3⟩ : ∃ p, rNum s.data.toList s2 = p := ⟨_, rfl⟩
 obtain ⟨⟨v4, s4⟩, q4⟩ : ∃ p, rNum s.data.toList s3 = p := ⟨_, rfl⟩
 obtain ⟨⟨l5, s5⟩, q5⟩ : ∃ p, rList s.data.toList s4 = p := ⟨_, rfl⟩
 obtain ⟨⟨l6, s6⟩, q6⟩ : ∃ p, rList s.data.toList s5 = p := ⟨_, rfl⟩
 obtain ⟨⟨l7, s7⟩, q7⟩ : ∃ p, rRow s.data.toList s6 = p := ⟨_, rfl⟩
 rw [rTask_eq q1 q2 q3 q4 q5 q6 q7] at hq
 have HV : Hid (K = ⟨v1, v2, v3, v4, l5, l6, l7⟩ ∧ st' = s7) := by cases hq; exact ⟨rfl, rfl⟩
 have f1 := rNum_fine hf; rw [q1] at f1
 have f2 := rNum_fine f1; rw [q2] at f2
 have f3 := rNum_fine f2; rw [q3] at f3
 have f4 := rNum_fine f3; rw [q4] at f4
 have f5 := rList_fine f4; rw [q5] at f5
 have f6 := rList_fine f5; rw [q6] at f6
 have C1 := Lib.hid (fun W hW => number_any g s st s1 v1 W hW hs q1)
 have C2 := Lib.hid (fun W hW => number_any g s s1 s2 v2 W hW hs q2)
 have C3 := Lib.hid (fun W hW => number_any g s s2 s3 v3 W hW hs q3)
 have C4 := Lib.hid (fun W hW => number_any g s s3 s4 v4 W hW hs q4)
 have C5 := Lib.hid (fun W hW => list_any g s s4 s5 l5 W hW hs q5)
 have C6 := Lib.hid (fun W hW => list_any g s s5 s6 l6 W hW hs q6)
 have C7 := Lib.hid (fun W hW hN => row_any g s s6 s7 l7 W hW hs f6 hN hg1 q7)
 have hlt := World.rowIs.lt h
 have hN0 := Lib.hid hN
 obtain ⟨o, ho⟩ : ∃ o, o = Obj.cells #[.int .i64 0, .int .i64 0, .int .i64 0, .int .i64 0, .slice none 0 0, .slice none 0 0, .slice none 0 0] 59 := ⟨_, rfl⟩
 have H0 := Lib.hid (h.below (below_alloc w o))
 have K0 := Lib.hid (Kep.of (g := g) (below_alloc w o))
 have S0 : Hid (w.heap.size + 1 ≤ (w.alloc o).heap.size) := by show _ ≤ _; simp
 have B0 := Lib.hid (rowIs_new w #[.int .i64 0, .int .i64 0, .int .i64 0, .int .i64 0, .slice none 0 0, .slice none 0 0, .slice none 0 0] 59 7 rfl)
 rw [← ho] at B0
 subst ho
 clear h hq q1 q2 q3 q4 q5 q6 q7 f1 f2 f3 f4 f5 f6 hf hN
 have hbg : w.heap.size ≠ g := by omega
 have hg2 : g < w.heap.size + 1 := by omega
 go_enter Tryz.func86, Tryz.ntmps86
 go_wp2_with (first
  | (go_at_call 128; refine (C7.out _ H6.out (hN0.out.kep K6.out hg1)).mono ?_; rintro e w7 ⟨a7, n7, c7, rfl, r7, h7, k7⟩; have H7 := Lib.hid h7; have K7 := Lib.hid (K6.out.trans k7); have R5 := Lib.hid (RB.out.kep k7 hg2); have R6 := Lib.hid (RC.out.kep k7 hg2); have R7 := Lib.hid (r7.mono S6.out); have D7 := Lib.hid (rowIs_kep DB.out k7 hbg); have g0 := World.rowIs.cell D7.out (i := 0) (by omega); have g1 := World.rowIs.cell D7.out (i := 1) (by omega); have g2 := World.rowIs.cell D7.out (i := 2) (by omega); have g3 := World.rowIs.cell D7.out (i := 3) (by omega); have g4 := World.rowIs.cell D7.out (i := 4) (by omega); have g5 := World.rowIs.cell D7.out (i := 5) (by omega); have g6 := World.rowIs.cell D7.out (i := 6) (by omega); have z0 := World.rowIs.frozen D7.out 0; have z1 := World.rowIs.frozen D7.out 1; have z2 := World.rowIs.frozen D7.out 2; have z3 := World.rowIs.frozen D7.out 3; have z4 := World.rowIs.frozen D7.out 4; have z5 := World.rowIs.frozen D7.out 5; have z6 := World.rowIs.frozen D7.out 6; clear h7 k7 r7)
  | (go_at_call 84; refine (C6.out _ H5.out).mono ?_; rintro e w6 ⟨a6, n6, c6, rfl, r6, h6, k6⟩; have H6 := Lib.hid h6; have K6 := Lib.hid (K5.out.trans k6); have S6 := Lib.hid (Nat.le_trans S5.out k6.size); have RB := Lib.hid (RA.out.kep k6 hg2); have RC := Lib.hid (r6.mono S5.out); have DB := Lib.hid (rowIs_kep DA.out k6 hbg); clear h6 k6 r6)
  | (go_at_call 84; refine (C5.out _ H4.out).mono ?_; rintro e w5 ⟨a5, n5, c5, rfl, r5, h5, k5⟩; have H5 := Lib.hid h5; have K5 := Lib.hid (K4.out.trans k5); have S5 := Lib.hid (Nat.le_trans S4.out k5.size); have RA := Lib.hid (r5.mono S4.out); have DA := Lib.hid (rowIs_kep D4.out k5 hbg); clear h5 k5 r5)
  | (go_at_call 83; refine (C4.out _ H3.out).mono ?_; rintro e w4 ⟨rfl, h4, k4⟩; have H4 := Lib.hid h4; have K4 := Lib.hid (K3.out.trans k4); have S4 := Lib.hid (Nat.le_trans S3.out k4.size); have D4 := Lib.hid (rowIs_kep D3.out k4 hbg); clear h4 k4)
  | (go_at_call 83; refine (C3.out _ H2.out).mono ?_; rintro e w3 ⟨rfl, h3, k3⟩; have H3 := Lib.hid h3; have K3 := Lib.hid (K2.out.trans k3); have S3 := Lib.hid (Nat.le_trans S2.out k3.size); have D3 := Lib.hid (rowIs_kep D2.out k3 hbg); clear h3 k3)
  | (go_at_call 83; refine (C2.out _ H1.out).mono ?_; rintro e w2 ⟨rfl, h2, k2⟩; have H2 := Lib.hid h2; have K2 := Lib.hid (K1.out.trans k2); have S2 := Lib.hid (Nat.le_trans S1.out k2.size); have D2 := Lib.hid (rowIs_kep D1.out k2 hbg); clear h2 k2)
  | (go_at_call 83; refine (C1.out _ H0.out).mono ?_; rintro e w1 ⟨rfl, h1, k1⟩; have H1 := Lib.hid h1; have K1 := Lib.hid (K0.out.trans k1); have S1 := Lib.hid (Nat.le_trans S0.out k1.size); have D1 := Lib.hid (rowIs_kep B0.out k1 hbg); clear h1 k1))
 have D8 : ((((((((w7.setCell ⟨w.heap.size, 0, none⟩ (.int .i64 v1)).setCell ⟨w.heap.size, 1, none⟩ (.int .i64 v2)).setCell ⟨w.heap.size, 2, none⟩ (.int .i64 v3)).setCell ⟨w.heap.size, 3, none⟩ (.int .i64 v4)).setCell ⟨w.heap.size, 4, none⟩ (.slice a5 n5 c5)).setCell ⟨w.heap.size, 5, none⟩ (.slice a6 n6 c6)).setCell ⟨w.heap.size, 6, none⟩ (.slice a7 n7 c7)).rowIs w.heap.size 59 7 (fun j => (#[.int .i64 v1, .int .i64 v2, .int .i64 v3, .int .i64 v4, .slice a5 n5 c5, .slice a6 n6 c6, .slice a7 n7 c7] : Array Value).getD j undef)) :=
  (((((((D7.out.set 0 _).set 1 _).set 2 _).set 3 _).set 4 _).set 5 _).set 6 _).congr (fun j hj => by
   match j, hj with
   | 0, _ => rfl
   | 1, _ => rfl
   | 2, _ => rfl
   | 3, _ => rfl
   | 4, _ => rfl
   | 5, _ => rfl
   | 6, _ => rfl)
 have K8 : Kep w.heap.size w7 (((((((w7.setCell ⟨w.heap.size, 0, none⟩ (.int .i64 v1)).setCell ⟨w.heap.size, 1, none⟩ (.int .i64 v2)).setCell ⟨w.heap.size, 2, none⟩ (.int .i64 v3)).setCell ⟨w.heap.size, 3, none⟩ (.int .i64 v4)).setCell ⟨w.heap.size, 4, none⟩ (.slice a5 n5 c5)).setCell ⟨w.heap.size, 5, none⟩ (.slice a6 n6 c6)).setCell ⟨w.heap.size, 6, none⟩ (.slice a7 n7 c7)) :=
  ((((((Kep.set _ _ _ _).trans (Kep.set _ _ _ _)).trans (Kep.set _ _ _ _)).trans (Kep.set _ _ _ _)).trans (Kep.set _ _ _ _)).trans (Kep.set _ _ _ _)).trans (Kep.set _ _ _ _)
 clear g0 g1 g2 g3 g4 g5 g6 z0 z1 z2 z3 z4 z5 z6
 generalize (((((((w7.setCell ⟨w.heap.size, 0, none⟩ (.int .i64 v1)).setCell ⟨w.heap.size, 1, none⟩ (.int .i64 v2)).setCell ⟨w.heap.size, 2, none⟩ (.int .i64 v3)).setCell ⟨w.heap.size, 3, none⟩ (.int .i64 v4)).setCell ⟨w.heap.size, 4, none⟩ (.slice a5 n5 c5)).setCell ⟨w.heap.size, 5, none⟩ (.slice a6 n6 c6)).setCell ⟨w.heap.size, 6, none⟩ (.slice a7 n7 c7)) = W8 at D8 K8 ⊢
 have g0 : W8.cell? ⟨w.heap.size, 0, none⟩ = some (.int .i64 v1) := World.rowIs.cell D8 (i := 0) (by omega)
 have g1 : W8.cell? ⟨w.heap.size, 1, none⟩ = some (.int .i64 v2) := World.rowIs.cell D8 (i := 1) (by omega)
 have g2 : W8.cell? ⟨w.heap.size, 2, none⟩ = some (.int .i64 v3) := World.rowIs.cell D8 (i := 2) (by omega)
 have g3 : W8.cell? ⟨w.heap.size, 3, none⟩ = some (.int .i64 v4) := World.rowIs.cell D8 (i := 3) (by omega)
 have g4 : W8.cell? ⟨w.heap.size, 4, none⟩ = some (.slice a5 n5 c5) := World.rowIs.cell D8 (i := 4) (by omega)
 have g5 : W8.cell? ⟨w.heap.size, 5, none⟩ = some (.slice a6 n6 c6) := World.rowIs.cell D8 (i := 5) (by omega)
 have g6 : W8.cell? ⟨w.heap.size, 6, none⟩ = some (.slice a7 n7 c7) := World.rowIs.cell D8 (i := 6) (by omega)
 have HK8 := Lib.hid K8
 clear D8 K8
 refine bodyPost_ret (v := TskV ⟨v1, v2, v3, v4, ⟨a5, n5, c5⟩, ⟨a6, n6, c6⟩, ⟨a7, n7, c7⟩⟩) (by simp [results, Tryz.results86, go_sem, g0, g1, g2, g3, g4, g5, g6, TskV]) rfl ?_
 have hk9 : Kep g w W8 := K7.out.new HK8.out
 have hr9 : Rdr 90 g s s7 W8 := World.rowIs.of_block H7.out (HK8.out.block g (World.rowIs.lt H7.out) (Ne.symm hbg))
 rw [HV.out.1, HV.out.2]
 exact ⟨_, rfl, ⟨rfl, rfl, rfl, rfl, R5.out.kep HK8.out (by omega), R6.out.kep HK8.out (by omega), R7.out.kep HK8.out (by omega)⟩, hr9, hk9⟩
end Go.Proofs.YtngehojibcmieaaGreatDoor
end
