/- What is proved here: contracts of the program's reader of an image's bytes: number, list. Conditions: the bytes are at most a million. -/
import Derived.Test.YtngehojibcmieaaGreatDoorQD1
set_option maxRecDepth 100000
set_option maxHeartbeats 8000000
section
namespace Go.Proofs.YtngehojibcmieaaGreatDoor
open Go.ChangeShapes Go.WideShapes Go.RowKit
theorem number_any (g : Nat) (s : ByteArray) (st st' : Rst) (v : Int) (w : World) (h : Rdr 90 g s st w) (hs : s.size ≤ 1000000) (hq : rNum s.data.toList st = (v, st')) :
  Calls Tryz.prog 83 #[.pointer (some ⟨g, 0, none⟩)] w fun e w' => e = .returned (.int .i64 v) ∧ Rdr 90 g s st' w' ∧ Kep g w w' := by
 have HR := Lib.hid h
 have c2 := h.c2
 unfold rNum at hq
 by_cases he : st.err = 0
 rotate_left
 ·rw [if_neg he] at hq; cases hq
  have d1 : (st.err == 0) = false := beq_eq_false_iff_ne.2 he
  clear h
  go_enter Tryz.func83, Tryz.ntmps83
  go_wp2
  go_ret
  exact ⟨rfl, HR.out, Kep.refl _ _⟩
 rw [if_pos he] at hq
 rw [he] at c2
 obtain ⟨n0, hn0⟩ : ∃ n, Kb.gN s.data.toList st.pos = n := ⟨_, rfl⟩
 obtain ⟨t0, ht0⟩ : ∃ n, Kb.gT s.data.toList st.pos = n := ⟨_, rfl⟩
 obtain ⟨e0, he0⟩ : ∃ n, Kb.gE s.data.toList st.pos = n := ⟨_, rfl⟩
 have CG := Lib.hid (fun W => Kb.get_any s st.pos (by unfold maxLen; omega) W)
 rw [hn0, ht0, he0] at CG hq
 have HV : Hid (n0 = v ∧ (⟨t0, e0⟩ : Rst) = st') := by cases hq; exact ⟨rfl, rfl⟩
 clear h hq hn0 ht0 he0 he
 go_enter Tryz.func83, Tryz.ntmps83
 go_wp2_with fail
 refine region_gh (θ := Unit) 29 22 3 (fun t => ([10, 18, 21] : List Nat).getD t 0) (fun i => ([10, 11, 12, 13, 14, 15, 16, 17, 18, 19, 20, 9, 21, 22, 23, 3, 24, 25, 29, 26, 27, 30] : List Nat).getD i 0) (fun i => ([[], [], [], [2], [3], [4], [], [6], [7], [8], [5, 9], [10], [11], [11], [11], [12], [0], [16], [17, 13, 15, 10], [1], [19], [20, 14, 18]] : List (List Nat)).getD i []) (fun (gs : Unit) i v => ([(fun _ v => v = .pointer (some ⟨g, 0, none⟩)), (fun _ v => v = .pointer (some ⟨g, 0, none⟩)), (fun _ v => v = .pointer (some ⟨g, 0, none⟩)), (fun _ v => v = .pointer (some ⟨g, 0, none⟩)), (fun _ v => v = .pointer (some ⟨g, 0, none⟩)), (fun _ v => v = .string s), (fun _ v => v = .pointer (some ⟨g, 0, none⟩)), (fun _ v => v = .pointer (some ⟨g, 0, none⟩)), (fun _ v => v = .pointer (some ⟨g, 1, none⟩)), (fun _ v => v = .int .i64 st.pos), (fun _ v => v = .tuple #[.int .i64 n0, .int .i64 t0, .int .i64 e0]), (fun _ v => v = .tuple #[.int .i64 n0, .int .i64 t0, .int .i64 e0]), (fun _ v => v = .int .i64 n0), (fun _ v => v = .int .i64 t0), (fun _ v => v = .int .i64 e0), (fun _ v => v = .int .i64 n0), (fun _ v => v = .pointer (some ⟨g, 0, none⟩)), (fun _ v => v = .pointer (some ⟨g, 1, none⟩)), (fun _ _ => True), (fun _ v => v = .pointer (some ⟨g, 0, none⟩)), (fun _ v => v = .pointer (some ⟨g, 2, none⟩)), (fun _ _ => True)] : List (Unit → Value → Prop)).getD i (fun _ _ => False) gs v) (fun j (gs : Unit) W => ([(fun _ W => Rdr 90 g s st W ∧ Kep g w W), (fun _ W => Rdr 90 g s st W ∧ Kep g w W), (fun _ W => Rdr 90 g s ⟨t0, st.err⟩ W ∧ Kep g w W), (fun _ W => Rdr 90 g s ⟨t0, e0⟩ W ∧ Kep g w W)] : List (Unit → World → Prop)).getD j (fun _ _ => False) gs W) () (by kernel_rfl) rfl (fun i j hi hj => (by decide : ∀ i, i < 22 → ∀ j, j < 22 → (fun i => ([10, 11, 12, 13, 14, 15, 16, 17, 18, 19, 20, 9, 21, 22, 23, 3, 24, 25, 29, 26, 27, 30] : List Nat).getD i 0) i = (fun i => ([10, 11, 12, 13, 14, 15, 16, 17, 18, 19, 20, 9, 21, 22, 23, 3, 24, 25, 29, 26, 27, 30] : List Nat).getD i 0) j → i = j) i hi j hj) rfl (fun s t hs ht => (by decide : ∀ s, s < 3 → ∀ t, t < 3 → (fun t => ([10, 18, 21] : List Nat).getD t 0) s = (fun t => ([10, 18, 21] : List Nat).getD t 0) t → s = t) s hs t ht) (by decide) (fun t ht => (by decide : ∀ t, t < 2 → (fun t => ([10, 18, 21] : List Nat).getD t 0) t ∈ (fun i => ([[], [], [], [2], [3], [4], [], [6], [7], [8], [5, 9], [10], [11], [11], [11], [12], [0], [16], [17, 13, 15, 10], [1], [19], [20, 14, 18]] : List (List Nat)).getD i []) ((fun t => ([10, 18, 21] : List Nat).getD t 0) (t + 1))) t (by omega)) ?_ ?_ ⟨HR.out.drew, Kep.of (blw_dr _)⟩ ?_
 ·intro i o ho
  iterate 22 (rcases i with _ | i; (obtain rfl := Option.some.inj ho; first | exact ⟨Or.inl ⟨rfl, by decide⟩, rfl, by decide, by decide⟩ | exact ⟨Or.inr ⟨rfl, by decide, fun _ _ _ h => h⟩, rfl, by decide, by decide⟩))
  simp at ho
 ·intro i o j gs ho a' W hj hS hoth hd hfr
  have oS0 : a'.eval (.tmp 0) = .pointer (some ⟨g, 0, none⟩) := hoth 0 (by decide)
  obtain ⟨ρ, hρ⟩ : ∃ ρ, ρ = a'.eval := ⟨_, rfl⟩
  have hc : ∀ v, ρ (.const v) = v := fun v => by rw [hρ]; rfl
  have hfn : ∀ f, ρ (.func f) = .func (.func f) #[] #[] := fun f => by rw [hρ]; rfl
  have qS0 : ρ (.tmp 0) = .pointer (some ⟨g, 0, none⟩) := by rw [hρ]; exact oS0
  clear hoth
  match i, ho with
  | 0, ho =>
   obtain rfl := Option.some.inj ho
   refine Or.inl ⟨by decide, ?_⟩
   rw [← hρ]
   clear hd hρ
   exact ⟨.pointer (some ⟨g, 0, none⟩), by simp only [execOp]; go_simp, rfl⟩
  | 1, ho =>
   obtain rfl := Option.some.inj ho
   refine Or.inl ⟨by decide, ?_⟩
   rw [← hρ]
   clear hd hρ
   exact ⟨.pointer (some ⟨g, 0, none⟩), by simp only [execOp]; go_simp, rfl⟩
  | 2, ho =>
   obtain rfl := Option.some.inj ho
   refine Or.inl ⟨by decide, ?_⟩
   rw [← hρ]
   clear hd hρ
   exact ⟨.pointer (some ⟨g, 0, none⟩), by simp only [execOp]; go_simp, rfl⟩
  | 3, ho =>
   obtain rfl := Option.some.inj ho
   have e2 : (a'.eval (.tmp 12)) = .pointer (some ⟨g, 0, none⟩) := hd 2 (by decide)
   refine Or.inl ⟨by decide, ?_⟩
   rw [← hρ]
   rw [← hρ] at e2
   clear hd hρ
   exact ⟨.pointer (some ⟨g, 0, none⟩), by simp only [execOp]; go_simp, rfl⟩
  | 4, ho =>
   obtain rfl := Option.some.inj ho
   have e3 : (a'.eval (.tmp 13)) = .pointer (some ⟨g, 0, none⟩) := hd 3 (by decide)
   refine Or.inl ⟨by decide, ?_⟩
   rw [← hρ]
   rw [← hρ] at e3
   clear hd hρ
   exact ⟨.pointer (some ⟨g, 0, none⟩), by simp only [execOp]; go_simp, rfl⟩
  | 5, ho =>
   obtain rfl := Option.some.inj ho
   have e4 : (a'.eval (.tmp 14)) = .pointer (some ⟨g, 0, none⟩) := hd 4 (by decide)
   refine Or.inl ⟨by decide, ?_⟩
   rw [← hρ]
   rw [← hρ] at e4
   clear hd hρ
   have hj0 : j = 0 := by have := hfr 5 0 (by decide) (by decide); omega
   subst hj0
   have hS : (fun _ W => Rdr 90 g s st W ∧ Kep g w W : Unit → World → Prop) gs W := hS
   have c0 := hS.1.c0
   have c1 := hS.1.c1
   exact ⟨.string s, by simp only [execOp]; go_simp, rfl⟩
  | 6, ho =>
   obtain rfl := Option.some.inj ho
   refine Or.inl ⟨by decide, ?_⟩
   rw [← hρ]
   clear hd hρ
   exact ⟨.pointer (some ⟨g, 0, none⟩), by simp only [execOp]; go_simp, rfl⟩
  | 7, ho =>
   obtain rfl := Option.some.inj ho
   have e6 : (a'.eval (.tmp 16)) = .pointer (some ⟨g, 0, none⟩) := hd 6 (by decide)
   refine Or.inl ⟨by decide, ?_⟩
   rw [← hρ]
   rw [← hρ] at e6
   clear hd hρ
   exact ⟨.pointer (some ⟨g, 0, none⟩), by simp only [execOp]; go_simp, rfl⟩
  | 8, ho =>
   obtain rfl := Option.some.inj ho
   have e7 : (a'.eval (.tmp 17)) = .pointer (some ⟨g, 0, none⟩) := hd 7 (by decide)
   refine Or.inl ⟨by decide, ?_⟩
   rw [← hρ]
   rw [← hρ] at e7
   clear hd hρ
   exact ⟨.pointer (some ⟨g, 1, none⟩), by simp only [execOp]; go_simp, rfl⟩
  | 9, ho =>
   obtain rfl := Option.some.inj ho
   have e8 : (a'.eval (.tmp 18)) = .pointer (some ⟨g, 1, none⟩) := hd 8 (by decide)
   refine Or.inl ⟨by decide, ?_⟩
   rw [← hρ]
   rw [← hρ] at e8
   clear hd hρ
   have hj0 : j = 0 := by have := hfr 5 0 (by decide) (by decide); omega
   subst hj0
   have hS : (fun _ W => Rdr 90 g s st W ∧ Kep g w W : Unit → World → Prop) gs W := hS
   have c0 := hS.1.c0
   have c1 := hS.1.c1
   exact ⟨.int .i64 st.pos, by simp only [execOp]; go_simp, rfl⟩
  | 10, ho =>
   obtain rfl := Option.some.inj ho
   have e5 : (a'.eval (.tmp 15)) = .string s := hd 5 (by decide)
   have e9 : (a'.eval (.tmp 19)) = .int .i64 st.pos := hd 9 (by decide)
   refine Or.inr ⟨?_, 0, by decide, rfl⟩
   intro t ht hti htj K hK
   have ht0 : t = 0 := by match t, ht, hti with
    | 0, _, h => rfl
    | 1, _, h => exact absurd h (by decide)
    | 2, _, h => exact absurd h (by decide)
    | k + 3, ht, _ => omega
   subst ht0
   subst htj
   clear hd
   have r5 : (ρ (.tmp 15)) = .string s := by rw [hρ]; exact e5
   have r9 : (ρ (.tmp 19)) = .int .i64 st.pos := by rw [hρ]; exact e9
   have hS : (fun _ W => Rdr 90 g s st W ∧ Kep g w W : Unit → World → Prop) gs W := hS
   refine Kd.Gives.wp (R := fun v' W' => v' = .tuple #[.int .i64 n0, .int .i64 t0, .int .i64 e0] ∧ W' = W) (Kd.Gives.enter (f := 126) (args := #[.string s, .int .i64 st.pos]) (by rw [← hρ]; clear hρ; simp only [execOp]; go_simp) ((CG.out W).mono ?_)) ?_
   ·rintro e w8 ⟨rfl, rfl⟩; exact ⟨_, rfl, rfl, rfl⟩
   ·rintro v' W' ⟨rfl, rfl⟩; exact hK _ _ () rfl (fun _ _ h => h) hS
  | 11, ho =>
   obtain rfl := Option.some.inj ho
   have e10 : (a'.eval (.tmp 20)) = .tuple #[.int .i64 n0, .int .i64 t0, .int .i64 e0] := hd 10 (by decide)
   refine Or.inl ⟨by decide, ?_⟩
   rw [← hρ]
   rw [← hρ] at e10
   clear hd hρ
   exact ⟨.tuple #[.int .i64 n0, .int .i64 t0, .int .i64 e0], by simp only [execOp]; go_simp, rfl⟩
  | 12, ho =>
   obtain rfl := Option.some.inj ho
   have e11 : (a'.eval (.tmp 9)) = .tuple #[.int .i64 n0, .int .i64 t0, .int .i64 e0] := hd 11 (by decide)
   refine Or.inl ⟨by decide, ?_⟩
   rw [← hρ]
   rw [← hρ] at e11
   clear hd hρ
   exact ⟨.int .i64 n0, by simp only [execOp]; go_simp, rfl⟩
  | 13, ho =>
   obtain rfl := Option.some.inj ho
   have e11 : (a'.eval (.tmp 9)) = .tuple #[.int .i64 n0, .int .i64 t0, .int .i64 e0] := hd 11 (by decide)
   refine Or.inl ⟨by decide, ?_⟩
   rw [← hρ]
   rw [← hρ] at e11
   clear hd hρ
   exact ⟨.int .i64 t0, by simp only [execOp]; go_simp, rfl⟩
  | 14, ho =>
   obtain rfl := Option.some.inj ho
   have e11 : (a'.eval (.tmp 9)) = .tuple #[.int .i64 n0, .int .i64 t0, .int .i64 e0] := hd 11 (by decide)
   refine Or.inl ⟨by decide, ?_⟩
   rw [← hρ]
   rw [← hρ] at e11
   clear hd hρ
   exact ⟨.int .i64 e0, by simp only [execOp]; go_simp, rfl⟩
  | 15, ho =>
   obtain rfl := Option.some.inj ho
   have e12 : (a'.eval (.tmp 21)) = .int .i64 n0 := hd 12 (by decide)
   refine Or.inl ⟨by decide, ?_⟩
   rw [← hρ]
   rw [← hρ] at e12
   clear hd hρ
   exact ⟨.int .i64 n0, by simp only [execOp]; go_simp, rfl⟩
  | 16, ho =>
   obtain rfl := Option.some.inj ho
   have e0 : (a'.eval (.tmp 10)) = .pointer (some ⟨g, 0, none⟩) := hd 0 (by decide)
   refine Or.inl ⟨by decide, ?_⟩
   rw [← hρ]
   rw [← hρ] at e0
   clear hd hρ
   exact ⟨.pointer (some ⟨g, 0, none⟩), by simp only [execOp]; go_simp, rfl⟩
  | 17, ho =>
   obtain rfl := Option.some.inj ho
   have e16 : (a'.eval (.tmp 24)) = .pointer (some ⟨g, 0, none⟩) := hd 16 (by decide)
   refine Or.inl ⟨by decide, ?_⟩
   rw [← hρ]
   rw [← hρ] at e16
   clear hd hρ
   exact ⟨.pointer (some ⟨g, 1, none⟩), by simp only [execOp]; go_simp, rfl⟩
  | 18, ho =>
   obtain rfl := Option.some.inj ho
   have e17 : (a'.eval (.tmp 25)) = .pointer (some ⟨g, 1, none⟩) := hd 17 (by decide)
   have e13 : (a'.eval (.tmp 22)) = .int .i64 t0 := hd 13 (by decide)
   have e15 : (a'.eval (.tmp 3)) = .int .i64 n0 := hd 15 (by decide)
   have e10 : (a'.eval (.tmp 20)) = .tuple #[.int .i64 n0, .int .i64 t0, .int .i64 e0] := hd 10 (by decide)
   refine Or.inr ⟨?_, 1, by decide, rfl⟩
   intro t ht hti htj K hK
   have ht0 : t = 1 := by match t, ht, hti with
    | 0, _, h => exact absurd h (by decide)
    | 1, _, h => rfl
    | 2, _, h => exact absurd h (by decide)
    | k + 3, ht, _ => omega
   subst ht0
   subst htj
   clear hd
   have r17 : (ρ (.tmp 25)) = .pointer (some ⟨g, 1, none⟩) := by rw [hρ]; exact e17
   have r13 : (ρ (.tmp 22)) = .int .i64 t0 := by rw [hρ]; exact e13
   have r15 : (ρ (.tmp 3)) = .int .i64 n0 := by rw [hρ]; exact e15
   have r10 : (ρ (.tmp 20)) = .tuple #[.int .i64 n0, .int .i64 t0, .int .i64 e0] := by rw [hρ]; exact e10
   have hS : (fun _ W => Rdr 90 g s st W ∧ Kep g w W : Unit → World → Prop) gs W := hS
   have c1 := hS.1.c1
   have f1 := World.rowIs.frozen hS.1 1
   exact Kd.wp_skip (w' := W.setCell ⟨g, 1, none⟩ (.int .i64 t0)) (by rw [← hρ]; clear hρ; simp only [execOp]; go_simp) (hK _ _ () trivial (fun _ _ h => h) ⟨hS.1.pos t0, hS.2.trans (Kep.set _ _ _ _)⟩)
  | 19, ho =>
   obtain rfl := Option.some.inj ho
   have e1 : (a'.eval (.tmp 11)) = .pointer (some ⟨g, 0, none⟩) := hd 1 (by decide)
   refine Or.inl ⟨by decide, ?_⟩
   rw [← hρ]
   rw [← hρ] at e1
   clear hd hρ
   exact ⟨.pointer (some ⟨g, 0, none⟩), by simp only [execOp]; go_simp, rfl⟩
  | 20, ho =>
   obtain rfl := Option.some.inj ho
   have e19 : (a'.eval (.tmp 26)) = .pointer (some ⟨g, 0, none⟩) := hd 19 (by decide)
   refine Or.inl ⟨by decide, ?_⟩
   rw [← hρ]
   rw [← hρ] at e19
   clear hd hρ
   exact ⟨.pointer (some ⟨g, 2, none⟩), by simp only [execOp]; go_simp, rfl⟩
  | 21, ho =>
   obtain rfl := Option.some.inj ho
   have e20 : (a'.eval (.tmp 27)) = .pointer (some ⟨g, 2, none⟩) := hd 20 (by decide)
   have e14 : (a'.eval (.tmp 23)) = .int .i64 e0 := hd 14 (by decide)
   refine Or.inr ⟨?_, 2, by decide, rfl⟩
   intro t ht hti htj K hK
   have ht0 : t = 2 := by match t, ht, hti with
    | 0, _, h => exact absurd h (by decide)
    | 1, _, h => exact absurd h (by decide)
    | 2, _, h => rfl
    | k + 3, ht, _ => omega
   subst ht0
   subst htj
   clear hd
   have r20 : (ρ (.tmp 27)) = .pointer (some ⟨g, 2, none⟩) := by rw [hρ]; exact e20
   have r14 : (ρ (.tmp 23)) = .int .i64 e0 := by rw [hρ]; exact e14
   have hS : (fun _ W => Rdr 90 g s ⟨t0, st.err⟩ W ∧ Kep g w W : Unit → World → Prop) gs W := hS
   have c2 := hS.1.c2
   have f2 := World.rowIs.frozen hS.1 2
   exact Kd.wp_skip (w' := W.setCell ⟨g, 2, none⟩ (.int .i64 e0)) (by rw [← hρ]; clear hρ; simp only [execOp]; go_simp) (hK _ _ () trivial (fun _ _ h => h) ⟨hS.1.err e0, hS.2.trans (Kep.set _ _ _ _)⟩)
  | k + 22, ho => simp at ho
 ·intro a' W gs hsz hdef hoth hok hS
  have hcov : ∀ i, i < 22 → (fun i => ([10, 11, 12, 13, 14, 15, 16, 17, 18, 19, 20, 9, 21, 22, 23, 3, 24, 25, 29, 26, 27, 30] : List Nat).getD i 0) i < 29 → (9 ≤ (fun i => ([10, 11, 12, 13, 14, 15, 16, 17, 18, 19, 20, 9, 21, 22, 23, 3, 24, 25, 29, 26, 27, 30] : List Nat).getD i 0) i ∧ (fun i => ([10, 11, 12, 13, 14, 15, 16, 17, 18, 19, 20, 9, 21, 22, 23, 3, 24, 25, 29, 26, 27, 30] : List Nat).getD i 0) i < 28) ∨ (fun i => ([10, 11, 12, 13, 14, 15, 16, 17, 18, 19, 20, 9, 21, 22, 23, 3, 24, 25, 29, 26, 27, 30] : List Nat).getD i 0) i = 3 := by decide
  have hv9 : a'.eval (.tmp 3) = .int .i64 n0 := hok 15 (by decide)
  obtain ⟨us, hu1, rfl⟩ := Kd.act_mix1 9 19 3 (.int .i64 n0) rfl hsz hdef (by simp) (by simp) hv9 (by decide) (fun k hkd hk => by
   by_cases hkT : k < 29
   ·exact hoth k (fun i hi e => by have := hcov i hi (Nat.lt_of_le_of_lt (Nat.le_of_eq e) hkT); dsimp only at this e; omega)
   ·rw [eval_far (by rw [hsz]; omega), eval_far (by simp; omega)])
  match us, hu1 with
  | [u9, u10, u11, u12, u13, u14, u15, u16, u17, u18, u19, u20, u21, u22, u23, u24, u25, u26, u27], _ =>
   have HS := Lib.hid hS
   clear hS hok hoth hv9 hcov
   go_wp2
   go_ret
   exact ⟨by rw [HV.out.1]; rfl, by rw [← HV.out.2]; exact HS.out.1, HS.out.2⟩
theorem nums_len {l : List UInt8} : ∀ (k : Nat) (out : List Int) (p : Int), (Kb.nums l k out p).1.length ≤ out.length + k
 | 0, out, p => Nat.le_refl _
 | k + 1, out, p => by
  by_cases he : Kb.gE l p = 0
  ·rw [Kb.nums_ok he]
   have := nums_len (l := l) k (out ++ [Kb.gN l p]) (Kb.gT l p)
   simp only [List.length_append, List.length_cons, List.length_nil] at this
   omega
  ·rw [Kb.nums_err he]; exact Nat.zero_le _
theorem rList_len (l : List UInt8) (st : Rst) : (rList l st).1.length ≤ 16 := by
 unfold rList
 by_cases e : st.err = 0
 ·rw [if_pos e]
  show (Kb.getL l st.pos 16).1.length ≤ 16
  by_cases he : Kb.gE l st.pos = 0
  ·by_cases hn : Kb.gN l st.pos < 0
   ·rw [Kb.getL_form (by omega) he hn]; exact Nat.zero_le _
   ·by_cases hb : 16 < Kb.gN l st.pos
    ·rw [Kb.getL_big (by omega) he (by omega) hb]; exact Nat.zero_le _
    ·rw [Kb.getL_ok (by omega) he (by omega) (by omega)]
     have := nums_len (l := l) (Kb.gN l st.pos).toNat [] (Kb.gT l st.pos)
     simp only [List.length_nil] at this
     omega
  ·rw [Kb.getL_err (by omega) he]; exact Nat.zero_le _
 ·rw [if_neg e]; exact Nat.zero_le _
theorem list_any (g : Nat) (s : ByteArray) (st st' : Rst) (l : List Int) (w : World) (h : Rdr 90 g s st w) (hs : s.size ≤ 1000000) (hq : rList s.data.toList st = (l, st')) :
  Calls Tryz.prog 84 #[.pointer (some ⟨g, 0, none⟩)] w fun e w' => ∃ a n c, e = .returned (.slice a n c) ∧ RowA w.heap.size w' a n l ∧ Rdr 90 g s st' w' ∧ Kep g w w' := by
 have HR := Lib.hid h
 have hgl := World.rowIs.lt h
 have c2 := h.c2
 unfold rList at hq
 by_cases he : st.err = 0
 rotate_left
 ·rw [if_neg he] at hq; cases hq
  have d1 : (st.err == 0) = false := beq_eq_false_iff_ne.2 he
  clear h
  go_enter Tryz.func84, Tryz.ntmps84
  go_wp2
  go_ret
  exact ⟨none, 0, 0, rfl, ⟨⟨rfl, fun h => absurd h (by omega)⟩, fun _ h => by cases h⟩, HR.out, Kep.refl _ _⟩
 rw [if_pos he] at hq
 rw [he] at c2
 have CG := Lib.hid (fun W => Kb.getList_any s st.pos 16 W hs)
 unfold Kb.GotL at CG
 obtain ⟨l0, hl0⟩ : ∃ n, (Kb.getL s.data.toList st.pos 16).1 = n := ⟨_, rfl⟩
 obtain ⟨t0, ht0⟩ : ∃ n, (Kb.getL s.data.toList st.pos 16).2.1 = n := ⟨_, rfl⟩
 obtain ⟨e0, he0⟩ : ∃ n, (Kb.getL s.data.toList st.pos 16).2.2 = n := ⟨_, rfl⟩
 rw [hl0, ht0, he0] at CG hq
 have HV : Hid (l0 = l ∧ (⟨t0, e0⟩ : Rst) = st') := by cases hq; exact ⟨rfl, rfl⟩
 clear h hq hl0 ht0 he0 he
 go_enter Tryz.func84, Tryz.ntmps84
 go_wp2_with fail
 refine region_gh (θ := Option Sl) 29 22 3 (fun t => ([10, 18, 21] : List Nat).getD t 0) (fun i => ([10, 11, 12, 13, 14, 15, 16, 17, 18, 19, 20, 9, 21, 22, 23, 3, 24, 25, 29, 26, 27, 30] : List Nat).getD i 0) (fun i => ([[], [], [], [2], [3], [4], [], [6], [7], [8], [5, 9], [10], [11], [11], [11], [12], [0], [16], [17, 13, 15, 10], [1], [19], [20, 14, 18]] : List (List Nat)).getD i []) (fun (gs : Option Sl) i v => ([(fun _ v => v = .pointer (some ⟨g, 0, none⟩)), (fun _ v => v = .pointer (some ⟨g, 0, none⟩)), (fun _ v => v = .pointer (some ⟨g, 0, none⟩)), (fun _ v => v = .pointer (some ⟨g, 0, none⟩)), (fun _ v => v = .pointer (some ⟨g, 0, none⟩)), (fun _ v => v = .string s), (fun _ v => v = .pointer (some ⟨g, 0, none⟩)), (fun _ v => v = .pointer (some ⟨g, 0, none⟩)), (fun _ v => v = .pointer (some ⟨g, 1, none⟩)), (fun _ v => v = .int .i64 st.pos), (fun gs v => ∃ t : Sl, gs = some t ∧ v = .tuple #[.slice t.a t.n t.c, .int .i64 t0, .int .i64 e0]), (fun gs v => ∃ t : Sl, gs = some t ∧ v = .tuple #[.slice t.a t.n t.c, .int .i64 t0, .int .i64 e0]), (fun gs v => ∃ t : Sl, gs = some t ∧ v = .slice t.a t.n t.c), (fun _ v => v = .int .i64 t0), (fun _ v => v = .int .i64 e0), (fun gs v => ∃ t : Sl, gs = some t ∧ v = .slice t.a t.n t.c), (fun _ v => v = .pointer (some ⟨g, 0, none⟩)), (fun _ v => v = .pointer (some ⟨g, 1, none⟩)), (fun _ _ => True), (fun _ v => v = .pointer (some ⟨g, 0, none⟩)), (fun _ v => v = .pointer (some ⟨g, 2, none⟩)), (fun _ _ => True)] : List (Option Sl → Value → Prop)).getD i (fun _ _ => False) gs v) (fun j (gs : Option Sl) W => ([(fun gs W => gs = none ∧ Rdr 90 g s st W ∧ Kep g w W), (fun gs W => Rdr 90 g s st W ∧ Kep g w W ∧ ∃ t : Sl, gs = some t ∧ RowA w.heap.size W t.a t.n l0), (fun gs W => Rdr 90 g s ⟨t0, st.err⟩ W ∧ Kep g w W ∧ ∃ t : Sl, gs = some t ∧ RowA w.heap.size W t.a t.n l0), (fun gs W => Rdr 90 g s ⟨t0, e0⟩ W ∧ Kep g w W ∧ ∃ t : Sl, gs = some t ∧ RowA w.heap.size W t.a t.n l0)] : List (Option Sl → World → Prop)).getD j (fun _ _ => False) gs W) none (by kernel_rfl) rfl (fun i j hi hj => (by decide : ∀ i, i < 22 → ∀ j, j < 22 → (fun i => ([10, 11, 12, 13, 14, 15, 16, 17, 18, 19, 20, 9, 21, 22, 23, 3, 24, 25, 29, 26, 27, 30] : List Nat).getD i 0) i = (fun i => ([10, 11, 12, 13, 14, 15, 16, 17, 18, 19, 20, 9, 21, 22, 23, 3, 24, 25, 29, 26, 27, 30] : List Nat).getD i 0) j → i = j) i hi j hj) rfl (fun s t hs ht => (by decide : ∀ s, s < 3 → ∀ t, t < 3 → (fun t => ([10, 18, 21] : List Nat).getD t 0) s = (fun t => ([10, 18, 21] : List Nat).getD t 0) t → s = t) s hs t ht) (by decide) (fun t ht => (by decide : ∀ t, t < 2 → (fun t => ([10, 18, 21] : List Nat).getD t 0) t ∈ (fun i => ([[], [], [], [2], [3], [4], [], [6], [7], [8], [5, 9], [10], [11], [11], [11], [12], [0], [16], [17, 13, 15, 10], [1], [19], [20, 14, 18]] : List (List Nat)).getD i []) ((fun t => ([10, 18, 21] : List Nat).getD t 0) (t + 1))) t (by omega)) ?_ ?_ ⟨rfl, HR.out.drew, Kep.of (blw_dr _)⟩ ?_
 ·intro i o ho
  iterate 22 (rcases i with _ | i; (obtain rfl := Option.some.inj ho; first | exact ⟨Or.inl ⟨rfl, by decide⟩, rfl, by decide, by decide⟩ | exact ⟨Or.inr ⟨rfl, by decide, fun _ _ _ h => h⟩, rfl, by decide, by decide⟩))
  simp at ho
 ·intro i o j gs ho a' W hj hS hoth hd hfr
  have oS0 : a'.eval (.tmp 0) = .pointer (some ⟨g, 0, none⟩) := hoth 0 (by decide)
  obtain ⟨ρ, hρ⟩ : ∃ ρ, ρ = a'.eval := ⟨_, rfl⟩
  have hc : ∀ v, ρ (.const v) = v := fun v => by rw [hρ]; rfl
  have hfn : ∀ f, ρ (.func f) = .func (.func f) #[] #[] := fun f => by rw [hρ]; rfl
  have qS0 : ρ (.tmp 0) = .pointer (some ⟨g, 0, none⟩) := by rw [hρ]; exact oS0
  clear hoth
  match i, ho with
  | 0, ho =>
   obtain rfl := Option.some.inj ho
   refine Or.inl ⟨by decide, ?_⟩
   rw [← hρ]
   clear hd hρ
   exact ⟨.pointer (some ⟨g, 0, none⟩), by simp only [execOp]; go_simp, rfl⟩
  | 1, ho =>
   obtain rfl := Option.some.inj ho
   refine Or.inl ⟨by decide, ?_⟩
   rw [← hρ]
   clear hd hρ
   exact ⟨.pointer (some ⟨g, 0, none⟩), by simp only [execOp]; go_simp, rfl⟩
  | 2, ho =>
   obtain rfl := Option.some.inj ho
   refine Or.inl ⟨by decide, ?_⟩
   rw [← hρ]
   clear hd hρ
   exact ⟨.pointer (some ⟨g, 0, none⟩), by simp only [execOp]; go_simp, rfl⟩
  | 3, ho =>
   obtain rfl := Option.some.inj ho
   have e2 : (a'.eval (.tmp 12)) = .pointer (some ⟨g, 0, none⟩) := hd 2 (by decide)
   refine Or.inl ⟨by decide, ?_⟩
   rw [← hρ]
   rw [← hρ] at e2
   clear hd hρ
   exact ⟨.pointer (some ⟨g, 0, none⟩), by simp only [execOp]; go_simp, rfl⟩
  | 4, ho =>
   obtain rfl := Option.some.inj ho
   have e3 : (a'.eval (.tmp 13)) = .pointer (some ⟨g, 0, none⟩) := hd 3 (by decide)
   refine Or.inl ⟨by decide, ?_⟩
   rw [← hρ]
   rw [← hρ] at e3
   clear hd hρ
   exact ⟨.pointer (some ⟨g, 0, none⟩), by simp only [execOp]; go_simp, rfl⟩
  | 5, ho =>
   obtain rfl := Option.some.inj ho
   have e4 : (a'.eval (.tmp 14)) = .pointer (some ⟨g, 0, none⟩) := hd 4 (by decide)
   refine Or.inl ⟨by decide, ?_⟩
   rw [← hρ]
   rw [← hρ] at e4
   clear hd hρ
   have hj0 : j = 0 := by have := hfr 5 0 (by decide) (by decide); omega
   subst hj0
   have hS : (fun gs W => gs = none ∧ Rdr 90 g s st W ∧ Kep g w W : Option Sl → World → Prop) gs W := hS
   have c0 := hS.2.1.c0
   have c1 := hS.2.1.c1
   exact ⟨.string s, by simp only [execOp]; go_simp, rfl⟩
  | 6, ho =>
   obtain rfl := Option.some.inj ho
   refine Or.inl ⟨by decide, ?_⟩
   rw [← hρ]
   clear hd hρ
   exact ⟨.pointer (some ⟨g, 0, none⟩), by simp only [execOp]; go_simp, rfl⟩
  | 7, ho =>
   obtain rfl := Option.some.inj ho
   have e6 : (a'.eval (.tmp 16)) = .pointer (some ⟨g, 0, none⟩) := hd 6 (by decide)
   refine Or.inl ⟨by decide, ?_⟩
   rw [← hρ]
   rw [← hρ] at e6
   clear hd hρ
   exact ⟨.pointer (some ⟨g, 0, none⟩), by simp only [execOp]; go_simp, rfl⟩
  | 8, ho =>
   obtain rfl := Option.some.inj ho
   have e7 : (a'.eval (.tmp 17)) = .pointer (some ⟨g, 0, none⟩) := hd 7 (by decide)
   refine Or.inl ⟨by decide, ?_⟩
   rw [← hρ]
   rw [← hρ] at e7
   clear hd hρ
   exact ⟨.pointer (some ⟨g, 1, none⟩), by simp only [execOp]; go_simp, rfl⟩
  | 9, ho =>
   obtain rfl := Option.some.inj ho
   have e8 : (a'.eval (.tmp 18)) = .pointer (some ⟨g, 1, none⟩) := hd 8 (by decide)
   refine Or.inl ⟨by decide, ?_⟩
   rw [← hρ]
   rw [← hρ] at e8
   clear hd hρ
   have hj0 : j = 0 := by have := hfr 5 0 (by decide) (by decide); omega
   subst hj0
   have hS : (fun gs W => gs = none ∧ Rdr 90 g s st W ∧ Kep g w W : Option Sl → World → Prop) gs W := hS
   have c0 := hS.2.1.c0
   have c1 := hS.2.1.c1
   exact ⟨.int .i64 st.pos, by simp only [execOp]; go_simp, rfl⟩
  | 10, ho =>
   obtain rfl := Option.some.inj ho
   have e5 : (a'.eval (.tmp 15)) = .string s := hd 5 (by decide)
   have e9 : (a'.eval (.tmp 19)) = .int .i64 st.pos := hd 9 (by decide)
   refine Or.inr ⟨?_, 0, by decide, rfl⟩
   intro t ht hti htj K hK
   have ht0 : t = 0 := by match t, ht, hti with
    | 0, _, h => rfl
    | 1, _, h => exact absurd h (by decide)
    | 2, _, h => exact absurd h (by decide)
    | k + 3, ht, _ => omega
   subst ht0
   subst htj
   clear hd
   have r5 : (ρ (.tmp 15)) = .string s := by rw [hρ]; exact e5
   have r9 : (ρ (.tmp 19)) = .int .i64 st.pos := by rw [hρ]; exact e9
   have hS : (fun gs W => gs = none ∧ Rdr 90 g s st W ∧ Kep g w W : Option Sl → World → Prop) gs W := hS
   refine Kd.Gives.wp (R := fun v' W' => ∃ t : Sl, v' = .tuple #[.slice t.a t.n t.c, .int .i64 t0, .int .i64 e0] ∧ Row W' t.a t.n l0 ∧ Below W.heap.size W W' ∧ ∀ ad, t.a = some ad → W.heap.size ≤ ad.block) (Kd.Gives.enter (f := 127) (args := #[.string s, .int .i64 st.pos, .int .i64 16]) (by rw [← hρ]; clear hρ; simp only [execOp]; go_simp) ((CG.out W).mono ?_)) ?_
   ·rintro e w8 ⟨a, n, c, rfl, h1, h2, h3⟩; exact ⟨_, rfl, ⟨a, n, c⟩, rfl, h1, h2, h3⟩
   ·rintro v' W' ⟨t, rfl, h1, h2, h3⟩
    exact hK _ _ (some t) ⟨t, rfl, rfl⟩ (by
     intro k v hk
     have hg0 : gs = none := hS.1
     subst hg0
     match k, hk with
     | 0, hk => exact hk
     | 1, hk => exact hk
     | 2, hk => exact hk
     | 3, hk => exact hk
     | 4, hk => exact hk
     | 5, hk => exact hk
     | 6, hk => exact hk
     | 7, hk => exact hk
     | 8, hk => exact hk
     | 9, hk => exact hk
     | 10, hk => obtain ⟨_, e, _⟩ := hk; cases e
     | 11, hk => obtain ⟨_, e, _⟩ := hk; cases e
     | 12, hk => obtain ⟨_, e, _⟩ := hk; cases e
     | 13, hk => exact hk
     | 14, hk => exact hk
     | 15, hk => obtain ⟨_, e, _⟩ := hk; cases e
     | 16, hk => exact hk
     | 17, hk => exact hk
     | 18, hk => exact hk
     | 19, hk => exact hk
     | 20, hk => exact hk
     | 21, hk => exact hk
     | k + 22, hk => exact hk) ⟨hS.2.1.below h2, hS.2.2.trans (Kep.of h2), t, rfl, h1, fun ad e => Nat.le_trans hS.2.2.size (h3 ad e)⟩
  | 11, ho =>
   obtain rfl := Option.some.inj ho
   have e10 : ∃ t : Sl, gs = some t ∧ (a'.eval (.tmp 20)) = .tuple #[.slice t.a t.n t.c, .int .i64 t0, .int .i64 e0] := hd 10 (by decide)
   refine Or.inl ⟨by decide, ?_⟩
   rw [← hρ]
   rw [← hρ] at e10
   clear hd hρ
   obtain ⟨t, ht, r⟩ := e10
   exact ⟨.tuple #[.slice t.a t.n t.c, .int .i64 t0, .int .i64 e0], by simp only [execOp]; go_simp, t, ht, rfl⟩
  | 12, ho =>
   obtain rfl := Option.some.inj ho
   have e11 : ∃ t : Sl, gs = some t ∧ (a'.eval (.tmp 9)) = .tuple #[.slice t.a t.n t.c, .int .i64 t0, .int .i64 e0] := hd 11 (by decide)
   refine Or.inl ⟨by decide, ?_⟩
   rw [← hρ]
   rw [← hρ] at e11
   clear hd hρ
   obtain ⟨t, ht, r⟩ := e11
   exact ⟨.slice t.a t.n t.c, by simp only [execOp]; go_simp, t, ht, rfl⟩
  | 13, ho =>
   obtain rfl := Option.some.inj ho
   have e11 : ∃ t : Sl, gs = some t ∧ (a'.eval (.tmp 9)) = .tuple #[.slice t.a t.n t.c, .int .i64 t0, .int .i64 e0] := hd 11 (by decide)
   refine Or.inl ⟨by decide, ?_⟩
   rw [← hρ]
   rw [← hρ] at e11
   clear hd hρ
   obtain ⟨t, ht, r⟩ := e11
   exact ⟨.int .i64 t0, by simp only [execOp]; go_simp, rfl⟩
  | 14, ho =>
   obtain rfl := Option.some.inj ho
   have e11 : ∃ t : Sl, gs = some t ∧ (a'.eval (.tmp 9)) = .tuple #[.slice t.a t.n t.c, .int .i64 t0, .int .i64 e0] := hd 11 (by decide)
   refine Or.inl ⟨by decide, ?_⟩
   rw [← hρ]
   rw [← hρ] at e11
   clear hd hρ
   obtain ⟨t, ht, r⟩ := e11
   exact ⟨.int .i64 e0, by simp only [execOp]; go_simp, rfl⟩
  | 15, ho =>
   obtain rfl := Option.some.inj ho
   have e12 : ∃ t : Sl, gs = some t ∧ (a'.eval (.tmp 21)) = .slice t.a t.n t.c := hd 12 (by decide)
   refine Or.inl ⟨by decide, ?_⟩
   rw [← hρ]
   rw [← hρ] at e12
   clear hd hρ
   obtain ⟨t, ht, r⟩ := e12
   exact ⟨.slice t.a t.n t.c, by simp only [execOp]; go_simp, t, ht, rfl⟩
  | 16, ho =>
   obtain rfl := Option.some.inj ho
   have e0 : (a'.eval (.tmp 10)) = .pointer (some ⟨g, 0, none⟩) := hd 0 (by decide)
   refine Or.inl ⟨by decide, ?_⟩
   rw [← hρ]
   rw [← hρ] at e0
   clear hd hρ
   exact ⟨.pointer (some ⟨g, 0, none⟩), by simp only [execOp]; go_simp, rfl⟩
  | 17, ho =>
   obtain rfl := Option.some.inj ho
   have e16 : (a'.eval (.tmp 24)) = .pointer (some ⟨g, 0, none⟩) := hd 16 (by decide)
   refine Or.inl ⟨by decide, ?_⟩
   rw [← hρ]
   rw [← hρ] at e16
   clear hd hρ
   exact ⟨.pointer (some ⟨g, 1, none⟩), by simp only [execOp]; go_simp, rfl⟩
  | 18, ho =>
   obtain rfl := Option.some.inj ho
   have e17 : (a'.eval (.tmp 25)) = .pointer (some ⟨g, 1, none⟩) := hd 17 (by decide)
   have e13 : (a'.eval (.tmp 22)) = .int .i64 t0 := hd 13 (by decide)
   have e15 : ∃ t : Sl, gs = some t ∧ (a'.eval (.tmp 3)) = .slice t.a t.n t.c := hd 15 (by decide)
   have e10 : ∃ t : Sl, gs = some t ∧ (a'.eval (.tmp 20)) = .tuple #[.slice t.a t.n t.c, .int .i64 t0, .int .i64 e0] := hd 10 (by decide)
   refine Or.inr ⟨?_, 1, by decide, rfl⟩
   intro t ht hti htj K hK
   have ht0 : t = 1 := by match t, ht, hti with
    | 0, _, h => exact absurd h (by decide)
    | 1, _, h => rfl
    | 2, _, h => exact absurd h (by decide)
    | k + 3, ht, _ => omega
   subst ht0
   subst htj
   clear hd
   have r17 : (ρ (.tmp 25)) = .pointer (some ⟨g, 1, none⟩) := by rw [hρ]; exact e17
   have r13 : (ρ (.tmp 22)) = .int .i64 t0 := by rw [hρ]; exact e13
   have r15 : ∃ t : Sl, gs = some t ∧ (ρ (.tmp 3)) = .slice t.a t.n t.c := by rw [hρ]; exact e15
   have r10 : ∃ t : Sl, gs = some t ∧ (ρ (.tmp 20)) = .tuple #[.slice t.a t.n t.c, .int .i64 t0, .int .i64 e0] := by rw [hρ]; exact e10
   have hS : (fun gs W => Rdr 90 g s st W ∧ Kep g w W ∧ ∃ t : Sl, gs = some t ∧ RowA w.heap.size W t.a t.n l0 : Option Sl → World → Prop) gs W := hS
   obtain ⟨h1, h2, t, ht, h3⟩ := hS
   have c1 := h1.c1
   have f1 := World.rowIs.frozen h1 1
   exact Kd.wp_skip (w' := W.setCell ⟨g, 1, none⟩ (.int .i64 t0)) (by rw [← hρ]; clear hρ; simp only [execOp]; go_simp) (hK _ _ gs trivial (fun _ _ h => h) ⟨h1.pos t0, h2.trans (Kep.set _ _ _ _), t, ht, h3.kep (Kep.set _ _ _ _) hgl⟩)
  | 19, ho =>
   obtain rfl := Option.some.inj ho
   have e1 : (a'.eval (.tmp 11)) = .pointer (some ⟨g, 0, none⟩) := hd 1 (by decide)
   refine Or.inl ⟨by decide, ?_⟩
   rw [← hρ]
   rw [← hρ] at e1
   clear hd hρ
   exact ⟨.pointer (some ⟨g, 0, none⟩), by simp only [execOp]; go_simp, rfl⟩
  | 20, ho =>
   obtain rfl := Option.some.inj ho
   have e19 : (a'.eval (.tmp 26)) = .pointer (some ⟨g, 0, none⟩) := hd 19 (by decide)
   refine Or.inl ⟨by decide, ?_⟩
   rw [← hρ]
   rw [← hρ] at e19
   clear hd hρ
   exact ⟨.pointer (some ⟨g, 2, none⟩), by simp only [execOp]; go_simp, rfl⟩
  | 21, ho =>
   obtain rfl := Option.some.inj ho
   have e20 : (a'.eval (.tmp 27)) = .pointer (some ⟨g, 2, none⟩) := hd 20 (by decide)
   have e14 : (a'.eval (.tmp 23)) = .int .i64 e0 := hd 14 (by decide)
   refine Or.inr ⟨?_, 2, by decide, rfl⟩
   intro t ht hti htj K hK
   have ht0 : t = 2 := by match t, ht, hti with
    | 0, _, h => exact absurd h (by decide)
    | 1, _, h => exact absurd h (by decide)
    | 2, _, h => rfl
    | k + 3, ht, _ => omega
   subst ht0
   subst htj
   clear hd
   have r20 : (ρ (.tmp 27)) = .pointer (some ⟨g, 2, none⟩) := by rw [hρ]; exact e20
   have r14 : (ρ (.tmp 23)) = .int .i64 e0 := by rw [hρ]; exact e14
   have hS : (fun gs W => Rdr 90 g s ⟨t0, st.err⟩ W ∧ Kep g w W ∧ ∃ t : Sl, gs = some t ∧ RowA w.heap.size W t.a t.n l0 : Option Sl → World → Prop) gs W := hS
   obtain ⟨h1, h2, t, ht, h3⟩ := hS
   have c2 := h1.c2
   have f2 := World.rowIs.frozen h1 2
   exact Kd.wp_skip (w' := W.setCell ⟨g, 2, none⟩ (.int .i64 e0)) (by rw [← hρ]; clear hρ; simp only [execOp]; go_simp) (hK _ _ gs trivial (fun _ _ h => h) ⟨h1.err e0, h2.trans (Kep.set _ _ _ _), t, ht, h3.kep (Kep.set _ _ _ _) hgl⟩)
  | k + 22, ho => simp at ho
 ·intro a' W gs hsz hdef hoth hok hS
  have hcov : ∀ i, i < 22 → (fun i => ([10, 11, 12, 13, 14, 15, 16, 17, 18, 19, 20, 9, 21, 22, 23, 3, 24, 25, 29, 26, 27, 30] : List Nat).getD i 0) i < 29 → (9 ≤ (fun i => ([10, 11, 12, 13, 14, 15, 16, 17, 18, 19, 20, 9, 21, 22, 23, 3, 24, 25, 29, 26, 27, 30] : List Nat).getD i 0) i ∧ (fun i => ([10, 11, 12, 13, 14, 15, 16, 17, 18, 19, 20, 9, 21, 22, 23, 3, 24, 25, 29, 26, 27, 30] : List Nat).getD i 0) i < 28) ∨ (fun i => ([10, 11, 12, 13, 14, 15, 16, 17, 18, 19, 20, 9, 21, 22, 23, 3, 24, 25, 29, 26, 27, 30] : List Nat).getD i 0) i = 3 := by decide
  obtain ⟨t, ht, hv9⟩ : ∃ t : Sl, gs = some t ∧ a'.eval (.tmp 3) = .slice t.a t.n t.c := hok 15 (by decide)
  have hS : Rdr 90 g s ⟨t0, e0⟩ W ∧ Kep g w W ∧ RowA w.heap.size W t.a t.n l0 := by
   obtain ⟨h1, h2, t', ht', h3⟩ := hS
   rw [ht] at ht'
   cases ht'
   exact ⟨h1, h2, h3⟩
  obtain ⟨us, hu1, rfl⟩ := Kd.act_mix1 9 19 3 (.slice t.a t.n t.c) rfl hsz hdef (by simp) (by simp) hv9 (by decide) (fun k hkd hk => by
   by_cases hkT : k < 29
   ·exact hoth k (fun i hi e => by have := hcov i hi (Nat.lt_of_le_of_lt (Nat.le_of_eq e) hkT); dsimp only at this e; omega)
   ·rw [eval_far (by rw [hsz]; omega), eval_far (by simp; omega)])
  match us, hu1 with
  | [u9, u10, u11, u12, u13, u14, u15, u16, u17, u18, u19, u20, u21, u22, u23, u24, u25, u26, u27], _ =>
   have HS := Lib.hid hS
   clear hS hok hoth hv9 hcov ht
   go_wp2
   go_ret
   exact ⟨_, _, ⟨_, rfl⟩, by rw [← HV.out.1]; exact HS.out.2.2, by rw [← HV.out.2]; exact HS.out.1, HS.out.2.1⟩
end Go.Proofs.YtngehojibcmieaaGreatDoor
end
