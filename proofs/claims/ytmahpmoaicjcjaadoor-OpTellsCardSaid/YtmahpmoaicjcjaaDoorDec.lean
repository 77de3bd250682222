/- What is proved here: contracts of op.withNumbers and op.Decode. Conditions: the string has at most a million bytes; the tables of names hold what their initialisers lay ('Nms'). -/
import Derived.Test.YtmahpmoaicjcjaaDoorEnc
namespace Go.Proofs.YtmahpmoaicjcjaaDoor
open Go.ChangeShapes Go.WideShapes Go.RowKit

/-- An instruction as a value. -/
def insV (i : Int × Int × Int) : Value := .agg #[.int .i64 i.1, .int .i64 i.2.1, .int .i64 i.2.2]
/-- What withNumbers and Decode leave. -/
def Got (r : (Int × Int × Int) × Int × Int) (w : World) (e : Ending) (w' : World) : Prop :=
  e = .returned (.tuple #[.agg #[.int .i64 r.1.1, .int .i64 r.1.2.1, .int .i64 r.1.2.2], .int .i64 r.2.1, .int .i64 r.2.2]) ∧ Below w.heap.size w w'
/-- What is there behind k numbers. -/
def Stg (l : List UInt8) (p : Int) (k : Nat) (x y q : Int) : Prop :=
  match k with
  | 0 => x = 0 ∧ y = 0 ∧ q = p
  | 1 => gE l p = 0 ∧ x = gN l p ∧ y = 0 ∧ q = gT l p
  | _ => gE l p = 0 ∧ gE l (gT l p) = 0 ∧ x = gN l p ∧ y = gN l (gT l p) ∧ q = gT l (gT l p)
theorem stg_next {l : List UInt8} {p : Int} {k : Nat} {x y q : Int} (hk : k = 0) (h : Stg l p k x y q) (he : gE l q = 0) : Stg l p 1 (gN l q) y (gT l q) := by
  subst hk; obtain ⟨_, h2, h3⟩ := h; subst h3; exact ⟨he, rfl, h2, rfl⟩
theorem stg_next2 {l : List UInt8} {p : Int} {k : Nat} {x y q : Int} (hk : k = 1) (h : Stg l p k x y q) (he : gE l q = 0) : Stg l p 2 x (gN l q) (gT l q) := by
  subst hk; obtain ⟨h1, h2, _, h4⟩ := h; subst h4; exact ⟨h1, he, h2, rfl, rfl⟩
theorem stg_err {l : List UInt8} {o p : Int} {k : Nat} {x y q : Int} (hk : k < nargs o) (h : Stg l p k x y q) (he : gE l q ≠ 0) : wn l o p = ((0, 0, 0), 0, gE l q) := by
  have hn := nargs_le o
  rcases (show k = 0 ∨ (k = 1 ∧ nargs o = 2) by omega) with rfl | ⟨rfl, h2⟩
  · obtain ⟨_, _, h3⟩ := h; subst h3; exact wn_err (by omega) he
  · obtain ⟨h1, _, _, h4⟩ := h; subst h4; exact wn_err2 h2 h1 he
theorem stg_end {l : List UInt8} {o p : Int} {k : Nat} {x y q : Int} (hk : k = nargs o) (h : Stg l p k x y q) : wn l o p = ((o, x, y), q, 0) := by
  rcases nargs_012 o with hn | hn | hn
  · rw [hn] at hk; subst hk
    obtain ⟨h1, h2, h3⟩ := h; subst h1 h2 h3; exact wn_none hn
  · rw [hn] at hk; subst hk
    obtain ⟨h1, h2, h3, h4⟩ := h; subst h2 h3 h4; exact wn_one hn h1
  · rw [hn] at hk; subst hk
    obtain ⟨h1, h2, h3, h4, h5⟩ := h; subst h3 h4 h5; exact wn_two hn h1 h2
theorem build_none (w : World) : (Instr.build 23 #[]).run Tryd.prog w = .ok (.agg #[.int .i64 0, .int .i64 0, .int .i64 0]) w := run_build w 23 _ _ (by kernel_rfl)
theorem build_ins (o a b : Int) (w : World) : (Instr.build 23 #[(0, .int .i64 o), (1, .int .i64 a), (2, .int .i64 b)]).run Tryd.prog w = .ok (.agg #[.int .i64 o, .int .i64 a, .int .i64 b]) w := run_build w 23 _ _ (by kernel_rfl)

set_option maxHeartbeats 2000000 in
set_option maxRecDepth 100000 in
theorem with_any (s : ByteArray) (o p : Int) (hs : s.size ≤ 1000000) (hko : 1 ≤ o ∧ o ≤ 25) (w : World) :
    Calls Tryd.prog 32 #[.int .i64 o, .string s, .int .i64 p] w (Got (wn s.data.toList o p) w) := by
  have hsm : s.size ≤ maxLen := by unfold maxLen; omega
  have ca := fun W => args_any o W
  have hna : argsOf o = (nargs o : Int) := by unfold argsOf; rw [if_pos (kn_iff.2 hko)]
  have hnl := nargs_le o
  obtain ⟨n, hnn⟩ : ∃ n, n = nargs o := ⟨_, rfl⟩
  rw [hna, ← hnn] at ca
  rw [← hnn] at hnl
  have HN := Lib.hid hnn
  have CA := Lib.hid ca
  clear hna hnn ca hko
  go_enter Tryd.func32, Tryd.ntmps32
  go_wp2_with (go_at_call 16; refine (CA.out _).mono ?_; rintro e w' ⟨rfl, rfl⟩)
  go_loopw [2, 16] (fun t i wr => ∃ (k : Nat) (x y q : Int), k ≤ n ∧ i = .int .i64 k ∧ t = .int .i64 q ∧ wr = (w.alloc (.cells #[.int .i64 0, .int .i64 0, .int .i64 0] 23)).alloc (.cells #[.int .i64 x, .int .i64 y] 46) ∧ Hid (Stg s.data.toList p k x y q))
    (fun _ i _ => n - (intOf i).toNat)
  case atStart => exact ⟨0, 0, 0, p, by omega, rfl, rfl, rfl, ⟨rfl, rfl, rfl⟩⟩
  case round =>
    obtain ⟨k, x, y, q, hk, rfl, rfl, rfl, HS⟩ := hrel
    by_cases hlt : k < n
    · have cG := get_any s q hsm
      obtain ⟨N, hN⟩ : ∃ N, N = gN s.data.toList q := ⟨_, rfl⟩
      obtain ⟨T, hT⟩ : ∃ T, T = gT s.data.toList q := ⟨_, rfl⟩
      obtain ⟨E, hE⟩ : ∃ E, E = gE s.data.toList q := ⟨_, rfl⟩
      rw [← hN, ← hT, ← hE] at cG
      by_cases he : E = 0
      · subst he
        have CG := Lib.hid cG
        rcases (show k = 0 ∨ k = 1 by omega) with hk0 | hk1
        · have HS2 := Lib.hid (stg_next hk0 HS.out hE.symm)
          rw [← hN, ← hT] at HS2
          subst hk0
          clear cG hN hT hE HS
          go_wp2_with (go_at_call 41; refine (CG.out _).mono ?_; rintro e w' ⟨rfl, rfl⟩)
          go_roundw
          case rel => exact ⟨1, N, y, T, by omega, by go_num, rfl, rfl, HS2⟩
          case measure => simp [intOf]; omega
        · have HS2 := Lib.hid (stg_next2 hk1 HS.out hE.symm)
          rw [← hN, ← hT] at HS2
          subst hk1
          clear cG hN hT hE HS
          go_wp2_with (go_at_call 41; refine (CG.out _).mono ?_; rintro e w' ⟨rfl, rfl⟩)
          go_roundw
          case rel => exact ⟨2, x, N, T, by omega, by go_num, rfl, rfl, HS2⟩
          case measure => simp [intOf]; omega
      · have HR := Lib.hid (stg_err (o := o) (by rw [← HN.out]; exact hlt) HS.out (by rw [← hE]; exact he))
        rw [← hE] at HR
        have hE1 : (E != 0) = true := by simpa using he
        have CG := Lib.hid cG
        have hb0 := build_none
        clear cG hN hT hE HS he
        go_wp2_with (go_at_call 41; refine (CG.out _).mono ?_; rintro e w' ⟨rfl, rfl⟩)
        refine bodyPost_ret (v := .tuple #[.agg #[.int .i64 0, .int .i64 0, .int .i64 0], .int .i64 0, .int .i64 E]) (by simp [results, Tryd.results32, go_sem]) rfl ?_
        rw [HR.out]
        exact ⟨rfl, ((Below.refl _ _).alloc (Nat.le_refl _) _).alloc (by simp) _⟩
    · have HR := Lib.hid (stg_end (o := o) (by rw [← HN.out]; omega) HS.out)
      have hb0 := build_ins o x y
      go_wp2
      refine bodyPost_ret (v := .tuple #[.agg #[.int .i64 o, .int .i64 x, .int .i64 y], .int .i64 q, .int .i64 0]) (by simp [results, Tryd.results32, go_sem]) rfl ?_
      rw [HR.out]
      exact ⟨rfl, ((Below.refl _ _).alloc (Nat.le_refl _) _).alloc (by simp) _⟩
end Go.Proofs.YtmahpmoaicjcjaaDoor
