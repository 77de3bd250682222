/- What is proved here: plain facts on instructions as rows of bytes: which can be, their bytes, the instruction at a place, rows of them; what is encoded is decoded as it was, cut off it is short, and what is read has the bytes that were read. Conditions: none beyond those each theorem states. plain facts on rows of instructions and their bytes: rows are read as they were, what is read has the bytes that were read, and what is cut off in the middle of one is short. contracts of the small functions of package op (known, isPlace, Args, Name, rightB) and of num.Name. Condition: the tables of names hold what their initialisers lay ('Nms'). contracts of the document's Put and List. Conditions: numbers fit 64 bits; lists are not too long. the contract of op.Encode. Condition: the tables of names hold what their initialisers lay ('Nms'); the numbers fit 64 bits. cont -/
import Derived.Test.YtngehojibcmieaaGreatDoorQB1
set_option maxRecDepth 100000
set_option maxHeartbeats 8000000
section
namespace Go.Proofs.YtngehojibcmieaaGreatDoor.Kb
theorem fits0 : Fits 0 := ⟨by decide, by decide⟩
def FitsI (i : Int × Int × Int) : Prop := Fits i.1 ∧ Fits i.2.1 ∧ Fits i.2.2
def tailI (i : Int × Int × Int) : List UInt8 :=
 if nargs i.1 = 0 then [] else if nargs i.1 = 1 then enc (turn i.2.1) else enc (turn i.2.1) ++ enc (turn i.2.2)
def opB (o : Int) : UInt8 := UInt8.ofNat o.toNat
theorem opB_val {o : Int} (h : 1 ≤ o ∧ o ≤ 25) : ((opB o).toNat : Int) = o := by unfold opB; simp; omega
def encI (i : Int × Int × Int) : List UInt8 := if right i = true then opB i.1 :: tailI i else []
theorem encI_right {i : Int × Int × Int} (h : right i = true) : encI i = opB i.1 :: tailI i := by unfold encI; rw [if_pos h]
theorem encI_wrong {i : Int × Int × Int} (h : right i = false) : encI i = [] := by unfold encI; rw [if_neg (by simp [h])]
theorem tailI_len {i : Int × Int × Int} (hf : FitsI i) : nargs i.1 ≤ (tailI i).length ∧ (tailI i).length ≤ 10 * nargs i.1 := by
 have h1 := enc_ten (turn_fits hf.2.1)
 have h2 := enc_ten (turn_fits hf.2.2)
 have h3 := enc_pos (turn i.2.1)
 have h4 := enc_pos (turn i.2.2)
 have h5 := nargs_le i.1
 unfold tailI
 split
 ·simp; omega
 ·split
  ·omega
  ·rw [List.length_append]; omega
theorem encI_len {i : Int × Int × Int} (hf : FitsI i) : (encI i).length ≤ 21 := by
 have h5 := nargs_le i.1
 have h := (tailI_len hf).2
 cases hr : right i
 ·rw [encI_wrong hr]; simp
 ·rw [encI_right hr, List.length_cons]; omega
def wn (l : List UInt8) (o p : Int) : (Int × Int × Int) × Int × Int :=
 if nargs o = 0 then ((o, 0, 0), p, 0)
 else if gE l p ≠ 0 then ((0, 0, 0), 0, gE l p)
 else if nargs o = 1 then ((o, gN l p, 0), gT l p, 0)
 else if gE l (gT l p) ≠ 0 then ((0, 0, 0), 0, gE l (gT l p))
 else ((o, gN l p, gN l (gT l p)), gT l (gT l p), 0)
def opAt (l : List UInt8) (p : Int) : Int := ((l.getD p.toNat 0).toNat : Int)
def dec (l : List UInt8) (p : Int) : (Int × Int × Int) × Int × Int :=
 if p < 0 ∨ (l.length : Int) < p then ((0, 0, 0), 0, 1)
 else if p = l.length then ((0, 0, 0), 0, 2)
 else if kn (opAt l p) = false then ((0, 0, 0), 0, 6)
 else if (wn l (opAt l p) (p + 1)).2.2 ≠ 0 then ((0, 0, 0), 0, (wn l (opAt l p) (p + 1)).2.2)
 else if right (wn l (opAt l p) (p + 1)).1 = false then ((0, 0, 0), 0, 6)
 else wn l (opAt l p) (p + 1)
theorem dec_out {l : List UInt8} {p : Int} (h : p < 0 ∨ (l.length : Int) < p) : dec l p = ((0, 0, 0), 0, 1) := by unfold dec; rw [if_pos h]
theorem dec_end {l : List UInt8} {p : Int} (h : p = l.length) : dec l p = ((0, 0, 0), 0, 2) := by unfold dec; rw [if_neg (by omega), if_pos h]
theorem dec_op {l : List UInt8} {p : Int} (h0 : 0 ≤ p) (h : p < l.length) (hk : kn (opAt l p) = false) : dec l p = ((0, 0, 0), 0, 6) := by
 unfold dec; rw [if_neg (by omega), if_neg (by omega), if_pos hk]
theorem dec_num {l : List UInt8} {p : Int} (h0 : 0 ≤ p) (h : p < l.length) (hk : kn (opAt l p) = true) (hw : (wn l (opAt l p) (p + 1)).2.2 ≠ 0) : dec l p = ((0, 0, 0), 0, (wn l (opAt l p) (p + 1)).2.2) := by
 unfold dec; rw [if_neg (by omega), if_neg (by omega), if_neg (by simp [hk]), if_pos hw]
theorem dec_bad {l : List UInt8} {p : Int} (h0 : 0 ≤ p) (h : p < l.length) (hk : kn (opAt l p) = true) (hw : (wn l (opAt l p) (p + 1)).2.2 = 0) (hr : right (wn l (opAt l p) (p + 1)).1 = false) : dec l p = ((0, 0, 0), 0, 6) := by
 unfold dec; rw [if_neg (by omega), if_neg (by omega), if_neg (by simp [hk]), if_neg (by simp [hw]), if_pos hr]
theorem dec_good {l : List UInt8} {p : Int} (h0 : 0 ≤ p) (h : p < l.length) (hk : kn (opAt l p) = true) (hw : (wn l (opAt l p) (p + 1)).2.2 = 0) (hr : right (wn l (opAt l p) (p + 1)).1 = true) : dec l p = wn l (opAt l p) (p + 1) := by
 unfold dec; rw [if_neg (by omega), if_neg (by omega), if_neg (by simp [hk]), if_neg (by simp [hw]), if_neg (by simp [hr])]
theorem wn_none {l : List UInt8} {o p : Int} (h : nargs o = 0) : wn l o p = ((o, 0, 0), p, 0) := by unfold wn; rw [if_pos h]
theorem wn_err {l : List UInt8} {o p : Int} (h : nargs o ≠ 0) (he : gE l p ≠ 0) : wn l o p = ((0, 0, 0), 0, gE l p) := by unfold wn; rw [if_neg h, if_pos he]
theorem wn_one {l : List UInt8} {o p : Int} (h : nargs o = 1) (he : gE l p = 0) : wn l o p = ((o, gN l p, 0), gT l p, 0) := by unfold wn; rw [if_neg (by omega), if_neg (by simp [he]), if_pos h]
theorem wn_err2 {l : List UInt8} {o p : Int} (h : nargs o = 2) (he : gE l p = 0) (he2 : gE l (gT l p) ≠ 0) : wn l o p = ((0, 0, 0), 0, gE l (gT l p)) := by unfold wn; rw [if_neg (by omega), if_neg (by simp [he]), if_neg (by omega), if_pos he2]
theorem wn_two {l : List UInt8} {o p : Int} (h : nargs o = 2) (he : gE l p = 0) (he2 : gE l (gT l p) = 0) : wn l o p = ((o, gN l p, gN l (gT l p)), gT l (gT l p), 0) := by
 unfold wn; rw [if_neg (by omega), if_neg (by simp [he]), if_neg (by omega), if_neg (by simp [he2])]
theorem nargs_012 (o : Int) : nargs o = 0 ∨ nargs o = 1 ∨ nargs o = 2 := by have := nargs_le o; omega
theorem take_two {α : Type} (l : List α) (k s t : Nat) (h1 : k ≤ s) (h2 : s ≤ t) : (l.drop k).take (t - k) = (l.drop k).take (s - k) ++ (l.drop s).take (t - s) := by
 have e : t - k = (s - k) + (t - s) := by omega
 rw [e, List.take_add, List.drop_drop]
 congr 3; omega
theorem dec_ok {l : List UInt8} {k : Nat} (h : (dec l k).2.2 = 0) : ∃ t : Nat, (dec l k).2.1 = t ∧ k < t ∧ t ≤ l.length ∧ right (dec l k).1 = true ∧ FitsI (dec l k).1 ∧ encI (dec l k).1 = (l.drop k).take (t - k) := by
 by_cases h1 : (k : Int) < 0 ∨ (l.length : Int) < k
 ·rw [dec_out h1] at h; simp at h
 by_cases h2 : (k : Int) = l.length
 ·rw [dec_end h2] at h; simp at h
 cases hk : kn (opAt l k)
 ·rw [dec_op (by omega) (by omega) hk] at h; simp at h
 by_cases hw : (wn l (opAt l k) (k + 1)).2.2 ≠ 0
 ·rw [dec_num (by omega) (by omega) hk hw] at h; exact absurd h hw
 replace hw : (wn l (opAt l k) (k + 1)).2.2 = 0 := Decidable.not_not.1 hw
 cases hr : right (wn l (opAt l k) (k + 1)).1
 ·rw [dec_bad (by omega) (by omega) hk hw hr] at h; simp at h
 rw [dec_good (by omega) (by omega) hk hw hr]
 have hkl : k < l.length := by omega
 obtain ⟨o, ho⟩ : ∃ o, o = opAt l k := ⟨_, rfl⟩
 rw [← ho] at hk hw hr ⊢
 have hok := kn_iff.1 hk
 have hfo : Fits o := ⟨by omega, by omega⟩
 have hb : opB o = l[k] := by
  rw [ho]; unfold opAt opB; simp [List.getD_eq_getElem?_getD, List.getElem?_eq_getElem hkl]
 have hd : l.drop k = l[k] :: l.drop (k + 1) := List.drop_eq_getElem_cons hkl
 have cast1 : ((k : Int) + 1) = ((k + 1 : Nat) : Int) := by omega
 rw [cast1] at hw hr ⊢
 rcases nargs_012 o with hn | hn | hn
 ·rw [wn_none hn] at hr ⊢
  refine ⟨k + 1, rfl, by omega, by omega, hr, ⟨hfo, fits0, fits0⟩, ?_⟩
  have ht : tailI (o, 0, 0) = [] := by simp [tailI, hn]
  rw [encI_right hr, hb, hd, show k + 1 - k = 0 + 1 by omega, List.take_succ_cons, List.take_zero]
  exact congrArg _ ht
 ·by_cases he : gE l ((k + 1 : Nat) : Int) ≠ 0
  ·rw [wn_err (by omega) he] at hw; exact absurd hw he
  replace he : gE l ((k + 1 : Nat) : Int) = 0 := Decidable.not_not.1 he
  obtain ⟨t, ht, ht1, ht2, ht3, ht4, htf, _⟩ := g_plain he
  rw [wn_one hn he] at hr ⊢
  refine ⟨t, ht, by omega, by omega, hr, ⟨hfo, htf, fits0⟩, ?_⟩
  rw [encI_right hr, hb, hd, show t - k = (t - (k + 1)) + 1 by omega, List.take_succ_cons, ← ht4]
  congr 1
  unfold tailI; rw [if_neg (by simp [hn]), if_pos hn]
 ·by_cases he : gE l ((k + 1 : Nat) : Int) ≠ 0
  ·rw [wn_err (by omega) he] at hw; exact absurd hw he
  replace he : gE l ((k + 1 : Nat) : Int) = 0 := Decidable.not_not.1 he
  obtain ⟨t, ht, ht1, ht2, ht3, ht4, htf, _⟩ := g_plain he
  by_cases he2 : gE l (gT l ((k + 1 : Nat) : Int)) ≠ 0
  ·rw [wn_err2 hn he he2] at hw; exact absurd hw he2
  replace he2 : gE l (gT l ((k + 1 : Nat) : Int)) = 0 := Decidable.not_not.1 he2
  rw [wn_two hn he he2] at hr ⊢
  rw [ht] at he2 hr ⊢
  obtain ⟨t', hu, hu1, hu2, hu3, hu4, huf, _⟩ := g_plain he2
  refine ⟨t', hu, by omega, by omega, hr, ⟨hfo, htf, huf⟩, ?_⟩
  rw [encI_right hr, hb, hd, show t' - k = (t' - (k + 1)) + 1 by omega, List.take_succ_cons, take_two l (k + 1) t t' (by omega) (by omega), ← ht4, ← hu4]
  congr 1
  unfold tailI; rw [if_neg (by simp [hn]), if_neg (by simp [hn])]
end Go.Proofs.YtngehojibcmieaaGreatDoor.Kb
end
section
namespace Go.Proofs.YtngehojibcmieaaGreatDoor.Kb
def flatI (L : List (Int × Int × Int)) : List UInt8 := L.flatMap encI
theorem flatI_cons (i : Int × Int × Int) (L : List (Int × Int × Int)) : flatI (i :: L) = encI i ++ flatI L := by simp [flatI]
theorem flatI_append (L M : List (Int × Int × Int)) : flatI (L ++ M) = flatI L ++ flatI M := by simp [flatI]
def allR (L : List (Int × Int × Int)) : Bool := L.all right
theorem allR_append {L M : List (Int × Int × Int)} : allR (L ++ M) = (allR L && allR M) := by simp [allR]
def AllFitI (L : List (Int × Int × Int)) : Prop := ∀ i ∈ L, FitsI i
def cod (L : List (Int × Int × Int)) : List UInt8 := if L.length ≤ 200 ∧ allR L = true then flatI L else []
theorem cod_right {L : List (Int × Int × Int)} (h1 : L.length ≤ 200) (h2 : allR L = true) : cod L = flatI L := by unfold cod; rw [if_pos ⟨h1, h2⟩]
theorem cod_long {L : List (Int × Int × Int)} (h1 : 200 < L.length) : cod L = [] := by unfold cod; rw [if_neg (by omega)]
theorem cod_wrong {L : List (Int × Int × Int)} (h2 : allR L = false) : cod L = [] := by unfold cod; rw [if_neg (by simp [h2])]
theorem flatI_len {L : List (Int × Int × Int)} (h : AllFitI L) : (flatI L).length ≤ 21 * L.length := by
 induction L with
 | nil => simp [flatI]
 | cons i L ih =>
  rw [flatI_cons, List.length_append, List.length_cons]
  have h1 := encI_len (h i (by simp))
  have h2 := ih (fun j hj => h j (by simp [hj]))
  omega
def rdF (l : List UInt8) : Nat → List (Int × Int × Int) → Int → List (Int × Int × Int) × Int
 | 0, _, _ => ([], 4)
 | f + 1, out, p =>
  if p < l.length then if out.length = 200 then ([], 4) else if (dec l p).2.2 ≠ 0 then ([], (dec l p).2.2) else rdF l f (out ++ [(dec l p).1]) (dec l p).2.1
  else (out, 0)
def rd (l : List UInt8) : List (Int × Int × Int) × Int := rdF l 202 [] 0
theorem rdF_end {l : List UInt8} {f : Nat} {out : List (Int × Int × Int)} {p : Int} (h : ¬ p < l.length) : rdF l (f + 1) out p = (out, 0) := by rw [rdF, if_neg h]
theorem rdF_big {l : List UInt8} {f : Nat} {out : List (Int × Int × Int)} {p : Int} (h : p < l.length) (ho : out.length = 200) : rdF l (f + 1) out p = ([], 4) := by rw [rdF, if_pos h, if_pos ho]
theorem rdF_err {l : List UInt8} {f : Nat} {out : List (Int × Int × Int)} {p : Int} (h : p < l.length) (ho : out.length ≠ 200) (he : (dec l p).2.2 ≠ 0) : rdF l (f + 1) out p = ([], (dec l p).2.2) := by rw [rdF, if_pos h, if_neg ho, if_pos he]
theorem rdF_ok {l : List UInt8} {f : Nat} {out : List (Int × Int × Int)} {p : Int} (h : p < l.length) (ho : out.length ≠ 200) (he : (dec l p).2.2 = 0) : rdF l (f + 1) out p = rdF l f (out ++ [(dec l p).1]) (dec l p).2.1 := by
 rw [rdF, if_pos h, if_neg ho, if_neg (by simp [he])]
theorem rdF_len {l : List UInt8} {f : Nat} {out : List (Int × Int × Int)} {p : Int} (ho : out.length ≤ 200) : (rdF l f out p).1.length ≤ 200 := by
 induction f generalizing out p with
 | zero => simp [rdF]
 | succ f ih =>
  rw [rdF]
  split
  ·split
   ·simp
   ·split
    ·simp
    ·exact ih (by simp; omega)
  ·exact ho
theorem rd_len (l : List UInt8) : (rd l).1.length ≤ 200 := rdF_len (by simp)
end Go.Proofs.YtngehojibcmieaaGreatDoor.Kb
end
section
namespace Go.Proofs.YtngehojibcmieaaGreatDoor.Kb
open Go.ChangeShapes Go.WideShapes Go.RowKit
theorem args_in (o : Int) (h : 1 ≤ o ∧ o ≤ 25) (w : World) : Calls Tryz.prog 189 #[.int .i64 o] w fun e w' => e = .returned (.int .i64 (argsOf o)) ∧ w = w' := by
 rcases (show o = 1 ∨ o = 2 ∨ o = 3 ∨ o = 4 ∨ o = 5 ∨ o = 6 ∨ o = 7 ∨ o = 8 ∨ o = 9 ∨ o = 10 ∨ o = 11 ∨ o = 12 ∨ o = 13 ∨ o = 14 ∨ o = 15 ∨ o = 16 ∨ o = 17 ∨ o = 18 ∨ o = 19 ∨ o = 20 ∨ o = 21 ∨ o = 22 ∨ o = 23 ∨ o = 24 ∨ o = 25 by omega) with
  rfl | rfl | rfl | rfl | rfl | rfl | rfl | rfl | rfl | rfl | rfl | rfl | rfl | rfl | rfl | rfl | rfl | rfl | rfl | rfl | rfl | rfl | rfl | rfl | rfl
 all_goals
  clear h
  go_enter Tryz.func189, Tryz.ntmps189
  go_wp2_with (go_at_call 214; refine (known_yes _ (by decide) _).mono ?_; rintro e w' ⟨rfl, rfl⟩)
  go_ret
  exact ⟨rfl, rfl⟩
theorem args_out (o : Int) (h : kn o = false) (w : World) : Calls Tryz.prog 189 #[.int .i64 o] w fun e w' => e = .returned (.int .i64 (argsOf o)) ∧ w = w' := by
 have e0 : argsOf o = -1 := by unfold argsOf; rw [h]; rfl
 have ho : ¬ (1 ≤ o ∧ o ≤ 25) := by intro hk; rw [kn_iff.2 hk] at h; cases h
 have hne : ∀ c : Int, 1 ≤ c → c ≤ 25 → (o == c) = false := fun c h1 h2 => by rw [beq_eq_false_iff_ne]; omega
 have c := known_op o
 rw [h] at c
 have C := Lib.hid c
 have e1 := hne 1 (by decide) (by decide)
 have e5 := hne 5 (by decide) (by decide)
 have e11 := hne 11 (by decide) (by decide)
 have e12 := hne 12 (by decide) (by decide)
 have e13 := hne 13 (by decide) (by decide)
 have e14 := hne 14 (by decide) (by decide)
 have e15 := hne 15 (by decide) (by decide)
 have e16 := hne 16 (by decide) (by decide)
 have e17 := hne 17 (by decide) (by decide)
 have e18 := hne 18 (by decide) (by decide)
 have e19 := hne 19 (by decide) (by decide)
 have e20 := hne 20 (by decide) (by decide)
 have e21 := hne 21 (by decide) (by decide)
 have e23 := hne 23 (by decide) (by decide)
 have e24 := hne 24 (by decide) (by decide)
 rw [e0]
 clear e0 ho hne c h
 go_enter Tryz.func189, Tryz.ntmps189
 go_wp2_with (go_at_call 214; refine (C.out _).mono ?_; rintro e w' ⟨rfl, rfl⟩)
 go_ret
 exact ⟨rfl, rfl⟩
theorem args_any (o : Int) (w : World) : Calls Tryz.prog 189 #[.int .i64 o] w fun e w' => e = .returned (.int .i64 (argsOf o)) ∧ w = w' := by
 cases h : kn o
 ·exact args_out o h w
 ·exact args_in o (kn_iff.1 h) w
theorem conv_one (v : Int) (b : UInt8) (h : v = b.toNat) : ∃ B : ByteArray, B.data.toList = [b] ∧ B.size = 1 ∧ ∀ W : World,
  (convert 85 9 (.slice (some ⟨W.heap.size, 0, none⟩) 1 1)).run Tryz.prog (W.alloc (.cells #[.int .u8 v] 5)) = .ok (.string B) (W.alloc (.cells #[.int .u8 v] 5)) :=
 ⟨bs [b], bs_data _, bs_size _, fun W =>
  run_convert_bytes_back (W.alloc (.cells #[.int .u8 v] 5)) 85 9 5 ⟨W.heap.size, 0, none⟩ 1 [b] Tryz.underlying85 Tryz.underlying5 Tryz.underlying9 (fun j hj => by
   match j, hj with
   | 0, _ => subst h; simp [Addr.add])⟩
def encN (i : Int × Int × Int) (k : Nat) : List UInt8 := opB i.1 :: (if k = 0 then [] else if k = 1 then enc (turn i.2.1) else enc (turn i.2.1) ++ enc (turn i.2.2))
theorem encN_all {i : Int × Int × Int} (h : right i = true) : encN i (nargs i.1) = encI i := by
 rw [encI_right h]; rfl
theorem encN_len {i : Int × Int × Int} (hf : FitsI i) (k : Nat) : (encN i k).length ≤ 21 := by
 have h1 := enc_ten (turn_fits hf.2.1)
 have h2 := enc_ten (turn_fits hf.2.2)
 unfold encN
 rw [List.length_cons]
 split
 ·simp
 ·split
  ·omega
  ·rw [List.length_append]; omega
theorem build_pair (a b : Int) (w : World) : (Instr.build 229 #[(0, .int .i64 a), (1, .int .i64 b)]).run Tryz.prog w = .ok (.agg #[.int .i64 a, .int .i64 b]) w := run_build w 229 _ _ (by kernel_rfl)
theorem encode_wrong (o a b : Int) (w : World) (hn : Nms w) (h : right (o, a, b) = false) :
  Calls Tryz.prog 149 #[.agg #[.int .i64 o, .int .i64 a, .int .i64 b]] w fun e w' => e = .returned (.string (bs (encI (o, a, b)))) ∧ Below w.heap.size w w' := by
 have HN : Hid (∀ x, Nms (w.alloc x)) := fun x => hn.below ((Below.refl _ _).alloc (Nat.le_refl _) _)
 have c := fun W h => right_any o a b W h
 rw [h] at c
 have C := Lib.hid c
 rw [encI_wrong h]
 clear c h hn
 go_enter Tryz.func149, Tryz.ntmps149
 go_wp2_with (go_at_call 175; refine (C.out _ (HN.out _)).mono ?_; rintro e w' ⟨rfl, hb⟩)
 go_ret
 exact ⟨rfl, ((Below.refl _ _).alloc (Nat.le_refl _) _).trans (hb.mono (by simp))⟩
theorem encode_right (o a b : Int) (w : World) (hn : Nms w) (h : right (o, a, b) = true) (hf : FitsI (o, a, b)) :
  Calls Tryz.prog 149 #[.agg #[.int .i64 o, .int .i64 a, .int .i64 b]] w fun e w' => e = .returned (.string (bs (encI (o, a, b)))) ∧ Below w.heap.size w w' := by
 have HN : Hid (∀ x, Nms (w.alloc x)) := fun x => hn.below ((Below.refl _ _).alloc (Nat.le_refl _) _)
 have c := fun W h => right_any o a b W h
 have hko := right_kn h
 simp only at hko
 have ho1 := hko.1
 have ho2 := hko.2
 have ca := fun W => args_any o W
 have hna : argsOf o = (nargs o : Int) := by unfold argsOf; rw [if_pos (kn_iff.2 hko)]
 have hnl := nargs_le o
 have HE := Lib.hid (encN_all h)
 rw [h] at c
 have C := Lib.hid c
 obtain ⟨n, hnn⟩ : ∃ n, n = nargs o := ⟨_, rfl⟩
 rw [hna, ← hnn] at ca
 rw [← hnn] at hnl
 simp only [← hnn] at HE
 have CA := Lib.hid ca
 obtain ⟨B0, hB0, hB1, hcv0⟩ := conv_one o (opB o) (opB_val hko).symm
 have hu : o % 256 = o := by omega
 have hbp := build_pair a b
 clear c ca h hna hnn hko
 go_enter Tryz.func149, Tryz.ntmps149
 go_wp2_with (first
  | (go_at_call 175; refine (C.out _ (HN.out _)).mono ?_; rintro e w2 ⟨rfl, hb⟩; have hcv := hcv0 w2; have hz := hb.size; have hc0 := hb.cell (p := ⟨w.heap.size, 0, none⟩) (by simp); have hc1 := hb.cell (p := ⟨w.heap.size, 1, none⟩) (by simp); have hc2 := hb.cell (p := ⟨w.heap.size, 2, none⟩) (by simp); simp at hz hc0 hc1 hc2; have hlt : w.heap.size < w2.heap.size := by omega)
  | (go_at_call 189; refine (CA.out _).mono ?_; rintro e w' ⟨rfl, rfl⟩))
 have G0 : Below w.heap.size w ((w2.alloc (.cells #[.int .u8 o] 5)).alloc (.cells #[.int .i64 a, .int .i64 b] 229)) :=
  ((((Below.refl _ _).alloc (Nat.le_refl _) _).trans (hb.mono (by simp))).alloc (by omega) _).alloc (by simp; omega) _
 have HF := Lib.hid hf
 clear hcv hcv0 hb hc0 hc1 hc2 hbp hu hf HN C CA
 go_loopw [3, 22] (fun s i wr => ∃ (k : Nat) (D : ByteArray), k ≤ n ∧ i = .int .i64 k ∧ s = .string D ∧ D.size ≤ 21 ∧ Hid (D.data.toList = encN (o, a, b) k) ∧
   wr.cell? ⟨w2.heap.size + 1, 0, none⟩ = some (.int .i64 a) ∧ wr.cell? ⟨w2.heap.size + 1, 1, none⟩ = some (.int .i64 b) ∧ Below w.heap.size w wr)
  (fun _ i _ => n - (intOf i).toNat)
 case atStart => exact ⟨0, B0, by omega, rfl, rfl, by omega, hB0, by simp, by simp, G0⟩
 case round =>
  obtain ⟨k, D, hk, rfl, rfl, hD, HD, hca, hcb, G⟩ := hrel
  clear G0 hB0 hB1
  have hlt2 := cell_lt hca
  by_cases hkn : k < n
  ·rcases (show k = 0 ∨ k = 1 by omega) with rfl | rfl
   ·obtain ⟨P, hP⟩ : ∃ P, P = bs (enc (turn a)) := ⟨_, rfl⟩
    have hPs : P.size ≤ 10 := by rw [hP, bs_size]; exact enc_ten (turn_fits HF.out.2.1)
    have cP := fun W => put_any a HF.out.2.1 W
    rw [← hP] at cP
    have CP := Lib.hid cP
    have HD2 : Hid ((D ++ P).data.toList = encN (o, a, b) 1) := by
     show _ = _
     rw [app_list, HD.out, hP, bs_data]; rfl
    have hl2 : (D ++ P).size ≤ 21 := by rw [Lib.size_eq, HD2.out]; exact encN_len HF.out 1
    clear cP hP HD
    go_wp2_with (go_at_call 102; refine (CP.out _).mono ?_; rintro e w3 ⟨rfl, hb2⟩)
    have hca2 := (hb2.cell (p := ⟨w2.heap.size + 1, 0, none⟩) hlt2).trans hca
    have hcb2 := (hb2.cell (p := ⟨w2.heap.size + 1, 1, none⟩) hlt2).trans hcb
    go_roundw
    case rel => exact ⟨1, D ++ P, by omega, by go_num, rfl, hl2, HD2, hca2, hcb2, G.trans (hb2.mono G.size)⟩
    case measure => simp [intOf]; omega
   ·obtain ⟨P, hP⟩ : ∃ P, P = bs (enc (turn b)) := ⟨_, rfl⟩
    have hPs : P.size ≤ 10 := by rw [hP, bs_size]; exact enc_ten (turn_fits HF.out.2.2)
    have cP := fun W => put_any b HF.out.2.2 W
    rw [← hP] at cP
    have CP := Lib.hid cP
    have HD2 : Hid ((D ++ P).data.toList = encN (o, a, b) 2) := by
     show _ = _
     rw [app_list, HD.out, hP, bs_data]; rfl
    have hl2 : (D ++ P).size ≤ 21 := by rw [Lib.size_eq, HD2.out]; exact encN_len HF.out 2
    clear cP hP HD
    go_wp2_with (go_at_call 102; refine (CP.out _).mono ?_; rintro e w3 ⟨rfl, hb2⟩)
    have hca2 := (hb2.cell (p := ⟨w2.heap.size + 1, 0, none⟩) hlt2).trans hca
    have hcb2 := (hb2.cell (p := ⟨w2.heap.size + 1, 1, none⟩) hlt2).trans hcb
    go_roundw
    case rel => exact ⟨2, D ++ P, by omega, by go_num, rfl, hl2, HD2, hca2, hcb2, G.trans (hb2.mono G.size)⟩
    case measure => simp [intOf]; omega
  ·have hk2 : k = n := by omega
   have HR : Hid (D = bs (encI (o, a, b))) := by
    show _ = _
    rw [← bs_of D, HD.out, hk2, HE.out]
   go_wp2
   go_ret
   exact ⟨by rw [← HR.out]; rfl, G⟩
theorem encode_any (o a b : Int) (w : World) (hn : Nms w) (hf : FitsI (o, a, b)) :
  Calls Tryz.prog 149 #[.agg #[.int .i64 o, .int .i64 a, .int .i64 b]] w fun e w' => e = .returned (.string (bs (encI (o, a, b)))) ∧ Below w.heap.size w w' := by
 cases h : right (o, a, b)
 ·exact encode_wrong o a b w hn h
 ·exact encode_right o a b w hn h hf
def Got (r : (Int × Int × Int) × Int × Int) (w : World) (e : Ending) (w' : World) : Prop :=
 e = .returned (.tuple #[.agg #[.int .i64 r.1.1, .int .i64 r.1.2.1, .int .i64 r.1.2.2], .int .i64 r.2.1, .int .i64 r.2.2]) ∧ Below w.heap.size w w'
def Stg (l : List UInt8) (p : Int) (k : Nat) (x y q : Int) : Prop :=
 match k with
 | 0 => x = 0 ∧ y = 0 ∧ q = p
 | 1 => gE l p = 0 ∧ x = gN l p ∧ y = 0 ∧ q = gT l p
 | _ => gE l p = 0 ∧ gE l (gT l p) = 0 ∧ x = gN l p ∧ y = gN l (gT l p) ∧ q = gT l (gT l p)
theorem stg_next {l : List UInt8} {p : Int} {k : Nat} {x y q : Int} (hk : k = 0) (h : Stg l p k x y q) (he : gE l q = 0) : Stg l p 1 (gN l q) y (gT l q) := by
 subst hk; obtain ⟨_, h2, h3⟩ := h; subst h3; exact ⟨he, rfl, h2, rfl⟩
theorem stg_next2 {l : List UInt8} {p : Int} {k : Nat} {x y q : Int} (hk : k = 1) (h : Stg l p k x y q) (he : gE l q = 0) : Stg l p 2 x (gN l q) (gT l q) := by
 subst hk; obtain ⟨h1, h2, _, h4⟩ := h; subst h4; exact ⟨h1, he, h2, rfl, rfl⟩
theorem stg_err {l : List UInt8} {o p : Int} {k : Nat} {x y q : Int} (hk : k < nargs o) (h : Stg l p k x y q) (he : gE l q ≠ 0) : wn l o p = ((0, 0, 0), 0, gE l q) := by
 have hn := nargs_le o
 rcases (show k = 0 ∨ (k = 1 ∧ nargs o = 2) by omega) with rfl | ⟨rfl, h2⟩
 ·obtain ⟨_, _, h3⟩ := h; subst h3; exact wn_err (by omega) he
 ·obtain ⟨h1, _, _, h4⟩ := h; subst h4; exact wn_err2 h2 h1 he
theorem stg_end {l : List UInt8} {o p : Int} {k : Nat} {x y q : Int} (hk : k = nargs o) (h : Stg l p k x y q) : wn l o p = ((o, x, y), q, 0) := by
 rcases nargs_012 o with hn | hn | hn
 ·rw [hn] at hk; subst hk
  obtain ⟨h1, h2, h3⟩ := h; subst h1 h2 h3; exact wn_none hn
 ·rw [hn] at hk; subst hk
  obtain ⟨h1, h2, h3, h4⟩ := h; subst h2 h3 h4; exact wn_one hn h1
 ·rw [hn] at hk; subst hk
  obtain ⟨h1, h2, h3, h4, h5⟩ := h; subst h3 h4 h5; exact wn_two hn h1 h2
theorem build_none (w : World) : (Instr.build 103 #[]).run Tryz.prog w = .ok (.agg #[.int .i64 0, .int .i64 0, .int .i64 0]) w := run_build w 103 _ _ (by kernel_rfl)
theorem build_ins (o a b : Int) (w : World) : (Instr.build 103 #[(0, .int .i64 o), (1, .int .i64 a), (2, .int .i64 b)]).run Tryz.prog w = .ok (.agg #[.int .i64 o, .int .i64 a, .int .i64 b]) w := run_build w 103 _ _ (by kernel_rfl)
theorem with_any (s : ByteArray) (o p : Int) (hs : s.size ≤ 1000000) (hko : 1 ≤ o ∧ o ≤ 25) (w : World) :
  Calls Tryz.prog 235 #[.int .i64 o, .string s, .int .i64 p] w (Got (wn s.data.toList o p) w) := by
 have hsm : s.size ≤ maxLen := by unfold maxLen; omega
 have ca := fun W => args_any o W
 have hna : argsOf o = (nargs o : Int) := by unfold argsOf; rw [if_pos (kn_iff.2 hko)]
 have hnl := nargs_le o
 obtain ⟨n, hnn⟩ : ∃ n, n = nargs o := ⟨_, rfl⟩
 rw [hna, ← hnn] at ca
 rw [← hnn] at hnl
 have HN := Lib.hid hnn
 have CA := Lib.hid ca
 clear hna hnn ca hko
 go_enter Tryz.func235, Tryz.ntmps235
 go_wp2_with (go_at_call 189; refine (CA.out _).mono ?_; rintro e w' ⟨rfl, rfl⟩)
 go_loopw [2, 16] (fun t i wr => ∃ (k : Nat) (x y q : Int), k ≤ n ∧ i = .int .i64 k ∧ t = .int .i64 q ∧ wr = (w.alloc (.cells #[.int .i64 0, .int .i64 0, .int .i64 0] 103)).alloc (.cells #[.int .i64 x, .int .i64 y] 229) ∧ Hid (Stg s.data.toList p k x y q))
  (fun _ i _ => n - (intOf i).toNat)
 case atStart => exact ⟨0, 0, 0, p, by omega, rfl, rfl, rfl, ⟨rfl, rfl, rfl⟩⟩
 case round =>
  obtain ⟨k, x, y, q, hk, rfl, rfl, rfl, HS⟩ := hrel
  by_cases hlt : k < n
  ·have cG := get_any s q hsm
   obtain ⟨N, hN⟩ : ∃ N, N = gN s.data.toList q := ⟨_, rfl⟩
   obtain ⟨T, hT⟩ : ∃ T, T = gT s.data.toList q := ⟨_, rfl⟩
   obtain ⟨E, hE⟩ : ∃ E, E = gE s.data.toList q := ⟨_, rfl⟩
   rw [← hN, ← hT, ← hE] at cG
   by_cases he : E = 0
   ·subst he
    have CG := Lib.hid cG
    rcases (show k = 0 ∨ k = 1 by omega) with hk0 | hk1
    ·have HS2 := Lib.hid (stg_next hk0 HS.out hE.symm)
     rw [← hN, ← hT] at HS2
     subst hk0
     clear cG hN hT hE HS
     go_wp2_with (go_at_call 126; refine (CG.out _).mono ?_; rintro e w' ⟨rfl, rfl⟩)
     go_roundw
     case rel => exact ⟨1, N, y, T, by omega, by go_num, rfl, rfl, HS2⟩
     case measure => simp [intOf]; omega
    ·have HS2 := Lib.hid (stg_next2 hk1 HS.out hE.symm)
     rw [← hN, ← hT] at HS2
     subst hk1
     clear cG hN hT hE HS
     go_wp2_with (go_at_call 126; refine (CG.out _).mono ?_; rintro e w' ⟨rfl, rfl⟩)
     go_roundw
     case rel => exact ⟨2, x, N, T, by omega, by go_num, rfl, rfl, HS2⟩
     case measure => simp [intOf]; omega
   ·have HR := Lib.hid (stg_err (o := o) (by rw [← HN.out]; exact hlt) HS.out (by rw [← hE]; exact he))
    rw [← hE] at HR
    have hE1 : (E != 0) = true := by simpa using he
    have CG := Lib.hid cG
    have hb0 := build_none
    clear cG hN hT hE HS he
    go_wp2_with (go_at_call 126; refine (CG.out _).mono ?_; rintro e w' ⟨rfl, rfl⟩)
    refine bodyPost_ret (v := .tuple #[.agg #[.int .i64 0, .int .i64 0, .int .i64 0], .int .i64 0, .int .i64 E]) (by simp [results, Tryz.results235, go_sem]) rfl ?_
    rw [HR.out]
    exact ⟨rfl, ((Below.refl _ _).alloc (Nat.le_refl _) _).alloc (by simp) _⟩
  ·have HR := Lib.hid (stg_end (o := o) (by rw [← HN.out]; omega) HS.out)
   have hb0 := build_ins o x y
   go_wp2
   refine bodyPost_ret (v := .tuple #[.agg #[.int .i64 o, .int .i64 x, .int .i64 y], .int .i64 q, .int .i64 0]) (by simp [results, Tryz.results235, go_sem]) rfl ?_
   rw [HR.out]
   exact ⟨rfl, ((Below.refl _ _).alloc (Nat.le_refl _) _).alloc (by simp) _⟩
theorem bcell {W w1 : World} (hb : Below W.heap.size W w1) : (∀ b o, b < W.heap.size → w1.cell? ⟨b, o, none⟩ = W.cell? ⟨b, o, none⟩) ∧ (∀ b o, b < W.heap.size → w1.frozen? ⟨b, o, none⟩ = W.frozen? ⟨b, o, none⟩) :=
 ⟨fun b o h => hb.cell (p := ⟨b, o, none⟩) h, fun b o h => hb.frozen (p := ⟨b, o, none⟩) h⟩
theorem opAt_byte (s : ByteArray) (k : Nat) (h : k < s.size) : opAt s.data.toList k = (s[k].toNat : Int) := by
 unfold opAt
 rw [Int.toNat_natCast, List.getD_eq_getElem?_getD, List.getElem?_eq_getElem (by simpa using h), Option.getD_some, byte_list s k h]
theorem wrap_byte (b : UInt8) : wrap64 (b.toNat : Int) = b.toNat := by have := b.toNat_lt; unfold wrap64; omega
def badR (e : Int) : (Int × Int × Int) × Int × Int := ((0, 0, 0), 0, e)
theorem decode_out (s : ByteArray) (p : Int) (hs : s.size ≤ 1000000) (h : p < 0 ∨ (s.size : Int) < p) (w : World) :
  Calls Tryz.prog 213 #[.string s, .int .i64 p] w (Got (badR 1) w) := by
 have hb0 := build_none
 rcases h with h | h
 all_goals
  go_enter Tryz.func213, Tryz.ntmps213
  go_wp2
  exact bodyPost_ret (v := .tuple #[.agg #[.int .i64 0, .int .i64 0, .int .i64 0], .int .i64 0, .int .i64 1]) (by simp [results, Tryz.results213, go_sem]) rfl ⟨rfl, (Below.refl _ _).alloc (Nat.le_refl _) _⟩
theorem decode_end (s : ByteArray) (w : World) :
  Calls Tryz.prog 213 #[.string s, .int .i64 s.size] w (Got (badR 2) w) := by
 have hb0 := build_none
 go_enter Tryz.func213, Tryz.ntmps213
 go_wp2
 exact bodyPost_ret (v := .tuple #[.agg #[.int .i64 0, .int .i64 0, .int .i64 0], .int .i64 0, .int .i64 2]) (by simp [results, Tryz.results213, go_sem]) rfl ⟨rfl, (Below.refl _ _).alloc (Nat.le_refl _) _⟩
theorem decode_op (s : ByteArray) (k : Nat) (hlt : k < s.size) (hk : Hid (kn (s[k].toNat : Int) = false)) (w : World) :
  Calls Tryz.prog 213 #[.string s, .int .i64 k] w (Got (badR 6) w) := by
 have hb0 := build_none
 have ck := known_op (s[k].toNat : Int)
 rw [hk.out] at ck
 have CK := Lib.hid ck
 have e1 : (k == s.size) = false := by rw [beq_eq_false_iff_ne]; omega
 have e2 : ((k : Int) == (s.size : Int)) = false := by rw [beq_eq_false_iff_ne]; omega
 have hw := wrap_byte s[k]
 clear ck
 go_enter Tryz.func213, Tryz.ntmps213
 go_wp2_with (go_at_call 214; refine (CK.out _).mono ?_; rintro e w' ⟨rfl, rfl⟩)
 exact bodyPost_ret (v := .tuple #[.agg #[.int .i64 0, .int .i64 0, .int .i64 0], .int .i64 0, .int .i64 6]) (by simp [results, Tryz.results213, go_sem]) rfl ⟨rfl, (Below.refl _ _).alloc (Nat.le_refl _) _⟩
theorem decode_num (s : ByteArray) (k : Nat) (hs : s.size ≤ 1000000) (hlt : k < s.size) (hk : Hid (kn (s[k].toNat : Int) = true)) (o a b t E : Int) (hr : Hid (wn s.data.toList (s[k].toNat : Int) ((k : Int) + 1) = ((o, a, b), t, E))) (he : (E != 0) = true) (w : World) :
  Calls Tryz.prog 213 #[.string s, .int .i64 k] w (Got (badR E) w) := by
 have hb0 := build_none
 have ck := known_op (s[k].toNat : Int)
 rw [hk.out] at ck
 have CK := Lib.hid ck
 have cw := fun W => with_any s (s[k].toNat : Int) ((k : Int) + 1) hs (kn_iff.1 hk.out) W
 rw [hr.out] at cw
 have CW := Lib.hid cw
 have e1 : (k == s.size) = false := by rw [beq_eq_false_iff_ne]; omega
 have e2 : ((k : Int) == (s.size : Int)) = false := by rw [beq_eq_false_iff_ne]; omega
 have hw := wrap_byte s[k]
 clear ck cw
 go_enter Tryz.func213, Tryz.ntmps213
 go_wp2_with (first
  | (go_at_call 214; refine (CK.out _).mono ?_; rintro e w' ⟨rfl, rfl⟩)
  | (go_at_call 235; refine (CW.out _).mono ?_; rintro e w1 ⟨rfl, hb⟩; obtain ⟨hc, hf⟩ := bcell hb; have hz := hb.size; simp at hz; have hlt1 : w.heap.size < w1.heap.size := by omega))
 refine bodyPost_ret (v := .tuple #[.agg #[.int .i64 0, .int .i64 0, .int .i64 0], .int .i64 0, .int .i64 E]) (by simp [results, Tryz.results213, go_sem, hc, hlt1]) rfl ⟨rfl, ?_⟩
 have G1 : Below w.heap.size w w1 := ((Below.refl _ _).alloc (Nat.le_refl _) _).trans (hb.mono (by simp))
 exact (((G1.setCell (Nat.le_refl _) _).setCell (Nat.le_refl _) _).setCell (Nat.le_refl _) _).alloc (by simp; omega) _
theorem decode_bad (s : ByteArray) (k : Nat) (hs : s.size ≤ 1000000) (hlt : k < s.size) (hk : Hid (kn (s[k].toNat : Int) = true)) (o a b t : Int) (hr : Hid (wn s.data.toList (s[k].toNat : Int) ((k : Int) + 1) = ((o, a, b), t, 0))) (hg : Hid (right (o, a, b) = false)) (w : World) (hn : Nms w) :
  Calls Tryz.prog 213 #[.string s, .int .i64 k] w (Got (badR 6) w) := by
 have hb0 := build_none
 have ck := known_op (s[k].toNat : Int)
 rw [hk.out] at ck
 have CK := Lib.hid ck
 have cw := fun W => with_any s (s[k].toNat : Int) ((k : Int) + 1) hs (kn_iff.1 hk.out) W
 rw [hr.out] at cw
 have CW := Lib.hid cw
 have cr := fun W h => right_any o a b W h
 rw [hg.out] at cr
 have CR := Lib.hid cr
 have e1 : (k == s.size) = false := by rw [beq_eq_false_iff_ne]; omega
 have e2 : ((k : Int) == (s.size : Int)) = false := by rw [beq_eq_false_iff_ne]; omega
 have hw := wrap_byte s[k]
 have HN := Lib.hid hn
 clear ck cw cr hn
 go_enter Tryz.func213, Tryz.ntmps213
 go_wp2_with (first
  | (go_at_call 214; refine (CK.out _).mono ?_; rintro e w' ⟨rfl, rfl⟩)
  | (go_at_call 235; refine (CW.out _).mono ?_; rintro e w1 ⟨rfl, hb⟩; obtain ⟨hc, hf⟩ := bcell hb; have hz := hb.size; simp at hz; have hlt1 : w.heap.size < w1.heap.size := by omega)
  | fail)
 have G1 : Below w.heap.size w w1 := ((Below.refl _ _).alloc (Nat.le_refl _) _).trans (hb.mono (by simp))
 have G2 := G1.alloc (by omega : w.heap.size ≤ w1.heap.size) (.cells #[.int .i64 o, .int .i64 a, .int .i64 b] 103)
 refine (CR.out _ (HN.out.below G2)).mono ?_
 rintro e w2 ⟨rfl, hb2⟩
 obtain ⟨hc2, hf2⟩ := bcell hb2
 have hz2 := hb2.size
 simp at hz2
 have hlt2 : w.heap.size < w2.heap.size := by omega
 have hlt3 : w.heap.size < w1.heap.size + 1 := by omega
 have d0 : w2.cell? ⟨w.heap.size, 0, none⟩ = some (.int .i64 0) := by rw [hc2 _ _ (by simp; omega), World.cell?_alloc_lt _ _ _ hlt1, hc _ _ (by simp)]; simp
 have d1 : w2.cell? ⟨w.heap.size, 1, none⟩ = some (.int .i64 0) := by rw [hc2 _ _ (by simp; omega), World.cell?_alloc_lt _ _ _ hlt1, hc _ _ (by simp)]; simp
 have d2 : w2.cell? ⟨w.heap.size, 2, none⟩ = some (.int .i64 0) := by rw [hc2 _ _ (by simp; omega), World.cell?_alloc_lt _ _ _ hlt1, hc _ _ (by simp)]; simp
 have G3 := G2.trans (hb2.mono (by simp; omega))
 go_wp2
 exact bodyPost_ret (v := .tuple #[.agg #[.int .i64 0, .int .i64 0, .int .i64 0], .int .i64 0, .int .i64 6]) (by simp [results, Tryz.results213, go_sem, d0, d1, d2]) rfl ⟨rfl, ((G3.setCell (Nat.le_refl _) _).setCell (Nat.le_refl _) _).setCell (Nat.le_refl _) _⟩
theorem decode_good (s : ByteArray) (k : Nat) (hs : s.size ≤ 1000000) (hlt : k < s.size) (hk : Hid (kn (s[k].toNat : Int) = true)) (o a b t : Int) (hr : Hid (wn s.data.toList (s[k].toNat : Int) ((k : Int) + 1) = ((o, a, b), t, 0))) (hg : Hid (right (o, a, b) = true)) (w : World) (hn : Nms w) :
  Calls Tryz.prog 213 #[.string s, .int .i64 k] w (Got ((o, a, b), t, 0) w) := by
 have ck := known_op (s[k].toNat : Int)
 rw [hk.out] at ck
 have CK := Lib.hid ck
 have cw := fun W => with_any s (s[k].toNat : Int) ((k : Int) + 1) hs (kn_iff.1 hk.out) W
 rw [hr.out] at cw
 have CW := Lib.hid cw
 have cr := fun W h => right_any o a b W h
 rw [hg.out] at cr
 have CR := Lib.hid cr
 have e1 : (k == s.size) = false := by rw [beq_eq_false_iff_ne]; omega
 have e2 : ((k : Int) == (s.size : Int)) = false := by rw [beq_eq_false_iff_ne]; omega
 have hw := wrap_byte s[k]
 have HN := Lib.hid hn
 clear ck cw cr hn
 go_enter Tryz.func213, Tryz.ntmps213
 go_wp2_with (first
  | (go_at_call 214; refine (CK.out _).mono ?_; rintro e w' ⟨rfl, rfl⟩)
  | (go_at_call 235; refine (CW.out _).mono ?_; rintro e w1 ⟨rfl, hb⟩; obtain ⟨hc, hf⟩ := bcell hb; have hz := hb.size; simp at hz; have hlt1 : w.heap.size < w1.heap.size := by omega)
  | fail)
 have G1 : Below w.heap.size w w1 := ((Below.refl _ _).alloc (Nat.le_refl _) _).trans (hb.mono (by simp))
 have G2 := G1.alloc (by omega : w.heap.size ≤ w1.heap.size) (.cells #[.int .i64 o, .int .i64 a, .int .i64 b] 103)
 refine (CR.out _ (HN.out.below G2)).mono ?_
 rintro e w2 ⟨rfl, hb2⟩
 obtain ⟨hc2, hf2⟩ := bcell hb2
 have hz2 := hb2.size
 simp at hz2
 have hlt2 : w.heap.size < w2.heap.size := by omega
 have hlt3 : w.heap.size < w1.heap.size + 1 := by omega
 have d0 : w2.cell? ⟨w.heap.size, 0, none⟩ = some (.int .i64 0) := by rw [hc2 _ _ (by simp; omega), World.cell?_alloc_lt _ _ _ hlt1, hc _ _ (by simp)]; simp
 have d1 : w2.cell? ⟨w.heap.size, 1, none⟩ = some (.int .i64 0) := by rw [hc2 _ _ (by simp; omega), World.cell?_alloc_lt _ _ _ hlt1, hc _ _ (by simp)]; simp
 have d2 : w2.cell? ⟨w.heap.size, 2, none⟩ = some (.int .i64 0) := by rw [hc2 _ _ (by simp; omega), World.cell?_alloc_lt _ _ _ hlt1, hc _ _ (by simp)]; simp
 have f0 : w2.cell? ⟨w1.heap.size, 0, none⟩ = some (.int .i64 o) := by rw [hc2 _ _ (by simp)]; simp
 have f1 : w2.cell? ⟨w1.heap.size, 1, none⟩ = some (.int .i64 a) := by rw [hc2 _ _ (by simp)]; simp
 have f2 : w2.cell? ⟨w1.heap.size, 2, none⟩ = some (.int .i64 b) := by rw [hc2 _ _ (by simp)]; simp
 have G3 := G2.trans (hb2.mono (by simp; omega))
 go_wp2
 exact bodyPost_ret (v := .tuple #[.agg #[.int .i64 o, .int .i64 a, .int .i64 b], .int .i64 t, .int .i64 0]) (by simp [results, Tryz.results213, go_sem, d0, d1, d2]) rfl ⟨rfl, ((G3.setCell (Nat.le_refl _) _).setCell (Nat.le_refl _) _).setCell (Nat.le_refl _) _⟩
theorem decode_any (s : ByteArray) (p : Int) (hs : s.size ≤ 1000000) (w : World) (hn : Nms w) :
  Calls Tryz.prog 213 #[.string s, .int .i64 p] w (Got (dec s.data.toList p) w) := by
 have hsz : s.data.toList.length = s.size := by simp
 by_cases h0 : p < 0 ∨ (s.size : Int) < p
 ·rw [dec_out (by omega)]; exact decode_out s p hs h0 w
 obtain ⟨k, rfl⟩ : ∃ k : Nat, p = k := ⟨p.toNat, by omega⟩
 by_cases h2 : k = s.size
 ·subst h2; rw [dec_end (by omega)]; exact decode_end s w
 have hlt : k < s.size := by omega
 have hop := opAt_byte s k hlt
 cases hkn : kn (s[k].toNat : Int)
 ·rw [dec_op (by omega) (by omega) (by rw [hop]; exact hkn)]; exact decode_op s k hlt hkn w
 have hnum := dec_num (l := s.data.toList) (p := k) (by omega) (by omega) (by rw [hop]; exact hkn)
 have hbad := dec_bad (l := s.data.toList) (p := k) (by omega) (by omega) (by rw [hop]; exact hkn)
 have hgood := dec_good (l := s.data.toList) (p := k) (by omega) (by omega) (by rw [hop]; exact hkn)
 rw [hop] at hnum hbad hgood
 obtain ⟨⟨⟨o, a, b⟩, t, E⟩, hR⟩ : ∃ R, wn s.data.toList (s[k].toNat : Int) ((k : Int) + 1) = R := ⟨_, rfl⟩
 rw [hR] at hnum hbad hgood
 by_cases he : E = 0
 ·subst he
  cases hr : right (o, a, b)
  ·rw [hbad rfl hr]; exact decode_bad s k hs hlt hkn o a b t hR hr w hn
  ·rw [hgood rfl hr]; exact decode_good s k hs hlt hkn o a b t hR hr w hn
 ·rw [hnum he]; exact decode_num s k hs hlt hkn o a b t E hR (by simpa using he) w
end Go.Proofs.YtngehojibcmieaaGreatDoor.Kb
end
