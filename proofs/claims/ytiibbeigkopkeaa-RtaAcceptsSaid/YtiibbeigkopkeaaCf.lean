/- What is proved here: a contract of the program's Accept. Conditions: rows are not too long. -/
import Derived.Test.YtiibbeigkopkeaaCe
import Derived.Test.YtiibbeigkopkeaaRq
namespace Go.Proofs.Ytiibbeigkopkeaa
open Go.ChangeShapes Go.WideShapes Go.RowKit

/-- What stands in the row of responses while it is filled. -/
def fil (L : List RtR) (k j : Nat) : Value := .int .i64 (if j < k then (rspR L (j : Int)).1 else 0)
theorem accV_at (L : List RtR) (m j : Nat) (h : j < m) : (accV L m).getD j 0 = (rspR L (j : Int)).1 := by
  unfold accV
  rw [List.getD_eq_getElem?_getD, List.getElem?_map, List.getElem?_range h]; rfl
theorem row_fil {W : World} {g n : Nat} {L : List RtR} (h : W.rowIs g 3 n (fil L n)) : Row W (some ⟨g, 0, none⟩) n (accV L n) := by
  refine ⟨by simp [accV], fun _ => ⟨g, 0, rfl, h.lt, fun k hk => ?_⟩⟩
  rw [Nat.zero_add, h.cell hk]
  unfold fil
  rw [if_pos hk, accV_at L n k hk]
theorem below_set {w W : World} {g j : Nat} {v : Value} (hb : Below w.heap.size w W) (hg : w.heap.size ≤ g) : Below w.heap.size w (W.setCell ⟨g, j, none⟩ v) :=
  ⟨hb.os, hb.tape, hb.output, by simpa using hb.size, fun i hi => by rw [← hb.block i hi]; exact Go.Deep.blk_setCell_other _ _ _ _ (by show i ≠ g; omega)⟩
set_option maxHeartbeats 4000000 in
set_option maxRecDepth 100000 in
theorem accP_any (a : Option Addr) (n c : Nat) (L : List RtR) (w : World) (hr : RowS w a n L) (hn : n ≤ 140737488355328) (l : List Int) (rp er : Int) (hq : accR L = (l, rp, er)) :
    Calls Try.prog 16 #[.slice a n c] w fun e w' => ∃ ra rn rc, e = .returned (.tuple #[.slice ra rn rc, .int .i64 rp, .int .i64 er]) ∧ Row w' ra rn l ∧ Below w.heap.size w w' := by
  have HL := Lib.hid hr.1
  obtain ⟨g, hg⟩ : ∃ g, rgR L = g := ⟨_, rfl⟩
  have CR := Lib.hid (rowsP_any a n c L w hr hn g hg)
  unfold accR at hq
  rw [hg] at hq
  cases g
  · rw [if_neg (by decide)] at hq; cases hq
    clear hg
    go_enter Try.func16, Try.ntmps16
    go_wp2_with (go_at_call 18; refine CR.out.mono ?_; rintro e w2 ⟨rfl, hb2⟩)
    go_ret3
    exact ⟨_, _, _, rfl, ⟨rfl, fun h => absurd h (by omega)⟩, hb2⟩
  rw [if_pos rfl] at hq
  have hn8 : n ≤ 8 := by have h1 := hr.1; unfold rgR at hg; simp only [Bool.and_eq_true, decide_eq_true_eq] at hg; omega
  have HQ := Lib.hid hq
  have CN := Lib.hid (fun (k : Nat) (p : Int × Int) (hp : rspR L k = p) W (hb : Below w.heap.size w W) => respP_any a n c L k W (hr.below hb) hn p.1 p.2 hp)
  have hmk := run_make_row' (P := Try.prog) 33 3 (.int .i64 0) 8 Try.underlying33 int_info rfl .i64 .i64 n (by omega) (by omega)
  clear hq hg hr
  go_enter Try.func16, Try.ntmps16
  go_wp2_with (go_at_call 18; refine CR.out.mono ?_; rintro e w2 ⟨rfl, hb2⟩)
  have R0 : Hid ((w2.alloc (.cells (madeCells #[.int .i64 0] n) 3)).rowIs w2.heap.size 3 n (fil L 0)) := (World.rowIs_made w2 (.int .i64 0) n 3).congr (fun j _ => by unfold fil; rw [if_neg (by omega)])
  have B0 := Lib.hid (hb2.alloc hb2.size (.cells (madeCells #[.int .i64 0] n) 3))
  have hgp := hb2.size
  generalize w2.alloc (.cells (madeCells #[.int .i64 0] n) 3) = W0 at R0 B0 ⊢
  generalize w2.heap.size = gp at R0 hgp ⊢
  clear hmk hb2
  go_loopw [17] (fun j wr => ∃ kk : Nat, kk ≤ n ∧ j = .int .i64 kk ∧ Hid (wr.rowIs gp 3 n (fil L kk)) ∧ Hid (accK L kk = none) ∧ Hid (Below w.heap.size w wr)) (fun j _ => n - (intOf j).toNat)
  case atStart => exact ⟨0, by omega, rfl, R0, rfl, B0⟩
  case round =>
    obtain ⟨kk, hk, rfl, HO, HK, HBL⟩ := hrel
    by_cases hlt : kk < n
    · have j1 : (0 : Int) ≤ (kk : Int) := by omega
      have j2 : (kk : Int) < (n : Int) := by omega
      obtain ⟨⟨pv, pe⟩, hp⟩ : ∃ p, rspR L kk = p := ⟨_, rfl⟩
      have C := Lib.hid (CN.out kk (pv, pe) hp wr HBL.out)
      have HP := Lib.hid hp
      clear hp
      by_cases hpe : pe = 0
      · subst hpe
        have HK2 : Hid (accK L (kk + 1) = none) := accK_none HK.out (by rw [HP.out])
        go_wp2_with (go_at_call 14; refine C.out.mono ?_; rintro e w3 ⟨rfl, hb3⟩; have HBV := Lib.hid (keep_below HBL.out hb3); have HOV := Lib.hid (HO.out.of_block (hb3.block _ HO.out.lt)); have fz := HOV.out.frozen kk; have cz := HOV.out.cell hlt)
        go_roundw
        case rel =>
          refine ⟨kk + 1, by omega, by go_num, (HOV.out.set kk (.int .i64 pv)).congr (fun j hj => ?_), HK2, below_set HBV.out hgp⟩
          unfold fil
          by_cases e : j = kk
          · rw [if_pos e, if_pos (by omega), e, HP.out]
          · rw [if_neg e]
            by_cases e2 : j < kk
            · rw [if_pos e2, if_pos (by omega)]
            · rw [if_neg e2, if_neg (by omega)]
        case measure => simp [intOf]; omega
      · have HR : Hid (l = [] ∧ rp = kk ∧ er = pe) := by
          have h1 := accK_some HK.out (by rw [HP.out]; exact hpe)
          have h2 := accK_more h1 (n - (kk + 1))
          rw [show kk + 1 + (n - (kk + 1)) = n by omega, HP.out] at h2
          have := HQ.out
          rw [← HL.out, h2] at this
          cases this; exact ⟨rfl, rfl, rfl⟩
        have d5 : (pe == 0) = false := beq_eq_false_iff_ne.2 hpe
        go_wp2_with (go_at_call 14; refine C.out.mono ?_; rintro e w3 ⟨rfl, hb3⟩)
        go_ret3
        exact ⟨_, _, _, by rw [HR.out.2.1, HR.out.2.2]; rfl, by rw [HR.out.1]; exact ⟨rfl, fun h => absurd h (by omega)⟩, keep_below HBL.out hb3⟩
    · obtain rfl : n = kk := by omega
      have HR : Hid (l = accV L n ∧ rp = -1 ∧ er = 0) := by
        have := HQ.out
        rw [← HL.out, HK.out] at this
        cases this; exact ⟨rfl, rfl, rfl⟩
      have HRW := Lib.hid (row_fil HO.out)
      go_wp2
      go_ret3
      exact ⟨_, _, _, by rw [HR.out.2.1, HR.out.2.2]; rfl, by rw [HR.out.1]; exact HRW.out, HBL.out⟩
end Go.Proofs.Ytiibbeigkopkeaa
