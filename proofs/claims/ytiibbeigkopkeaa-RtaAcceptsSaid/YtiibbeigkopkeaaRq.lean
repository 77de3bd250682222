/- What is proved here: a contract of the document's Accept. Conditions: rows are not too long. -/
import Derived.Test.YtiibbeigkopkeaaRp
namespace Go.Proofs.Ytiibbeigkopkeaa
open Go.ChangeShapes Go.WideShapes Go.RowKit

/-- The first of the first rows that has no response. -/
def accK (L : List RtR) : Nat → Option (Nat × Int)
  | 0 => none
  | m + 1 => match accK L m with
    | some z => some z
    | none => if (rspR L m).2 ≠ 0 then some (m, (rspR L m).2) else none
/-- The responses of the first rows. -/
def accV (L : List RtR) (m : Nat) : List Int := (List.range m).map fun j : Nat => (rspR L (j : Int)).1
/-- All responses, the place and what is wrong. -/
def accR (L : List RtR) : List Int × Int × Int :=
  if rgR L = true then match accK L L.length with
    | some (k, e) => ([], (k : Int), e)
    | none => (accV L L.length, -1, 0)
  else ([], -1, 1)
theorem accK_none {L : List RtR} {m : Nat} (h : accK L m = none) (h0 : (rspR L m).2 = 0) : accK L (m + 1) = none := by
  conv => lhs; unfold accK
  rw [h]; exact if_neg (by rw [h0]; simp)
theorem accK_some {L : List RtR} {m : Nat} (h : accK L m = none) (h0 : (rspR L m).2 ≠ 0) : accK L (m + 1) = some (m, (rspR L m).2) := by
  conv => lhs; unfold accK
  rw [h]; exact if_pos h0
theorem accK_more {L : List RtR} {m : Nat} {z : Nat × Int} (h : accK L m = some z) : ∀ j, accK L (m + j) = some z
  | 0 => h
  | j + 1 => by
    rw [show m + (j + 1) = (m + j) + 1 by omega]
    conv => lhs; unfold accK
    rw [accK_more h j]
theorem accV_succ (L : List RtR) (m : Nat) : accV L (m + 1) = accV L m ++ [(rspR L m).1] := by unfold accV; rw [List.range_succ, List.map_append]; rfl
set_option maxHeartbeats 4000000 in
set_option maxRecDepth 100000 in
theorem acceptR_any (a : Option Addr) (n c : Nat) (L : List RtR) (w : World) (hr : RowS w a n L) (hn : n ≤ 140737488355328) (l : List Int) (rp er : Int) (hq : accR L = (l, rp, er)) :
    Calls Try.prog 17 #[.slice a n c] w fun e w' => ∃ ra rn rc, e = .returned (.tuple #[.slice ra rn rc, .int .i64 rp, .int .i64 er]) ∧ Row w' ra rn l ∧ Below w.heap.size w w' := by
  have HL := Lib.hid hr.1
  obtain ⟨g, hg⟩ : ∃ g, rgR L = g := ⟨_, rfl⟩
  have CR := Lib.hid (rowsR_any a n c L w hr hn g hg)
  obtain ⟨tinf, hi0, hz0, hz1, hz2⟩ := info_parts int_info
  unfold accR at hq
  rw [hg] at hq
  cases g
  · rw [if_neg (by decide)] at hq; cases hq
    clear hg
    go_enter Try.func17, Try.ntmps17
    go_wp2_with (go_at_call 19; refine CR.out.mono ?_; rintro e w2 ⟨rfl, hb2⟩)
    go_ret3
    exact ⟨_, _, _, rfl, ⟨rfl, fun h => absurd h (by omega)⟩, hb2⟩
  rw [if_pos rfl] at hq
  have hn8 : n ≤ 8 := by have h1 := hr.1; unfold rgR at hg; simp only [Bool.and_eq_true, decide_eq_true_eq] at hg; omega
  have HQ := Lib.hid hq
  have CN := Lib.hid (fun (k : Nat) (p : Int × Int) (hp : rspR L k = p) W (hb : Below w.heap.size w W) => respR_any a n c L k W (hr.below hb) hn p.1 p.2 hp)
  clear hq hg hr
  go_enter Try.func17, Try.ntmps17
  go_wp2_with (go_at_call 19; refine CR.out.mono ?_; rintro e w2 ⟨rfl, hb2⟩)
  go_loopw [5, 6] (fun s j wr => ∃ kk : Nat, kk ≤ n ∧ j = .int .i64 kk ∧ Hid (wr.ownsRow w.heap.size 3 1 s kk ((accV L kk).map (Value.int .i64))) ∧ Hid (accK L kk = none) ∧ Hid (Below w.heap.size w wr)) (fun _ j _ => n - (intOf j).toNat)
  case atStart => exact ⟨0, by omega, rfl, Lib.hid (World.ownsRow_nil _ _ _ _), rfl, hb2⟩
  case round =>
    obtain ⟨kk, hk, rfl, HO, HK, HBL⟩ := hrel
    by_cases hlt : kk < n
    · have j1 : (0 : Int) ≤ (kk : Int) := by omega
      have j2 : (kk : Int) < (n : Int) := by omega
      obtain ⟨⟨pv, pe⟩, hp⟩ : ∃ p, rspR L kk = p := ⟨_, rfl⟩
      have C := Lib.hid (CN.out kk (pv, pe) hp wr HBL.out)
      have HP := Lib.hid hp
      clear hp
      by_cases hpe : pe = 0
      · subst hpe
        have HK2 : Hid (accK L (kk + 1) = none) := accK_none HK.out (by rw [HP.out])
        have HV2 : Hid (accV L (kk + 1) = accV L kk ++ [pv]) := by show _ = _; rw [accV_succ, HP.out]
        go_wp2_with (first
          | (go_at_call 15; refine C.out.mono ?_; rintro e w3 ⟨rfl, hb3⟩; have HBV := Lib.hid (keep_below HBL.out hb3); have hbs := HBV.out.size; have HOV := Lib.hid (own_keep HO.out hb3))
          | (at_builtin; refine wpList_append_own _ rfl _ _ 33 rfl w.heap.size 3 tinf (.int .i64 0) 1 8 Try.underlying33 hi0 hz0 hz1 hz2 rfl (by decide) _ _ _ rfl (HOV.out.alloc _) ⟨w3.heap.size, 0, none⟩ 1 1 [.int .i64 pv] rfl rfl ?c1 ?c2 ?c3 ?c4 ?c5 ?_))
        case c1 =>
          intro j t hj
          match j, hj with
          | 0, hj => simp at hj; subst hj; simp [Addr.add]
        case c2 => intro t ht; simp at ht; subst ht; rfl
        case c3 => unfold maxLen; omega
        case c4 => omega
        case c5 => simp; omega
        · intro v' w5 hown' hgrow _
          have hb5 : Below w.heap.size w w5 := (HBV.out.alloc HBV.out.size _).grown hgrow (by simp; omega) (fun g hg => (HOV.out.lt g hg).1)
          have HO5 : Hid (w5.ownsRow w.heap.size 3 1 v' (kk + 1) ((accV L (kk + 1)).map (Value.int .i64))) := by
            show World.ownsRow _ _ _ _ _ _ _
            rw [HV2.out, List.map_append]; exact hown'
          clear hown' hgrow
          go_wp2
          go_roundw
          case rel => exact ⟨kk + 1, by omega, by go_num, HO5, HK2, hb5⟩
          case measure => simp [intOf]; omega
      · have HR : Hid (l = [] ∧ rp = kk ∧ er = pe) := by
          have h1 := accK_some HK.out (by rw [HP.out]; exact hpe)
          have h2 := accK_more h1 (n - (kk + 1))
          rw [show kk + 1 + (n - (kk + 1)) = n by omega, HP.out] at h2
          have := HQ.out
          rw [← HL.out, h2] at this
          cases this; exact ⟨rfl, rfl, rfl⟩
        have d5 : (pe == 0) = false := beq_eq_false_iff_ne.2 hpe
        go_wp2_with (go_at_call 15; refine C.out.mono ?_; rintro e w3 ⟨rfl, hb3⟩)
        go_ret3
        exact ⟨_, _, _, by rw [HR.out.2.1, HR.out.2.2]; rfl, by rw [HR.out.1]; exact ⟨rfl, fun h => absurd h (by omega)⟩, keep_below HBL.out hb3⟩
    · obtain rfl : n = kk := by omega
      have HR : Hid (l = accV L n ∧ rp = -1 ∧ er = 0) := by
        have := HQ.out
        rw [← HL.out, HK.out] at this
        cases this; exact ⟨rfl, rfl, rfl⟩
      obtain ⟨a5, n5, c5, rfl, hR⟩ := Row.own HO.out
      have HRW := Lib.hid hR
      clear hR
      go_wp2
      go_ret3
      exact ⟨_, _, _, by rw [HR.out.2.1, HR.out.2.2]; rfl, by rw [HR.out.1]; exact HRW.out, HBL.out⟩
end Go.Proofs.Ytiibbeigkopkeaa
