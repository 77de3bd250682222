/- What is proved here: the contract of the document's Ceilings. Conditions: rows are not too long. -/
import Derived.Test.YthicoekoeffpaaaR2
import Derived.Test.YthicoekoeffpaaaCe
namespace Go.Proofs.Ythicoekoeffpaaa
open Go.ChangeShapes Go.WideShapes Go.RowKit

theorem info_parts {i : Option TypeInfo} {z : Value} {s b : Nat} (h : i.map (fun i => (i.zero, i.size, i.bytes)) = some (some z, s, b)) : ∃ j, i = some j ∧ j.zero = some z ∧ j.size = s ∧ j.bytes = b := by
  obtain ⟨j, hj, e⟩ := Option.map_eq_some_iff.1 h
  simp only [Prod.mk.injEq] at e
  exact ⟨j, hj, e.1, e.2.1, e.2.2⟩
theorem own_keep {w w' : World} {base e size : Nat} {v : Value} {m : Nat} {xs : List Value} (h : w.ownsRow base e size v m xs) (hb : Below w.heap.size w w') : w'.ownsRow base e size v m xs :=
  h.kept (row := none) ⟨hb.os, hb.tape, hb.output, hb.size, fun i hi _ => hb.block i hi⟩ (by
    cases h : v.ownBlock with
    | none => exact Or.inl rfl
    | some _ => exact Or.inr (by simp))
/-- What a call leaves that tells a row of ints. -/
def GotI (l : List Int) (w : World) (e : Ending) (w' : World) : Prop := ∃ a n c, e = .returned (.slice a n c) ∧ Row w' a n l ∧ Below w.heap.size w w'
theorem cL_no {B : Int} {L : List UsP} (h : okL B L = false) : cL B L = [] := by unfold cL; rw [h]; rfl
theorem cL_yes {B : Int} {L : List UsP} (h : okL B L = true) : cL B L = ceilL B L := by unfold cL; rw [if_pos h]
theorem wL_no {B : Int} {L : List UsP} (h : okL B L = false) : wL B L = [] := by unfold wL; rw [h]; rfl
theorem wL_yes {B : Int} {L : List UsP} (h : okL B L = true) : wL B L = waitL L := by unfold wL; rw [if_pos h]
set_option maxHeartbeats 2000000 in
set_option maxRecDepth 100000 in
theorem ceilingsR_any (B : Int) (a : Option Addr) (n c : Nat) (L : List UsP) (w : World) (hr : RowU w a n L) (hn : n ≤ 140737488355328) (l : List Int) (hq : cL B L = l) :
    Calls Try.prog 17 #[.int .i64 B, .slice a n c] w (GotI l w) := by
  unfold GotI
  obtain ⟨i0, hi0, hz0, hz1, hz2⟩ := info_parts int_info
  obtain ⟨ok, hok⟩ : ∃ ok, okL B L = ok := ⟨_, rfl⟩
  have CR := Lib.hid (fun W (hb : Below w.heap.size w W) => rightR_any B a n c L W (hr.below hb) hn ok hok)
  have CC := Lib.hid (fun (b : Int) W (hb : Below w.heap.size w W) => ceilingR_any b a n c L W (hr.below hb) hn _ rfl)
  have HO := Lib.hid hok
  have HQ := Lib.hid hq
  clear hq hok hr
  go_enter Try.func17, Try.ntmps17
  go_wp2
  go_loopw [5, 6] (fun s i wr => ∃ q : Nat, ((q : Int) ≤ B ∨ q = 0) ∧ (ok = false → q = 0) ∧ i = .int .i64 q ∧ wr.ownsRow w.heap.size 3 1 s q ((l.take q).map (Value.int .i64)) ∧ Below w.heap.size w wr) (fun _ i _ => B.toNat - (intOf i).toNat)
  case atStart => exact ⟨0, Or.inr rfl, fun _ => rfl, rfl, World.ownsRow_nil _ _ _ _, Below.refl _ _⟩
  case round =>
    obtain ⟨q, hq, hq0, rfl, hown, hbl⟩ := hrel
    have hbs := hbl.size
    by_cases hlt : (q : Int) < B
    · have d1 : decide ((q : Int) < B) = true := decide_eq_true hlt
      cases ok
      · obtain rfl : q = 0 := hq0 rfl
        have HL : Hid (l = []) := by show _ = _; rw [← HQ.out, cL_no HO.out]
        obtain ⟨a5, n5, c5, rfl, hR⟩ := Row.own hown
        have HRW := Lib.hid hR
        clear hown hR
        go_wp2_with (go_at_call 13; refine (CR.out _ hbl).mono ?_; rintro e w2 ⟨rfl, hb2⟩)
        go_ret
        exact ⟨_, _, _, rfl, by have := HRW.out.below hb2; rw [HL.out] at this ⊢; exact this, keep_below hbl hb2⟩
      · have hq8 : q < 8 := by have := (okL_of HO.out).b8; omega
        have hlq : l[q]? = some (ceB L (q : Int)) := by rw [← HQ.out, cL_yes HO.out]; exact ceilL_at (by omega)
        have HTK := Lib.hid (take_cat hlq)
        clear hlq
        generalize hx : ceB L (q : Int) = x at HTK
        have HX := Lib.hid hx
        clear hx
        go_wp2_with (first
          | (go_at_call 30; refine (CC.out _ _ (keep_below hbl hb2)).mono ?_; rintro e w3 ⟨rfl, rfl⟩; rw [HX.out])
          | (go_at_call 13; refine (CR.out _ hbl).mono ?_; rintro e w2 ⟨rfl, hb2⟩; have hown2 := own_keep hown hb2; have hbl2 := keep_below hbl hb2; have hbs2 := hbl2.size)
          | (at_builtin; refine wpList_append_own _ rfl _ _ 30 rfl w.heap.size 3 i0 (.int .i64 0) 1 8 Try.underlying30 hi0 hz0 hz1 hz2 rfl (by decide) _ _ _ rfl (hown2.alloc _) ⟨w3.heap.size, 0, none⟩ 1 1 [.int .i64 x] rfl rfl ?c1 ?c2 ?c3 ?c4 ?c5 ?_))
        case c1 =>
          intro j t hj
          match j, hj with
          | 0, hj => simp at hj; subst hj; simp [Addr.add]
        case c2 => intro t ht; simp at ht; subst ht; rfl
        case c3 => unfold maxLen; omega
        case c4 => omega
        case c5 => simp; omega
        · intro v' w5 hown' hgrow _
          have hb5 : Below w.heap.size w w5 := (hbl2.alloc hbl2.size _).grown hgrow (by simp; omega) (fun g hg => (hown2.lt g hg).1)
          have hown3 : w5.ownsRow w.heap.size 3 1 v' (q + 1) ((l.take (q + 1)).map (Value.int .i64)) := by
            rw [HTK.out, List.map_append, List.map_take]; exact hown'
          clear hown' hgrow hown hown2
          go_wp2
          go_roundw
          case rel => exact ⟨q + 1, Or.inl (by omega), (fun h => by cases h), by go_num, hown3, hb5⟩
          case measure => simp [intOf]; omega
    · have d1 : decide ((q : Int) < B) = false := decide_eq_false hlt
      have hlen : l.length ≤ q := by
        rw [← HQ.out]
        cases ok
        · rw [cL_no HO.out]; exact Nat.zero_le _
        · rw [cL_yes HO.out, ceilL_len]; omega
      rw [List.take_of_length_le hlen] at hown
      obtain ⟨a5, n5, c5, rfl, hR⟩ := Row.own hown
      have HRW := Lib.hid hR
      clear hown hR
      go_wp2
      go_ret
      first | exact ⟨_, _, ⟨_, rfl⟩, HRW.out, hbl⟩ | exact ⟨_, _, _, rfl, HRW.out, hbl⟩
end Go.Proofs.Ythicoekoeffpaaa
