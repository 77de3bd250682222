/- What is proved here: contracts of the document's within, home, Home and Whole for layer 6. Conditions: the row is not too long. -/
import Derived.Test.YtkkoekfdncoifaaDoorRmt
namespace Go.Proofs.YtkkoekfdncoifaaDoor
open Go.ChangeShapes Go.WideShapes Go.RowKit

/-- Does a place stand in a region? -/
def wi (L : List (Int × Int × Int)) (k i : Nat) : Bool := decide (k ∈ sk L i)
theorem wi_iff {L : List (Int × Int × Int)} {k i : Nat} : wi L k i = true ↔ k ∈ sk L i := by unfold wi; simp
theorem wi_eq {L : List (Int × Int × Int)} (hS : Sound L) {k i : Nat} (hi : i ≤ L.length) (hk : k < i) : wi L k i = decide ((i : Int) ≤ mt L L.length k) := by
  unfold wi
  rw [Bool.eq_iff_iff, decide_eq_true_iff, decide_eq_true_iff, hS.within hi]
  constructor
  · intro h; exact h.2
  · intro h; exact ⟨hk, h⟩
theorem hm_is {L : List (Int × Int × Int)} {k i : Nat} (h : k ∈ sk L i) (hA : ∀ t, t ∈ sk L i → (t : Int) ≤ k) : hm L i = k := by
  have h1 := hm_max h
  cases hi : sk L i with
  | nil => rw [hi] at h; simp at h
  | cons t s =>
    have := hA t (by rw [hi]; simp)
    rw [hm_cons hi] at h1 ⊢; omega
theorem hm_none {L : List (Int × Int × Int)} {i : Nat} (hA : ∀ t : Nat, t ∈ sk L i → (t : Int) ≤ -1) : hm L i = -1 := by
  cases hi : sk L i with
  | nil => exact hm_nil hi
  | cons t s => have := hA t (by rw [hi]; simp); omega
set_option maxHeartbeats 1000000 in
set_option maxRecDepth 100000 in
theorem homeR_any (a a2 : Option Addr) (n c c2 : Nat) (L : List (Int × Int × Int)) (i : Nat) (hi : i < n) (hn : n ≤ 200) (hS : Sound L) (w : World) (hr : RowI w a n L) (hm : Row w a2 n (mL L)) :
    Calls Tryd.prog 37 #[.slice a n c, .slice a2 n c2, .int .i64 i] w fun e w' => e = .returned (.int .i64 (Go.Proofs.YtkkoekfdncoifaaDoor.hm L i)) ∧ Below w.heap.size w w' := by
  have HL := Lib.hid hr.1
  have HS := Lib.hid hS
  clear hS
  go_enter Tryd.func37, Tryd.ntmps37
  go_wp2
  go_loopw [7] (fun v wr => ∃ j : Int, -1 ≤ j ∧ j < i ∧ v = .int .i64 j ∧ Hid (∀ t : Nat, t ∈ sk L i → (t : Int) ≤ j) ∧ Below w.heap.size w wr) (fun v _ => (intOf v + 1).toNat)
  case atStart => exact ⟨(i : Int) - 1, by omega, by omega, by go_num, fun t ht => by have := sk_lt ht; omega, Below.refl _ _⟩
  case round =>
    obtain ⟨j, hj1, hj2, rfl, HA, hbl⟩ := hrel
    by_cases hj : 0 ≤ j
    · obtain ⟨k, rfl⟩ : ∃ k : Nat, j = k := ⟨j.toNat, by omega⟩
      have hki : k < i := by omega
      have hkn : k < n := by omega
      obtain ⟨b1, o1, p1, p2, p3, rfl, hB1, hx, hc1, hc2, hc3⟩ := (hr.below hbl).at_ hkn
      have HX := Lib.hid (at_some hx)
      clear hx
      have co := opens_any p1 p2 p3 wr
      rw [← HX.out] at co
      have hw := wi_eq HS.out (k := k) (i := i) (by rw [← HL.out]; omega) hki
      have HD : Hid (wi L k i = false → ∀ t : Nat, t ∈ sk L i → (t : Int) ≤ (k : Int) - 1) := by
        intro h t ht
        have h1 := HA.out t ht
        have : t ≠ k := by intro e; rw [e, ← wi_iff, h] at ht; cases ht
        omega
      cases ho : opn (at_ L k)
      · have hwf : wi L k i = false := by
          cases hv : wi L k i
          · rfl
          · have := sk_open (wi_iff.1 hv); rw [this] at ho; cases ho
        have HD2 := Lib.hid (HD.out hwf)
        rw [ho] at co
        have CO := Lib.hid co
        clear co ho hw hwf HX HA HD
        go_wp2_with (go_at_call 39; refine CO.out.mono ?_; rintro e w2 ⟨rfl, hb2⟩)
        go_roundw
        case rel => exact ⟨(k : Int) - 1, by omega, by omega, by go_num, HD2, keep_below hbl hb2⟩
        case measure => simp [intOf]
      · rw [ho] at co
        have CO := Lib.hid co
        have HM := Lib.hid hm
        have HR : Hid (∀ W, Below w.heap.size w W → ∃ b2 o2, a2 = some ⟨b2, o2, none⟩ ∧ W.cell? ⟨b2, o2 + k, none⟩ = some (.int .i64 (mt L L.length k))) := by
          intro W hW
          obtain ⟨b2, o2, e, hB2, hcs⟩ := (HM.out.below hW).2 (by omega)
          have d1 := hcs k (by omega)
          rw [mL_at (by rw [← HL.out]; omega)] at d1
          exact ⟨b2, o2, e, d1⟩
        obtain ⟨x, hx⟩ : ∃ x, x = mt L L.length k := ⟨_, rfl⟩
        rw [← hx] at hw HR
        cases hv : wi L k i
        · have HD2 := Lib.hid (HD.out hv)
          have e1 : decide ((i : Int) ≤ x) = false := by rw [← hw]; exact hv
          clear co ho hw hv HX HA HD hx hm HM
          go_wp2_with fail
          refine CO.out.mono ?_
          rintro e w2 ⟨rfl, hb2⟩
          have G2 := keep_below hbl hb2
          obtain ⟨b2, o2, rfl, d1⟩ := HR.out w2 G2
          go_wp2
          go_roundw
          case rel => exact ⟨(k : Int) - 1, by omega, by omega, by go_num, HD2, G2⟩
          case measure => simp [intOf]
        · have HQ := Lib.hid (hm_is (wi_iff.1 hv) HA.out)
          have e1 : decide ((i : Int) ≤ x) = true := by rw [← hw]; exact hv
          have e2 : (i : Int) ≤ x := of_decide_eq_true e1
          clear co ho hw hv HX HA HD hx hm HM
          go_wp2_with fail
          refine CO.out.mono ?_
          rintro e w2 ⟨rfl, hb2⟩
          have G2 := keep_below hbl hb2
          obtain ⟨b2, o2, rfl, d1⟩ := HR.out w2 G2
          go_wp2
          go_ret
          exact ⟨by rw [HQ.out]; rfl, G2⟩
    · have hjj : j = -1 := by omega
      subst hjj
      have HQ := Lib.hid (hm_none HA.out)
      clear HA
      go_wp2
      go_ret
      exact ⟨by rw [HQ.out]; rfl, hbl⟩
end Go.Proofs.YtkkoekfdncoifaaDoor
