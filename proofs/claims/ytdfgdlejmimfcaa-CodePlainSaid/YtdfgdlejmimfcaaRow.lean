/- What is proved here: how a slice of ints reads as a list, the contract of code.List, and of camshaftref02's Same at the same lists. Conditions: numbers fit 64 bits; lists are not too long. -/
import Derived.Test.YtdfgdlejmimfcaaPut
import Derived.Test.YtdfgdlejmimfcaaGet
import Derived.Deep.QuietTactic
import Derived.BigQuiet
namespace Go.Proofs.Ytdfgdlejmimfcaa
open Go.ChangeShapes Go.WideShapes Go.RowKit

/-- A slice of ints reads as a list. -/
def Row (w : World) (a : Option Addr) (n : Nat) (l : List Int) : Prop :=
  n = l.length ∧ (0 < n → ∃ b off, a = some ⟨b, off, none⟩ ∧ b < w.heap.size ∧ ∀ i, i < n → w.cell? ⟨b, off + i, none⟩ = some (.int .i64 (l.getD i 0)))
theorem Row.below {w w' : World} {a : Option Addr} {n : Nat} {l : List Int} (h : Row w a n l) (hb : Below w.heap.size w w') : Row w' a n l := by
  refine ⟨h.1, fun hn => ?_⟩
  obtain ⟨b, off, rfl, hlt, hc⟩ := h.2 hn
  exact ⟨b, off, rfl, Nat.lt_of_lt_of_le hlt hb.size, fun i hi => (hb.cell (p := ⟨b, off + i, none⟩) hlt).trans (hc i hi)⟩
theorem Row.nil (w : World) (a : Option Addr) : Row w a 0 [] := ⟨rfl, fun h => absurd h (by omega)⟩
theorem Row.own {w : World} {base : Nat} {v : Value} {m : Nat} {l : List Int} (h : w.ownsRow base 3 1 v m (l.map (Value.int .i64))) : ∃ a n c, v = .slice a n c ∧ Row w a n l := by
  have hml : m = l.length := by have := h.1; simp at this; omega
  subst hml
  have hl := h.lt
  have hc := fun g => h.cells (g := g)
  rcases h.2 with ⟨hv, h0⟩ | ⟨g, cap, _, hv, _⟩
  · subst hv
    exact ⟨none, 0, 0, rfl, by omega, fun h => absurd h (by omega)⟩
  · subst hv
    refine ⟨_, _, _, rfl, rfl, fun _ => ⟨g, 0, rfl, (hl g rfl).2, fun i hi => ?_⟩⟩
    have := hc g rfl i (.int .i64 (l.getD i 0)) (by simp [hi])
    by_cases h0 : i = 0
    · subst h0; simpa [Addr.add] using this
    · simpa [Addr.add, h0] using this
/-- Each number of a list fits. -/
def FitsL (l : List Int) : Prop := ∀ i, Fits (l.getD i 0)

/-- The bytes of a list's count and of its first k numbers. -/
def encK (n : Nat) (l : List Int) (k : Nat) : List UInt8 := enc (turn n) ++ (l.take k).flatMap fun x => enc (turn x)
/-- A list's bytes. -/
def encL (l : List Int) : List UInt8 := encK l.length l l.length
theorem encK_zero (n : Nat) (l : List Int) : encK n l 0 = enc (turn n) := by simp [encK]
theorem encK_succ {n : Nat} {l : List Int} {k : Nat} (h : k < l.length) : encK n l (k + 1) = encK n l k ++ enc (turn (l.getD k 0)) := by
  unfold encK
  rw [List.take_succ_eq_append_getElem h, List.flatMap_append, List.append_assoc]
  simp [h]
theorem encK_len {n : Nat} {l : List Int} {k : Nat} (hn : n ≤ 1000000) (hF : FitsL l) (h : k ≤ l.length) : (encK n l k).length ≤ 10 * (k + 1) := by
  induction k with
  | zero =>
    rw [encK_zero]
    exact enc_ten (turn_fits (n := (n : Int)) ⟨by omega, by omega⟩)
  | succ k ih =>
    rw [encK_succ (by omega), List.length_append]
    have h1 := ih (by omega)
    have h2 : (enc (turn (l.getD k 0))).length ≤ 10 := enc_ten (turn_fits (hF k))
    omega
theorem encK_pos (n : Nat) (l : List Int) (k : Nat) : 0 < (encK n l k).length := by
  unfold encK; have := enc_pos (turn n); rw [List.length_append]; omega

set_option maxHeartbeats 1000000 in
set_option maxRecDepth 100000 in
theorem list_any (a : Option Addr) (n c : Nat) (l : List Int) (w : World) (hr : Row w a n l) (hF : FitsL l) (hn : n ≤ 1000000) :
    Calls Try.prog 14 #[.slice a n c] w fun e w' => e = .returned (.string (bs (encL l))) ∧ Below w.heap.size w w' := by
  have HN := Lib.hid hr.1
  have HF := Lib.hid hF
  have hfn : Fits (n : Int) := ⟨by omega, by omega⟩
  have HL : Hid (encL l = encK n l n) := by show _ = _; rw [HN.out]; rfl
  clear hF
  go_enter Try.func14, Try.ntmps14
  go_wp2_with (go_at_call 21; refine (behind_any _ hfn w.heap.size 0 _ [] _ (Nat.le_refl _) (by omega) (World.ownsRow_nil _ _ _ _)).mono ?_; rintro e w1 ⟨v, rfl, ho, hb⟩)
  go_loopw [3, 11] (fun b i wr => ∃ k : Nat, k ≤ n ∧ i = .int .i64 k ∧ wr.ownsRow w.heap.size 5 1 b (encK n l k).length (cs (encK n l k)) ∧ Below w.heap.size w wr)
    (fun _ i _ => n - (intOf i).toNat)
  case atStart => exact ⟨0, by omega, rfl, by rw [encK_zero]; simpa using ho, hb⟩
  case round =>
    obtain ⟨k, hk, rfl, hown, hbl⟩ := hrel
    have hbs := hbl.size
    by_cases hlt : k < n
    · obtain ⟨b, off, rfl, hB, hc⟩ := hr.2 (by omega)
      obtain ⟨x, hx⟩ : ∃ x, x = l.getD k 0 := ⟨_, rfl⟩
      have hcx : wr.cell? ⟨b, off + k, none⟩ = some (.int .i64 x) := by rw [hx]; exact (hbl.cell (p := ⟨b, off + k, none⟩) hB).trans (hc k hlt)
      have hfx : Fits x := by rw [hx]; exact HF.out k
      have hl10 := encK_len hn HF.out (k := k) (by rw [← HN.out]; exact hk)
      have HS : Hid (encK n l (k + 1) = encK n l k ++ enc (turn x)) := by show _ = _; rw [hx]; exact encK_succ (by rw [← HN.out]; exact hlt)
      clear hx hc ho hb
      go_wp2_with (go_at_call 21; refine (behind_any _ hfx w.heap.size _ _ _ _ hbs (by omega) hown).mono ?_; rintro e w2 ⟨v2, rfl, ho2, hb2⟩)
      go_roundw
      case rel => exact ⟨k + 1, by omega, by go_num, by rw [HS.out, List.length_append, cs_append]; exact ho2, hbl.trans hb2⟩
      case measure => simp [intOf]; omega
    · have hkn : k = n := by omega
      subst hkn
      have hcv := own_string hown (encK_pos _ _ _)
      clear ho hb
      go_wp2
      go_ret
      exact ⟨by rw [HL.out]; rfl, hbl⟩

set_option maxHeartbeats 1000000 in
set_option maxRecDepth 100000 in
theorem same_any (a b : Option Addr) (n m c d : Nat) (l : List Int) (w : World) (ha : Row w a n l) (hb : Row w b m l) (hn : n ≤ 1000000) :
    Calls Try.prog 20 #[.slice a n c, .slice b m d] w fun e w' => e = .returned (.bool true) ∧ Below w.heap.size w w' := by
  obtain rfl : m = n := hb.1.trans ha.1.symm
  go_enter Try.func20, Try.ntmps20
  go_wp2
  go_loopw [5] (fun i wr => ∃ k : Nat, k ≤ m ∧ i = .int .i64 k ∧ Below w.heap.size w wr) (fun i _ => m - (intOf i).toNat)
  case atStart => exact ⟨0, by omega, rfl, Below.refl _ _⟩
  case round =>
    obtain ⟨k, hk, rfl, hbl⟩ := hrel
    by_cases hlt : k < m
    · obtain ⟨b1, o1, rfl, hB1, hc1⟩ := ha.2 (by omega)
      obtain ⟨b2, o2, rfl, hB2, hc2⟩ := hb.2 (by omega)
      obtain ⟨x, hx⟩ : ∃ x, x = l.getD k 0 := ⟨_, rfl⟩
      have hcx : wr.cell? ⟨b1, o1 + k, none⟩ = some (.int .i64 x) := by rw [hx]; exact (hbl.cell (p := ⟨b1, o1 + k, none⟩) hB1).trans (hc1 k hlt)
      have hcy : wr.cell? ⟨b2, o2 + k, none⟩ = some (.int .i64 x) := by rw [hx]; exact (hbl.cell (p := ⟨b2, o2 + k, none⟩) hB2).trans (hc2 k hlt)
      clear hx hc1 hc2
      go_wp2
      go_quiet (fail)
      go_wp2
      go_roundw
      case rel => exact ⟨k + 1, by omega, by go_num, hbl.trans ⟨rfl, rfl, rfl, Nat.le_refl _, fun _ _ => rfl⟩⟩
      case measure => simp [intOf]; omega
    · go_wp2
      go_ret
      exact ⟨rfl, hbl⟩
end Go.Proofs.Ytdfgdlejmimfcaa
