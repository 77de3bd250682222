/- What is proved here: the contract of the document's Same, at the same rows. Conditions: rows are not too long. -/
import Derived.Test.YtdhchfmefdlloaaMo
import Derived.Laws.StructEq
namespace Go.Proofs.Ytdhchfmefdlloaa
open Go.ChangeShapes Go.WideShapes Go.RowKit

theorem guard58 : Try.prog.eqGuardType Try.prog.depth 58 = false := by kernel_rfl
theorem neq58 (x y : Int) (w : World) : (binOp .neq 58 (.agg #[.int .i64 x, .int .i64 y]) (.agg #[.int .i64 x, .int .i64 y])).run Try.prog w = .ok (.bool false) w := by
  have u3 := Try.underlying3
  have a3 := Try.isAgg3
  have z3 := Try.sizeOf3
  have hS : Try.prog.underlying 58 = some (.struct (Try.prog.fieldsOf 58)) := by kernel_rfl
  have hp : Try.prog.stoodInHeld 58 = false := by kernel_rfl
  rw [run_neq_struct, show (10000 : Nat) = 9999 + 1 from rfl, run_equalIn_agg w 9999 58 _ _ hS hp]
  simp only [Program.fieldsOf, Try.underlying58]
  go_simp
set_option maxHeartbeats 1000000 in
set_option maxRecDepth 100000 in
theorem same_any (a b : Option Addr) (n m c d : Nat) (l : List (Int × Int)) (w : World) (ha : RowP w a n l) (hb : RowP w b m l) (hn : n ≤ 1000000000000) :
    Calls Try.prog 16 #[.slice a n c, .slice b m d] w fun e w' => e = .returned (.bool true) ∧ Below w.heap.size w w' := by
  obtain rfl : m = n := hb.1.trans ha.1.symm
  have hg := guard58
  go_enter Try.func16, Try.ntmps16
  go_wp2
  go_loopw [5] (fun i wr => ∃ k : Nat, k ≤ m ∧ i = .int .i64 k ∧ Below w.heap.size w wr) (fun i _ => m - (intOf i).toNat)
  case atStart => exact ⟨0, by omega, rfl, Below.refl _ _⟩
  case round =>
    obtain ⟨k, hk, rfl, hbl⟩ := hrel
    by_cases hlt : k < m
    · obtain ⟨b1, o1, x, rfl, hB1, hx, h0, h1⟩ := ha.item hbl hlt
      obtain ⟨b2, o2, y, rfl, hB2, hy, h2, h3⟩ := hb.item hbl hlt
      obtain rfl : y = x := by rw [hx] at hy; exact (Option.some.inj hy).symm
      obtain ⟨y1, y2⟩ := y
      simp only at h0 h1 h2 h3
      have hq := fun W => neq58 y1 y2 W
      clear hx hy
      go_wp2
      go_quiet (fail)
      go_wp2
      go_roundw
      case rel => exact ⟨k + 1, by omega, by go_num, hbl.trans ⟨rfl, rfl, rfl, Nat.le_refl _, fun _ _ => rfl⟩⟩
      case measure => simp [intOf]; omega
    · go_wp2
      go_ret
      exact ⟨rfl, hbl⟩
theorem lit_due (W : World) (cs : Array Value) (l : List (Int × Int)) (n : Nat) (hn : n = l.length) (h : cs.toList = duC l) (hl : l.length ≤ 1000) : RowP (W.alloc (.cells cs 58)) (some ⟨W.heap.size, 0, none⟩) n l := by
  subst hn
  have hs : cs.size = l.length * 2 := by have := congrArg List.length h; rw [duC_len] at this; simpa using this
  have := World.ownsRow_lit (base := 0) (e := 58) (size := 2) W cs l.length (by omega) (by unfold maxLen; omega) hs
  rw [h] at this
  obtain ⟨a, c, hv, _, hr⟩ := RowP.own this
  cases hv
  exact hr
end Go.Proofs.Ytdhchfmefdlloaa
