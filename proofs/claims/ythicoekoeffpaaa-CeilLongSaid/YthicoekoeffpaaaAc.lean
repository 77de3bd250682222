/- What is proved here: the contract of ceil.Active. Conditions: the row is not too long. -/
import Derived.Test.YthicoekoeffpaaaBi
namespace Go.Proofs.Ythicoekoeffpaaa
open Go.ChangeShapes Go.WideShapes Go.RowKit

theorem Row.take {w : World} {a : Option Addr} {n : Nat} {l : List Int} (h : Row w a n l) (m : Nat) (hm : m ≤ n) : Row w a m (l.take m) := by
  refine ⟨by have := h.1; simp; omega, fun h0 => ?_⟩
  obtain ⟨b, off, e, hlt, hc⟩ := h.2 (by omega)
  refine ⟨b, off, e, hlt, fun i hi => ?_⟩
  rw [hc i (by omega), List.getD_eq_getElem?_getD, List.getD_eq_getElem?_getD, List.getElem?_take, if_pos hi]
theorem gre_short (p : Int) (l : List Int) (c : Nat → Bool) {n m : Nat} (h : n ≤ m) : gre p (l.take m) c n = gre p l c n := by
  unfold gre
  refine maxF_same fun x => ?_
  rw [grL_mem, grL_mem]
  constructor
  · rintro ⟨k, h1, h2, h3⟩
    exact ⟨k, h1, h2, by rw [← h3, List.getD_eq_getElem?_getD, List.getD_eq_getElem?_getD, List.getElem?_take, if_pos (by omega)]⟩
  · rintro ⟨k, h1, h2, h3⟩
    exact ⟨k, h1, h2, by rw [← h3, List.getD_eq_getElem?_getD, List.getD_eq_getElem?_getD, List.getElem?_take, if_pos (by omega)]⟩
set_option maxHeartbeats 1000000 in
set_option maxRecDepth 100000 in
theorem active_any (p h : Int) (a : Option Addr) (n c : Nat) (l : List Int) (w : World) (hr : Row w a n l) (hn : n ≤ 140737488355328) (hnc : n ≤ c) (r : Int) (hq : acV p h l = r) :
    Calls Try.prog 20 #[.int .i64 p, .int .i64 h, .slice a n c] w fun e w' => e = .returned (.int .i64 r) ∧ Below w.heap.size w w' := by
  have hmf : ∀ (fn : Fn) (first cap : Array Value) (w : World), (Instr.makeFunc fn first cap).run Try.prog w = .ok (.func fn first cap) w := fun _ _ _ _ => rfl
  have I1 := Lib.hid (One.new w #[.int .i64 h] 3)
  have d0 := I1.out.2 0 _ rfl
  obtain ⟨m, hm⟩ : ∃ m, m = min n 64 := ⟨_, rfl⟩
  have hm1 : m ≤ n := by omega
  have hm2 : m ≤ 64 := by omega
  have hmi : min (n : Int) 64 = (m : Int) := by omega
  have hmc : m ≤ c := by omega
  have HQ : Hid (gre p (l.take m) (bitOf h) m = r) := by show _ = _; rw [gre_short _ _ _ (Nat.le_refl _), ← hq, hm, hr.1]; rfl
  have A := Lib.hid (fun (W : World) (hb : Below w.heap.size w W) (hd : W.cell? ⟨w.heap.size, 0, none⟩ = some (.int .i64 h)) (c' : Nat) => greatest_any 32 #[.pointer (some ⟨w.heap.size, 0, none⟩)] p a m c' (l.take m) (bitOf h) W ((hr.below hb).take m hm1) (by omega) (fun _ _ => rfl)
    (fun W' k hk hb' => hasBit_any k w.heap.size h W' (keep_cell hb' hd) (by omega)))
  clear hr hq hm
  go_enter Try.func20, Try.ntmps20
  go_wp2_with (go_at_call 27; refine (A.out _ I1.out.1 d0 _).mono ?_; rintro e w2 ⟨rfl, hb2⟩; have J2 := I1.out.keep hb2)
  go_ret
  exact ⟨by rw [← HQ.out]; rfl, J2.1⟩
end Go.Proofs.Ythicoekoeffpaaa
