/- What is proved here: contracts of the document's Put and List. Conditions: numbers fit 64 bits; lists are not too long. -/
import Derived.Test.YtmahpmoaicjcjaaDoorUse
namespace Go.Proofs.YtmahpmoaicjcjaaDoor
open Go.ChangeShapes Go.WideShapes Go.RowKit

/-- string([]byte{b}) of a new block. -/
theorem conv_one (v : Int) (b : UInt8) (h : v = b.toNat) : ∃ B : ByteArray, B.data.toList = [b] ∧ B.size = 1 ∧ ∀ W : World,
    (convert 45 9 (.slice (some ⟨W.heap.size, 0, none⟩) 1 1)).run Tryd.prog (W.alloc (.cells #[.int .u8 v] 5)) = .ok (.string B) (W.alloc (.cells #[.int .u8 v] 5)) :=
  ⟨bs [b], bs_data _, bs_size _, fun W =>
    run_convert_bytes_back (W.alloc (.cells #[.int .u8 v] 5)) 45 9 5 ⟨W.heap.size, 0, none⟩ 1 [b] Tryd.underlying45 Tryd.underlying5 Tryd.underlying9 (fun j hj => by
      match j, hj with
      | 0, _ => subst h; simp [Addr.add])⟩
theorem hi_val (u : Nat) : (u : Int) % 128 + 128 = ((hiB u).toNat : Int) := by
  have e2 : (hiB u).toNat = u % 128 + 128 := by unfold hiB; simp; omega
  rw [e2]; omega
theorem lo_val {u : Nat} (h : u < 128) : (u : Int) = ((loB u).toNat : Int) := by
  have e2 : (loB u).toNat = u := by unfold loB; simp; omega
  rw [e2]
set_option maxHeartbeats 1000000 in
set_option maxRecDepth 100000 in
theorem putR_any (n : Int) (hf : Fits n) (w : World) :
    Calls Tryd.prog 31 #[.int .i64 n] w fun e w' => e = .returned (.string (bs (enc (turn n)))) ∧ Below w.heap.size w w' := by
  have hu : turn n ≤ 18446744073709551615 := by have := turn_fits hf; omega
  have hten : (enc (turn n)).length ≤ 10 := enc_ten (turn_fits hf)
  go_enter Tryd.func31, Tryd.ntmps31
  go_wp2_with (go_at_call 40; refine (turnedR_any _ hf _).mono ?_; rintro e w' ⟨rfl, rfl⟩)
  go_loopw [3, 4] (fun t s wr => ∃ (u : Nat) (D : ByteArray), u ≤ 18446744073709551615 ∧ t = .int .u64 u ∧ s = .string D ∧ D.size ≤ 10 ∧ Hid (enc (turn n) = D.data.toList ++ enc u) ∧ Below w.heap.size w wr)
    (fun t _ _ => (intOf t).toNat)
  case atStart => exact ⟨turn n, ⟨#[]⟩, hu, rfl, rfl, by decide, (rfl : enc (turn n) = [] ++ enc (turn n)), Below.refl _ _⟩
  case round =>
    obtain ⟨u, D, hu2, rfl, rfl, hD, HE, G⟩ := hrel
    by_cases hlt : u < 128
    · obtain ⟨B, hB, hB1, hcv0⟩ := conv_one (u : Int) (loB u) (lo_val hlt)
      have hcv := hcv0 wr
      have hBs : B.size ≤ 1 := by omega
      have HR : Hid (D ++ B = bs (enc (turn n))) := by
        show _ = _
        rw [← bs_of (D ++ B), app_list, hB, HE.out, enc_lo hlt]; rfl
      clear hB hB1 hcv0
      go_wp2
      go_ret
      exact ⟨by rw [← HR.out]; rfl, G.alloc G.size _⟩
    · obtain ⟨B, hB, hB1, hcv0⟩ := conv_one ((u : Int) % 128 + 128) (hiB u) (hi_val u)
      have hcv := hcv0 wr
      have hBs : B.size ≤ 1 := by omega
      have HE2 : Hid (enc (turn n) = (D ++ B).data.toList ++ enc (u / 128)) := by
        show _ = _
        rw [app_list, hB, HE.out, enc_hi (by omega), List.append_assoc]; rfl
      have hD2 : D.size + 1 ≤ 10 := by
        have := congrArg List.length HE2.out
        rw [List.length_append, ← Lib.size_eq] at this
        have h2 : (D ++ B).size = D.size + 1 := by simp [hB1]
        omega
      clear hB hB1 hcv0
      go_wp2
      go_roundw
      case rel => exact ⟨u / 128, D ++ B, by omega, by go_num, rfl, by simp; omega, HE2, G.alloc G.size _⟩
      case measure => simp [intOf]; omega
end Go.Proofs.YtmahpmoaicjcjaaDoor
