/- What is proved here: the contract of the document's Show. Conditions: the numbers fit 64 bits; the row has at most a million instructions. -/
import Derived.Test.YtofmlodfhdjjiaaDoorLineR
namespace Go.Proofs.YtofmlodfhdjjiaaDoor
open Go.ChangeShapes Go.WideShapes Go.RowKit

set_option maxHeartbeats 2000000 in
set_option maxRecDepth 100000 in
theorem showR_any (a : Option Addr) (n c : Nat) (L : List (Int × Int × Int)) (w : World) (hr : RowI w a n L) (hf : AllFitI L) (hn : n ≤ 1000000) :
    Calls Tryd.prog 14 #[.slice a n c] w fun e w' => e = .returned (.string (bs (showL L))) ∧ Below w.heap.size w w' := by
  obtain ⟨R, hR⟩ : ∃ R, R = bs (showL L) := ⟨_, rfl⟩
  rw [← hR]
  have HR := Lib.hid hR
  have HF := Lib.hid hf
  have HL := Lib.hid hr.1
  clear hR hf
  go_enter Tryd.func14, Tryd.ntmps14
  go_wp2
  go_loopw [3, 4] (fun s i wr => ∃ (k : Nat) (D : ByteArray), k ≤ n ∧ k ≤ 200 ∧ i = .int .i64 k ∧ s = .string D ∧ D.size ≤ 10200 ∧ Hid (allR (L.take k) = true) ∧ Hid (D.data.toList = flatL (L.take k)) ∧ Below w.heap.size w wr) (fun _ i _ => n - (intOf i).toNat)
  case atStart => exact ⟨0, ⟨#[]⟩, by omega, by omega, rfl, rfl, by decide, rfl, rfl, Below.refl _ _⟩
  case round =>
    obtain ⟨k, D, hk, hk2, rfl, rfl, hD, HA, HD, hbl⟩ := hrel
    by_cases hlt : k < n
    · obtain ⟨b1, o1, p1, p2, p3, rfl, hB1, hx, hc1, hc2, hc3⟩ := (hr.below hbl).at_ hlt
      have hbs := hbl.size
      have hfx : FitsI (p1, p2, p3) := HF.out _ (List.mem_of_getElem? hx)
      have cr := fun W => rightR_any p1 p2 p3 W
      cases hri : right (p1, p2, p3)
      · have HQ := Lib.hid (show_wrong (allR_not hx hri))
        rw [hri] at cr
        have CR := Lib.hid cr
        clear cr hx hri
        go_wp2_with (go_at_call 25; refine (CR.out _).mono ?_; rintro e w2 ⟨rfl, hb2⟩)
        go_ret
        exact ⟨by rw [HR.out, HQ.out]; rfl, keep_below hbl hb2⟩
      · rw [hri] at cr
        have CR := Lib.hid cr
        by_cases h200 : k = 200
        · have HQ : Hid (showL L = []) := show_long (by rw [← HL.out]; omega)
          have d1 : decide ((k : Int) < 200) = false := by simp; omega
          have d2 : decide ((200 : Int) ≤ k) = true := by simp; omega
          clear cr hx hri h200
          go_wp2_with (go_at_call 25; refine (CR.out _).mono ?_; rintro e w2 ⟨rfl, hb2⟩)
          go_ret
          exact ⟨by rw [HR.out, HQ.out]; rfl, keep_below hbl hb2⟩
        · have d1 : decide ((k : Int) < 200) = true := by simp; omega
          have d2 : decide ((200 : Int) ≤ k) = false := by simp; omega
          have ce := fun W => lineR_any p1 p2 p3 W hfx
          obtain ⟨S, hS⟩ : ∃ S, S = bs (line (p1, p2, p3)) := ⟨_, rfl⟩
          rw [← hS] at ce
          have CE := Lib.hid ce
          have HA2 := Lib.hid (allR_take hx HA.out hri)
          have HF2 := Lib.hid (flat_succL hx)
          have hSl : S.size ≤ 51 := by rw [hS, bs_size]; exact line_len hfx
          have HD2 : Hid ((D ++ S).data.toList = flatL (L.take (k + 1))) := by show _ = _; rw [app_list, HD.out, HF2.out, hS, bs_data]
          have hlen : (D ++ S).size ≤ 10200 := by rw [Lib.size_eq, HD2.out]; exact flat_lenL HF.out (by omega)
          clear ce cr hx hri hS HD HF2
          go_wp2_with fail
          refine (CR.out _).mono ?_; rintro e w2 ⟨rfl, hb2⟩
          have q1 := (hb2.cell (p := ⟨b1, o1 + k * 3, none⟩) hB1).trans hc1
          have q2 := (hb2.cell (p := ⟨b1, o1 + k * 3 + 1, none⟩) hB1).trans hc2
          have q3 := (hb2.cell (p := ⟨b1, o1 + k * 3 + 2, none⟩) hB1).trans hc3
          replace hbl := keep_below hbl hb2
          clear hb2 hc1 hc2 hc3
          go_wp2_with (go_at_call 12; refine (CE.out _).mono ?_; rintro e w3 ⟨rfl, hb3⟩)
          go_roundw
          case rel => exact ⟨k + 1, D ++ S, by omega, by omega, by go_num, rfl, hlen, HA2, HD2, keep_below hbl hb3⟩
          case measure => simp [intOf]; omega
    · have HQ : Hid (R = D) := by
        show _ = _
        have e : L.take k = L := List.take_of_length_le (by rw [← HL.out]; omega)
        have h1 := HA.out
        have h2 := HD.out
        rw [e] at h1 h2
        rw [HR.out, show_right (by rw [← HL.out]; omega) h1, ← h2, bs_of]
      go_wp2
      go_ret
      exact ⟨by rw [HQ.out]; rfl, hbl⟩
end Go.Proofs.YtofmlodfhdjjiaaDoor
