/- What is proved here: contracts of the timer's right, at, New. Conditions: the row is not too long. -/
import Derived.Test.YtdhchfmefdlloaaMo
import Derived.Test.YtdhchfmefdlloaaIo
namespace Go.Proofs.Ytdhchfmefdlloaa
open Go.ChangeShapes Go.WideShapes Go.RowKit Go.Maps Go.Shelf Go.Lib

/-- Periods that can be. -/
def okPz (zs : List Int) : Bool := (decide (1 ≤ zs.length) && decide (zs.length ≤ 8)) && zs.all (fun p => decide (1 ≤ p) && decide (p ≤ 1048576))
theorem okPz_iff {zs : List Int} : okPz zs = true ↔ (1 ≤ zs.length ∧ zs.length ≤ 8) ∧ ∀ p ∈ zs, 1 ≤ p ∧ p ≤ 1048576 := by
  unfold okPz; simp
set_option maxHeartbeats 1000000 in
set_option maxRecDepth 100000 in
theorem rightP_any (x : Int) (W : World) : Calls Try.prog 30 #[.int .i64 x] W fun e w' => e = .returned (.bool (!(decide (1 ≤ x) && decide (x ≤ 1048576)))) ∧ w' = W := by
  have CW := within_any x 1 1048576 W
  generalize (decide (1 ≤ x) && decide (x ≤ 1048576)) = r at CW ⊢
  go_enter Try.func30, Try.ntmps30
  go_wp2_with (go_at_call 28; refine CW.mono ?_; rintro e w' ⟨rfl, rfl⟩)
  go_ret
  exact ⟨rfl, rfl⟩
set_option maxHeartbeats 1000000 in
set_option maxRecDepth 100000 in
theorem right_any (a : Option Addr) (n c : Nat) (zs : List Int) (w : World) (hr : Row w a n zs) (hn : n ≤ 140737488355328) :
    Calls Try.prog 21 #[.slice a n c] w fun e w' => e = .returned (.bool (okPz zs)) ∧ Below w.heap.size w w' := by
  have CW := within_any (n : Int) 1 8 w
  have hl : zs.length = n := hr.1.symm
  by_cases h : 1 ≤ n ∧ n ≤ 8
  · have hd : (decide ((1 : Int) ≤ (n : Int)) && decide ((n : Int) ≤ 8)) = true := by simp; omega
    rw [hd] at CW
    obtain ⟨b, off, rfl, hlt, hc⟩ := hr.2 (by omega)
    have eg : ∀ args w, (callFunc 30 args).run Try.prog w = .ok (.enter 30 args) w := enters_of Try.func30 (by kernel_rfl) rfl
    have CC := Try.slices_ContainsFunc (Value.int .i64) (fun p => !(decide (1 ≤ p) && decide (p ≤ 1048576))) 30 #[] eg b off n c zs w (fun W x _ => (rightP_any x W).mono (fun e w' h => ⟨h.1, 0, h.2⟩)) (by omega) (by omega) (fun j hj => by rw [hc j (by omega)]; simp [hj])
    rw [List.take_of_length_le (by omega)] at CC
    have HQ : Hid (okPz zs = !(zs.any (fun p => !(decide (1 ≤ p) && decide (p ≤ 1048576))))) := by
      show _ = _
      unfold okPz
      rw [hl, decide_eq_true h.1, decide_eq_true h.2, List.all_eq_not_any_not]
      rfl
    rw [HQ.out]
    generalize (zs.any (fun p => !(decide (1 ≤ p) && decide (p ≤ 1048576)))) = r at CC ⊢
    clear HQ hr hc hd
    go_enter Try.func21, Try.ntmps21
    go_wp2_with (first
      | (go_at_call 28; refine CW.mono ?_; rintro e w9 ⟨rfl, hw9⟩; have hw9 := hw9.symm; subst hw9)
      | (go_at_call 29; refine CC.mono ?_; rintro e w9 ⟨rfl, q, rfl⟩))
    go_ret
    exact ⟨rfl, ⟨rfl, rfl, rfl, Nat.le_refl _, fun _ _ => rfl⟩⟩
  · have hd : (decide ((1 : Int) ≤ (n : Int)) && decide ((n : Int) ≤ 8)) = false := by
      rw [Bool.eq_false_iff]
      intro hc
      simp at hc
      omega
    rw [hd] at CW
    have HQ : Hid (okPz zs = false) := by
      show _ = _
      rw [Bool.eq_false_iff]
      intro hc
      have := (okPz_iff.1 hc).1
      omega
    rw [HQ.out]
    clear HQ hr hd
    go_enter Try.func21, Try.ntmps21
    go_wp2_with (go_at_call 28; refine CW.mono ?_; rintro e w9 ⟨rfl, hw9⟩; have hw9 := hw9.symm; subst hw9)
    go_ret
    exact ⟨rfl, Below.refl _ _⟩
set_option maxHeartbeats 2000000 in
set_option maxRecDepth 100000 in
theorem at_any (a : Option Addr) (n c : Nat) (zs : List Int) (now : Int) (w : World) (hr : Row w a n zs) (hok : okPz zs = true) (hnow : 0 ≤ now) :
    Calls Try.prog 22 #[.int .i64 now, .slice a n c] w fun e w' => ∃ (b mb : Nat) (pv : Value) (F : Nat → Prop), e = .returned (.pointer (some ⟨b, 0, none⟩)) ∧ TimI F w' b mb pv (fun _ => none) zs now [] 0 ∧ (∀ g, F g → w.heap.size ≤ g) ∧ Below w.heap.size w w' := by
  obtain ⟨⟨p1, p2⟩, p3⟩ := okPz_iff.1 hok
  have hl : zs.length = n := hr.1.symm
  obtain ⟨b, off, rfl, hlt, hc⟩ := hr.2 (by omega)
  obtain ⟨i0, hi, hz0, hz1, hz2⟩ := info_parts int_info
  have CC := Try.slices_Clone i0 (.int .i64 0) 1 8 hi hz0 hz1 hz2 rfl (by decide) Try.sizeOf3 b off n c (zs.map (Value.int .i64)) w (by rw [List.length_map]; omega) (by unfold maxLen; omega) (by omega) (fun j u hj => by
    have hj2 : j < zs.length := by have := (List.getElem?_eq_some_iff.1 hj).1; simpa using this
    rw [hc j (by omega), ← hj]
    simp [hj2]) (fun u hu => by obtain ⟨x, _, rfl⟩ := List.mem_map.1 hu; rfl)
  have hmm := @run_makeMap Try.prog
  have HP := Lib.hid (And.intro p1 (And.intro p2 p3))
  have HL := Lib.hid hl
  clear hc hr hok p1 p2 p3 hl
  go_enter Try.func22, Try.ntmps22
  go_wp2_with (go_at_call 31; refine CC.mono ?_; rintro e w1 ⟨pv, rfl, ho, -, hb1⟩; obtain ⟨pa, pn, pc, rfl, -⟩ := Row.own ho; have HO := Lib.hid ho; have HB := Lib.hid hb1; clear ho hb1)
  go_ret
  have e1 : (w1.alloc (.map #[] 0)).heap.size = w1.heap.size + 1 := by simp
  obtain ⟨W2, hW2⟩ : ∃ W2, ((w1.alloc (.map #[] 0)).alloc (.cells #[.pointer (some ⟨w1.heap.size + 1, 0, none⟩), .slice pa pn pc, .int .i64 now, .map (some w1.heap.size)] 53)) = W2 := ⟨_, rfl⟩
  have e2 : W2.heap.size = w1.heap.size + 2 := by rw [← hW2]; simp
  have hbel : Below w1.heap.size w1 W2 := by rw [← hW2]; exact ((Below.refl _ _).alloc (Nat.le_refl _) _).alloc (by simp) _
  have hm : MpG Try.prog 3 W2 w1.heap.size 0 (fun _ => none) := (MpG.made w1 Try.prog 3).at_block (by rw [← hW2]; exact (below_alloc (w1.alloc (.map #[] 0)) _).block _ (by simp))
  have hblk : W2.heap[w1.heap.size + 1]? = some (.cells #[.pointer (some ⟨w1.heap.size + 1, 0, none⟩), .slice pa pn pc, .int .i64 now, .map (some w1.heap.size)] 53 (0, 0)) := by
    rw [← hW2]
    have := new_block (w1.alloc (.map #[] 0)) (.cells #[.pointer (some ⟨w1.heap.size + 1, 0, none⟩), .slice pa pn pc, .int .i64 now, .map (some w1.heap.size)] 53)
    rwa [e1] at this
  have hsz := HB.out.size
  have hlow : ∀ g, (Value.slice pa pn pc).ownBlock = some g → w.heap.size ≤ g ∧ g < w1.heap.size := fun g hg => HO.out.lt g hg
  refine ⟨w1.heap.size + 1, w1.heap.size, .slice pa pn pc, fun g => w.heap.size ≤ g ∧ g < w1.heap.size + 2, rfl, ?_, fun g hg => hg.1, ?_⟩
  · have hr : TimI (fun g => w.heap.size ≤ g ∧ g < w1.heap.size + 2) W2 (w1.heap.size + 1) w1.heap.size (.slice pa pn pc) (fun _ => none) zs now [] 0 := {
      blk := hblk
      per := by
        have h1 := own_keep HO.out hbel
        rw [← HL.out] at h1
        refine ⟨h1.1, ?_⟩
        rcases h1.2 with h2 | ⟨g, cap, cur, h2, h3, h4⟩
        · exact Or.inl h2
        · exact Or.inr ⟨g, cap, cur, h2, Nat.zero_le _, h4⟩
      mpg := hm
      nothing := fun s _ => rfl
      row := fun s v hv => by cases hv
      inb := ⟨by omega, by omega⟩
      inm := ⟨by omega, by omega⟩
      inp := fun g hg => ⟨(hlow g hg).1, by have := (hlow g hg).2; omega⟩
      inr := fun s v g hv => by cases hv
      apart := fun s s' v v' g hv => by cases hv
      pos := fun s v hv => by cases hv
      lt := fun g hg => by rw [e2]; exact hg.2
      now0 := hnow
      len := Nat.le_refl _
      pzs := ⟨⟨HP.out.1, HP.out.2.1⟩, HP.out.2.2⟩ }
    rw [hW2]
    exact hr
  · rw [hW2]; exact keep_below HB.out hbel
set_option maxHeartbeats 1000000 in
set_option maxRecDepth 100000 in
theorem new_yes (a : Option Addr) (n c : Nat) (zs : List Int) (w : World) (hr : Row w a n zs) (hok : okPz zs = true) :
    Calls Try.prog 11 #[.slice a n c] w fun e w' => ∃ (b : Nat) (F : Nat → Prop), e = .returned (.tuple #[.pointer (some ⟨b, 0, none⟩), .int .i64 0]) ∧ Tim F w' b zs 0 [] 0 ∧ (∀ g, F g → w.heap.size ≤ g) ∧ Below w.heap.size w w' := by
  have h8 := (okPz_iff.1 hok).1
  have CR := Lib.hid (right_any a n c zs w hr (by have := hr.1; omega))
  rw [hok] at CR
  have CA := Lib.hid (fun (W : World) (hb : Below w.heap.size w W) => at_any a n c zs 0 W (hr.below hb) hok (Int.le_refl _))
  clear hr hok
  go_enter Try.func11, Try.ntmps11
  go_wp2_with (first
    | (go_at_call 21; refine CR.out.mono ?_; rintro e w1 ⟨rfl, hb1⟩; have HB1 := Lib.hid hb1; clear hb1)
    | (go_at_call 22; refine (CA.out _ HB1.out).mono ?_; rintro e w2 ⟨b, mb, pv, F, rfl, ht, hF, hb2⟩; have HT := Lib.hid ht; have HF := Lib.hid hF; have HB2 := Lib.hid hb2; clear ht hF hb2))
  go_ret2
  exact ⟨b, F, rfl, ⟨mb, pv, _, HT.out⟩, fun g hg => Nat.le_trans HB1.out.size (HF.out g hg), keep_below HB1.out HB2.out⟩
set_option maxHeartbeats 1000000 in
set_option maxRecDepth 100000 in
theorem new_no (a : Option Addr) (n c : Nat) (zs : List Int) (w : World) (hr : Row w a n zs) (hn : n ≤ 140737488355328) (hok : okPz zs = false) :
    Calls Try.prog 11 #[.slice a n c] w fun e w' => e = .returned (.tuple #[.pointer none, .int .i64 1]) ∧ Below w.heap.size w w' := by
  have CR := Lib.hid (right_any a n c zs w hr hn)
  rw [hok] at CR
  clear hr hok
  go_enter Try.func11, Try.ntmps11
  go_wp2_with (go_at_call 21; refine CR.out.mono ?_; rintro e w1 ⟨rfl, hb1⟩; have HB1 := Lib.hid hb1; clear hb1)
  go_ret2
  exact ⟨rfl, HB1.out⟩
end Go.Proofs.Ytdhchfmefdlloaa
