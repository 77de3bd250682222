/- What is proved here: the walk of the law OpNames. Conditions: none beyond those each theorem states. -/
import Derived.Test.YtmahpmoaicjcjaaDoorKnown
namespace Go.Proofs.YtmahpmoaicjcjaaDoor
open Go.ChangeShapes Go.WideShapes Go.RowKit

theorem names_tab : ∀ x y : Fin 26, (opNameOf x.val).data.toList = (opNameOf y.val).data.toList → x = y := by decide +kernel
theorem onm_in {a : Int} (h : kn a = true) : onm a = opNameOf a.toNat := by unfold onm; rw [h]; rfl
theorem onm_out {a : Int} (h : kn a = false) : onm a = ⟨#[]⟩ := by unfold onm; rw [h]; rfl
theorem onm_some {a : Int} (h : kn a = true) : (onm a).toList.isEmpty = false := by
  have hk := kn_iff.1 h
  rw [onm_in h, Lib.toList_data]
  cases he : (opNameOf a.toNat).data.toList with
  | cons => rfl
  | nil =>
    have := names_tab ⟨a.toNat, by omega⟩ ⟨0, by omega⟩ (by rw [he]; rfl)
    simp only [Fin.mk.injEq] at this
    omega
theorem onm_inj {a b : Int} (h : kn a = true) (he : (onm a).toList = (onm b).toList) : a = b := by
  cases hb : kn b
  · have h1 := onm_some h
    rw [he, onm_out hb, Lib.toList_data] at h1
    simp at h1
  · have hk := kn_iff.1 h
    have hk2 := kn_iff.1 hb
    rw [onm_in h, onm_in hb, Lib.toList_data, Lib.toList_data] at he
    have := names_tab ⟨a.toNat, by omega⟩ ⟨b.toNat, by omega⟩ he
    simp only [Fin.mk.injEq] at this
    omega
theorem args_pos {a : Int} (h : kn a = true) : 0 ≤ argsOf a := by unfold argsOf; rw [if_pos h]; omega
theorem args_neg {a : Int} (h : kn a = false) : argsOf a = -1 := by unfold argsOf; rw [if_neg (by simp [h])]
theorem right_out {i : Int × Int × Int} (h : kn i.1 = false) : right i = false := by unfold right; rw [h]; rfl

set_option maxHeartbeats 4000000 in
set_option maxRecDepth 100000 in
theorem names_walk (a b o x y : Int) (w : World) (hn : Nms w) :
    Calls Tryd.prog 9 #[.int .i64 a, .int .i64 b, .agg #[.int .i64 o, .int .i64 x, .int .i64 y]] w fun e w' => e = .returned (.bool true) ∧ Below w.heap.size w w' := by
  have G := (Below.refl w.heap.size w).alloc (Nat.le_refl _) (.cells #[.int .i64 o, .int .i64 x, .int .i64 y] 23)
  have HN := Lib.hid (hn.below G)
  have c1 := fun W h => name_any a W h
  have c2 := fun W h => name_any b W h
  have c3 := fun W => args_any a W
  have c4 := fun W h => name_any o W h
  have c5 := fun W h => right_any o x y W h
  have HO : Hid ((∃ U : ByteArray, (∀ W, Nms W → Calls Tryd.prog 14 #[.int .i64 o] W fun e w' => e = .returned (.string U) ∧ W = w') ∧ U.toList.isEmpty = false) ∨
      ((∀ W, Nms W → Calls Tryd.prog 14 #[.int .i64 o] W fun e w' => e = .returned (.string ⟨#[]⟩) ∧ W = w') ∧ ∀ W, Nms W → Calls Tryd.prog 10 #[.agg #[.int .i64 o, .int .i64 x, .int .i64 y]] W fun e w' => e = .returned (.bool false) ∧ Below W.heap.size W w')) := by
    cases ho : kn o
    · rw [onm_out ho] at c4
      rw [right_out ho] at c5
      exact Or.inr ⟨c4, c5⟩
    · exact Or.inl ⟨onm o, c4, onm_some ho⟩
  clear c4 c5 hn
  cases ha : kn a
  · rw [onm_out ha] at c1
    rw [args_neg ha] at c3
    have C1 := Lib.hid c1
    obtain ⟨T, hT⟩ : ∃ T, T = onm b := ⟨_, rfl⟩
    rw [← hT] at c2
    have C2 := Lib.hid c2
    have C3 := Lib.hid c3
    have hk : a < 1 ∨ 25 < a := by
      rcases Int.lt_or_le a 1 with h | h
      · exact Or.inl h
      · rcases Int.lt_or_le 25 a with h2 | h2
        · exact Or.inr h2
        · rw [kn_iff.2 ⟨h, h2⟩] at ha; cases ha
    clear c1 c2 c3 ha hT
    rcases hk with hk | hk
    · have d1 : decide (1 ≤ a) = false := by simp; omega
      rcases HO.out with ⟨U, d, h1⟩ | ⟨d, d5⟩
      · have h2 : ¬ U.toList = [] := by intro h; rw [h] at h1; cases h1
        have h3 : (U.toList == []) = false := by simpa using h2
        have C4 := Lib.hid d
        clear d HO
        go_enter Tryd.func9, Tryd.ntmps9
        go_wp2_with fail
        refine (C1.out _ HN.out).mono ?_; rintro e w1 ⟨rfl, rfl⟩
        go_wp2_with fail
        refine (C2.out _ HN.out).mono ?_; rintro e w1 ⟨rfl, rfl⟩
        go_wp2_with fail
        refine (C3.out _).mono ?_; rintro e w1 ⟨rfl, rfl⟩
        go_wp2_with fail
        refine (C4.out _ HN.out).mono ?_; rintro e w1 ⟨rfl, rfl⟩
        go_wp2_with fail
        refine (known_any _ HN.out).mono ?_; rintro e w3 ⟨rfl, hb⟩
        replace G := G.trans (hb.mono G.size); clear hb
        go_wp2
        go_ret
        exact ⟨rfl, G⟩
      · have C4 := Lib.hid d
        have C5 := Lib.hid d5
        clear d d5 HO
        go_enter Tryd.func9, Tryd.ntmps9
        go_wp2_with fail
        refine (C1.out _ HN.out).mono ?_; rintro e w1 ⟨rfl, rfl⟩
        go_wp2_with fail
        refine (C2.out _ HN.out).mono ?_; rintro e w1 ⟨rfl, rfl⟩
        go_wp2_with fail
        refine (C3.out _).mono ?_; rintro e w1 ⟨rfl, rfl⟩
        go_wp2_with fail
        refine (C4.out _ HN.out).mono ?_; rintro e w1 ⟨rfl, rfl⟩
        go_wp2_with fail
        refine (C5.out _ HN.out).mono ?_; rintro e w2 ⟨rfl, hb⟩
        have HN2 := Lib.hid (HN.out.below hb)
        replace G := G.trans (hb.mono G.size); clear hb
        go_wp2_with fail
        refine (known_any _ HN2.out).mono ?_; rintro e w3 ⟨rfl, hb⟩
        replace G := G.trans (hb.mono G.size); clear hb
        go_wp2
        go_ret
        exact ⟨rfl, G⟩
    · have d1 : decide (a ≤ 25) = false := by simp; omega
      have d2 : decide (1 ≤ a) = true := by simp; omega
      rcases HO.out with ⟨U, d, h1⟩ | ⟨d, d5⟩
      · have h2 : ¬ U.toList = [] := by intro h; rw [h] at h1; cases h1
        have h3 : (U.toList == []) = false := by simpa using h2
        have C4 := Lib.hid d
        clear d HO
        go_enter Tryd.func9, Tryd.ntmps9
        go_wp2_with fail
        refine (C1.out _ HN.out).mono ?_; rintro e w1 ⟨rfl, rfl⟩
        go_wp2_with fail
        refine (C2.out _ HN.out).mono ?_; rintro e w1 ⟨rfl, rfl⟩
        go_wp2_with fail
        refine (C3.out _).mono ?_; rintro e w1 ⟨rfl, rfl⟩
        go_wp2_with fail
        refine (C4.out _ HN.out).mono ?_; rintro e w1 ⟨rfl, rfl⟩
        go_wp2_with fail
        refine (known_any _ HN.out).mono ?_; rintro e w3 ⟨rfl, hb⟩
        replace G := G.trans (hb.mono G.size); clear hb
        go_wp2
        go_ret
        exact ⟨rfl, G⟩
      · have C4 := Lib.hid d
        have C5 := Lib.hid d5
        clear d d5 HO
        go_enter Tryd.func9, Tryd.ntmps9
        go_wp2_with fail
        refine (C1.out _ HN.out).mono ?_; rintro e w1 ⟨rfl, rfl⟩
        go_wp2_with fail
        refine (C2.out _ HN.out).mono ?_; rintro e w1 ⟨rfl, rfl⟩
        go_wp2_with fail
        refine (C3.out _).mono ?_; rintro e w1 ⟨rfl, rfl⟩
        go_wp2_with fail
        refine (C4.out _ HN.out).mono ?_; rintro e w1 ⟨rfl, rfl⟩
        go_wp2_with fail
        refine (C5.out _ HN.out).mono ?_; rintro e w2 ⟨rfl, hb⟩
        have HN2 := Lib.hid (HN.out.below hb)
        replace G := G.trans (hb.mono G.size); clear hb
        go_wp2_with fail
        refine (known_any _ HN2.out).mono ?_; rintro e w3 ⟨rfl, hb⟩
        replace G := G.trans (hb.mono G.size); clear hb
        go_wp2
        go_ret
        exact ⟨rfl, G⟩
  · have hk := kn_iff.1 ha
    have hk1 := hk.1
    have hk2 := hk.2
    have hp := args_pos ha
    obtain ⟨A, hA⟩ : ∃ A, A = argsOf a := ⟨_, rfl⟩
    rw [← hA] at c3 hp
    have C3 := Lib.hid c3
    have g1 := onm_some ha
    have hinj := fun h => onm_inj (b := b) ha h
    obtain ⟨S, hS⟩ : ∃ S, S = onm a := ⟨_, rfl⟩
    rw [← hS] at c1 g1 hinj
    have C1 := Lib.hid c1
    have g2 : ¬ S.toList = [] := by intro h; rw [h] at g1; cases g1
    have g3 : (S.toList == []) = false := by simpa using g2
    have p1 : decide (0 ≤ A) = true := by simpa using hp
    by_cases hab : a = b
    · subst hab
      rw [← hS] at c2
      have C2 := Lib.hid c2
      clear c1 c2 c3 ha hA hS hinj hk
      rcases HO.out with ⟨U, d, h1⟩ | ⟨d, d5⟩
      · have h2 : ¬ U.toList = [] := by intro h; rw [h] at h1; cases h1
        have h3 : (U.toList == []) = false := by simpa using h2
        have C4 := Lib.hid d
        clear d HO
        go_enter Tryd.func9, Tryd.ntmps9
        go_wp2_with fail
        refine (C1.out _ HN.out).mono ?_; rintro e w1 ⟨rfl, rfl⟩
        go_wp2_with fail
        refine (C2.out _ HN.out).mono ?_; rintro e w1 ⟨rfl, rfl⟩
        go_wp2_with fail
        refine (C3.out _).mono ?_; rintro e w1 ⟨rfl, rfl⟩
        go_wp2_with fail
        refine (C4.out _ HN.out).mono ?_; rintro e w1 ⟨rfl, rfl⟩
        go_wp2_with fail
        refine (known_any _ HN.out).mono ?_; rintro e w3 ⟨rfl, hb⟩
        replace G := G.trans (hb.mono G.size); clear hb
        go_wp2
        go_ret
        exact ⟨rfl, G⟩
      · have C4 := Lib.hid d
        have C5 := Lib.hid d5
        clear d d5 HO
        go_enter Tryd.func9, Tryd.ntmps9
        go_wp2_with fail
        refine (C1.out _ HN.out).mono ?_; rintro e w1 ⟨rfl, rfl⟩
        go_wp2_with fail
        refine (C2.out _ HN.out).mono ?_; rintro e w1 ⟨rfl, rfl⟩
        go_wp2_with fail
        refine (C3.out _).mono ?_; rintro e w1 ⟨rfl, rfl⟩
        go_wp2_with fail
        refine (C4.out _ HN.out).mono ?_; rintro e w1 ⟨rfl, rfl⟩
        go_wp2_with fail
        refine (C5.out _ HN.out).mono ?_; rintro e w2 ⟨rfl, hb⟩
        have HN2 := Lib.hid (HN.out.below hb)
        replace G := G.trans (hb.mono G.size); clear hb
        go_wp2_with fail
        refine (known_any _ HN2.out).mono ?_; rintro e w3 ⟨rfl, hb⟩
        replace G := G.trans (hb.mono G.size); clear hb
        go_wp2
        go_ret
        exact ⟨rfl, G⟩
    · obtain ⟨T, hT⟩ : ∃ T, T = onm b := ⟨_, rfl⟩
      rw [← hT] at c2 hinj
      have C2 := Lib.hid c2
      have k1 : (a == b) = false := by rw [beq_eq_false_iff_ne]; exact hab
      have k2 : (S.toList == T.toList) = false := by rw [beq_eq_false_iff_ne]; exact fun h => hab (hinj h)
      clear c1 c2 c3 ha hA hS hinj hk hT
      rcases HO.out with ⟨U, d, h1⟩ | ⟨d, d5⟩
      · have h2 : ¬ U.toList = [] := by intro h; rw [h] at h1; cases h1
        have h3 : (U.toList == []) = false := by simpa using h2
        have C4 := Lib.hid d
        clear d HO
        go_enter Tryd.func9, Tryd.ntmps9
        go_wp2_with fail
        refine (C1.out _ HN.out).mono ?_; rintro e w1 ⟨rfl, rfl⟩
        go_wp2_with fail
        refine (C2.out _ HN.out).mono ?_; rintro e w1 ⟨rfl, rfl⟩
        go_wp2_with fail
        refine (C3.out _).mono ?_; rintro e w1 ⟨rfl, rfl⟩
        go_wp2_with fail
        refine (C4.out _ HN.out).mono ?_; rintro e w1 ⟨rfl, rfl⟩
        go_wp2_with fail
        refine (known_any _ HN.out).mono ?_; rintro e w3 ⟨rfl, hb⟩
        replace G := G.trans (hb.mono G.size); clear hb
        go_wp2
        go_ret
        exact ⟨rfl, G⟩
      · have C4 := Lib.hid d
        have C5 := Lib.hid d5
        clear d d5 HO
        go_enter Tryd.func9, Tryd.ntmps9
        go_wp2_with fail
        refine (C1.out _ HN.out).mono ?_; rintro e w1 ⟨rfl, rfl⟩
        go_wp2_with fail
        refine (C2.out _ HN.out).mono ?_; rintro e w1 ⟨rfl, rfl⟩
        go_wp2_with fail
        refine (C3.out _).mono ?_; rintro e w1 ⟨rfl, rfl⟩
        go_wp2_with fail
        refine (C4.out _ HN.out).mono ?_; rintro e w1 ⟨rfl, rfl⟩
        go_wp2_with fail
        refine (C5.out _ HN.out).mono ?_; rintro e w2 ⟨rfl, hb⟩
        have HN2 := Lib.hid (HN.out.below hb)
        replace G := G.trans (hb.mono G.size); clear hb
        go_wp2_with fail
        refine (known_any _ HN2.out).mono ?_; rintro e w3 ⟨rfl, hb⟩
        replace G := G.trans (hb.mono G.size); clear hb
        go_wp2
        go_ret
        exact ⟨rfl, G⟩
end Go.Proofs.YtmahpmoaicjcjaaDoor
