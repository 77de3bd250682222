/- What is proved here: the contract of cost.Sections. Condition: the table of names holds what its initialiser lays (Nms). -/
import Derived.Test.YtacgnofmccennaaGreatDoorCf
import Derived.Test.YtacgnofmccennaaGreatDoorRp
namespace Go.Proofs.YtacgnofmccennaaGreatDoor
open Go.ChangeShapes Go.WideShapes Go.RowKit

/-- What a call that tells a row of pairs and an error leaves. -/
def GotP (l : List (Int × Int)) (x : Int) (w : World) (e : Ending) (w' : World) : Prop :=
  ∃ a n c, e = .returned (.tuple #[.slice a n c, .int .i64 x]) ∧ RowP w' a n l ∧ Below w.heap.size w w' ∧ ∀ p, a = some p → w.heap.size ≤ p.block ∧ p.block < w'.heap.size
theorem RowP.nil (w : World) (a : Option Addr) : RowP w a 0 [] := ⟨rfl, fun h => absurd h (by omega)⟩
theorem lock_next {L : List (Int × Int × Int)} (hw : wE L = 0) {k : Nat} (h : (at_ L k).1 = 23) : k + 1 < L.length := by
  obtain ⟨d, _, h2, h3, _⟩ := (mE_zero (wE_zero hw).1).2.opn (p := k) (by unfold opn; rw [h]; rfl)
  omega
set_option maxHeartbeats 2000000 in
set_option maxRecDepth 100000 in
theorem sections_any (a : Option Addr) (n c : Nat) (L : List (Int × Int × Int)) (w : World) (hr : RowI w a n L) (hN : Nms w) :
    Calls Tryz.prog 8 #[.slice a n c] w (GotP (sA L) (cE true L) w) := by
  have CB := Lib.hid (fun W => better_any true W)
  have ck := (fun W B (g : Below w.heap.size w W) (h : W.cell? ⟨B, 0, none⟩ = some (.bool true)) => reckon_any true a n c B L W (hr.below g) (hN.below g) h)
  unfold GotP
  by_cases h0 : cE true L = 0
  · have HS : Hid (sA L = sec L L.length) := by show _ = _; unfold sA; rw [if_pos h0]
    unfold GotK at ck
    rw [h0, show yA true L = wyL true L by unfold yA; rw [if_pos h0]] at ck
    have CK := Lib.hid ck
    have H0 := Lib.hid h0
    have hw : wE L = 0 := (lE_zero (rE_zero (cE_zero h0).1).1).1
    have hln := wE_len hw
    rw [← hr.1] at hln
    have hn2 := hln.2
    have HW := Lib.hid hw
    have HL := Lib.hid hr.1
    obtain ⟨i0, hi, hz0, hz1, hz2⟩ := parts_info sec_info
    clear hN ck h0 hw hln
    go_enter Tryz.func8, Tryz.ntmps8
    go_wp2_with (first | (go_at_call 21; refine (CB.out _).mono ?_; rintro e w1 ⟨B, rfl, hB1, hB2, hb1⟩) | (go_at_call 20; refine (CK.out _ _ hb1 hB2).mono ?_; rintro e w2 ⟨a2, n2, c2, rfl, hr2, hb2⟩; have hb3 := keep_below hb1 hb2))
    have HN2 : Hid (n2 = n) := by show _ = _; have := hr2.1; rw [wyL_len, ← HL.out] at this; exact this
    clear hb1 hb2 CB CK hB1 hB2
    go_loopw [7, 22] (fun s i wr => ∃ k : Nat, k ≤ n ∧ i = .int .i64 k ∧ wr.ownsRow w2.heap.size 47 2 s (sec L k).length (ouC (sec L k)) ∧ Below w2.heap.size w2 wr) (fun _ i _ => n - (intOf i).toNat)
    case atStart => exact ⟨0, by omega, rfl, World.ownsRow_nil _ _ _ _, Below.refl _ _⟩
    case round =>
      obtain ⟨k, hk, rfl, hown, hbl⟩ := hrel
      have hbs := hbl.size
      by_cases hlt : k < n
      · obtain ⟨b1, o1, p1, p2, p3, rfl, hB1, hx, hc1, hc2, hc3⟩ := (hr.below (keep_below hb3 hbl)).at_ hlt
        have HX := Lib.hid (at_some hx)
        clear hx
        by_cases h23 : p1 = 23
        · subst h23
          have hk1 : k + 1 < n := by rw [HL.out]; exact lock_next HW.out (by rw [HX.out])
          obtain ⟨b2, o2, ha2, hB2, hcs⟩ := (hr2.below hbl).2 (by rw [HN2.out]; omega)
          have d1 := hcs (k + 1) (by rw [HN2.out]; exact hk1)
          rw [wyL_at (by rw [← HL.out]; exact hk1)] at d1
          subst ha2
          obtain ⟨v, hv⟩ : ∃ v, v = cut (ub true L (k + 1)) := ⟨_, rfl⟩
          rw [← hv] at d1
          have hvb : v ≤ 1048577 := by rw [hv]; exact cut_le _
          have HE : Hid (sec L (k + 1) = sec L k ++ [(p2, (v : Int) + 1)]) := by show _ = _; rw [sec, if_pos (by rw [HX.out]), HX.out, ← hv]; rfl
          have i1 : (0 : Int) ≤ (k : Int) + 1 := by omega
          have i2 : (k : Int) + 1 < (n2 : Int) := by rw [HN2.out]; omega
          have w1' : IntKind.i64.wrap ((k : Int) + 1) = (k : Int) + 1 := IntWalk.i64_in _ (by omega)
          have w2' : IntKind.i64.wrap ((v : Int) + 1) = (v : Int) + 1 := IntWalk.i64_in _ (by omega)
          have gO : (((wr.alloc (.cells #[.int .i64 23, .int .i64 p2, .int .i64 p3] 51)).alloc (.cells #[.int .i64 p2, .int .i64 ((v : Int) + 1)] 47)).drew).ownsRow w2.heap.size 47 2 u7 (sec L k).length (ouC (sec L k)) := (hown.alloc _).alloc _
          have hnews : ∀ j u, ([.int .i64 p2, .int .i64 ((v : Int) + 1)] : List Value)[j]? = some u → (((wr.alloc (.cells #[.int .i64 23, .int .i64 p2, .int .i64 p3] 51)).alloc (.cells #[.int .i64 p2, .int .i64 ((v : Int) + 1)] 47)).drew).cell? ((⟨wr.heap.size + 1, 0, none⟩ : Addr).add j) = some u := by
            intro j u hj
            have hs1 : (wr.alloc (.cells #[.int .i64 23, .int .i64 p2, .int .i64 p3] 51)).heap.size = wr.heap.size + 1 := by simp
            rw [← hs1]
            exact World.news_of_block (new_block (wr.alloc (.cells #[.int .i64 23, .int .i64 p2, .int .i64 p3] 51)) (.cells #[.int .i64 p2, .int .i64 ((v : Int) + 1)] 47)) j u hj
          have hone : ∀ u ∈ ([.int .i64 p2, .int .i64 ((v : Int) + 1)] : List Value), u.oneCell' = true := by intro u hu; simp at hu; rcases hu with rfl | rfl <;> rfl
          have hsl := sec_len L k
          have h63 : (sec L k).length + 1 ≤ maxLen := by unfold maxLen; omega
          have hH : (((wr.alloc (.cells #[.int .i64 23, .int .i64 p2, .int .i64 p3] 51)).alloc (.cells #[.int .i64 p2, .int .i64 ((v : Int) + 1)] 47)).drew).heap.size = wr.heap.size + 2 := by simp [World.drew]
          have G1 : Below w2.heap.size w2 (((wr.alloc (.cells #[.int .i64 23, .int .i64 p2, .int .i64 p3] 51)).alloc (.cells #[.int .i64 p2, .int .i64 ((v : Int) + 1)] 47)).drew) := ((hbl.alloc hbs _).alloc (by simp; omega) _).drew
          have k0 := new_block wr (.cells #[.int .i64 23, .int .i64 p2, .int .i64 p3] 51)
          have c1 := (Lib.cell_of_heap k0 1).trans (rfl : _ = some (Value.int .i64 p2))
          have e1 := keep_cell (below_alloc wr (.cells #[.int .i64 23, .int .i64 p2, .int .i64 p3] 51)) d1
          clear hr hbl hv HX hcs k0
          obtain ⟨m, hm⟩ : ∃ m, m = (sec L k).length := ⟨_, rfl⟩
          obtain ⟨S, hS⟩ : ∃ S, S = sec L k := ⟨_, rfl⟩
          rw [← hm, ← hS] at gO
          rw [← hm] at h63 hsl
          have HM : Hid (m = S.length) := by show _ = _; rw [hm, hS]
          have HE2 : Hid (sec L (k + 1) = S ++ [(p2, (v : Int) + 1)]) := by show _ = _; rw [HE.out, hS]
          clear hm hS HE hown
          go_wp2_with fail
          go_region_law (refine step_append_lies _ rfl (.tmp 30) (.tmp 40) 35 rfl w2.heap.size 47 i0 (.agg #[.int .i64 0, .int .i64 0]) 2 16 Tryz.underlying35 hi hz0 hz1 hz2 rfl (by decide) u7 m (ouC S) (by simp [Act.eval]) gO ⟨wr.heap.size + 1, 0, none⟩ 1 1 [.int .i64 p2, .int .i64 ((v : Int) + 1)] (by simp [Act.eval]) rfl hnews hone (by omega) h63 (by omega) (by omega) _ hH ?_; intro g cap w4 hown3 hgrow hat hltg)
          all_goals
            have hb5 : Below w2.heap.size w2 w4 := G1.grown hgrow (by omega) (fun g hg => (gO.lt g hg).1)
            have hO5 : w4.ownsRow w2.heap.size 47 2 (.slice (some ⟨g, 0, none⟩) (m + 1) cap) (sec L (k + 1)).length (ouC (sec L (k + 1))) := by rw [HE2.out, ouC_snoc, List.length_append, ← HM.out]; exact hown3
            clear gO hown3 hnews hone hgrow hat G1
            go_wp2
            go_roundw
            case rel => exact ⟨k + 1, by omega, by go_num, hO5, hb5⟩
            case measure => simp [intOf]; omega
        · have e23 : (p1 == 23) = false := by rw [beq_eq_false_iff_ne]; exact h23
          have hO5 : ((wr.alloc (.cells #[.int .i64 p1, .int .i64 p2, .int .i64 p3] 51))).ownsRow w2.heap.size 47 2 u7 (sec L (k + 1)).length (ouC (sec L (k + 1))) := by
            rw [sec, if_neg (by rw [HX.out]; exact h23)]; exact hown.alloc _
          have hb5 : Below w2.heap.size w2 (wr.alloc (.cells #[.int .i64 p1, .int .i64 p2, .int .i64 p3] 51)) := hbl.alloc hbs _
          clear h23 hown
          go_wp2
          go_roundw
          case rel => exact ⟨k + 1, by omega, by go_num, hO5, hb5⟩
          case measure => simp [intOf]; omega
      · obtain rfl : k = n := by omega
        obtain ⟨a', c', rfl, hP, hN'⟩ := RowP.ownN hown
        have hNn := Lib.hid hN'
        have hb3s := hb3.size
        clear hN'
        have HP : Hid (RowP wr a' (sec L k).length (sA L)) := by show RowP _ _ _ _; rw [HS.out, ← HL.out]; exact hP
        clear hown hP
        go_wp2
        go_ret2
        exact ⟨_, _, _, by rw [H0.out]; rfl, HP.out, keep_below hb3 hbl, fun p hp => ⟨Nat.le_trans hb3s (hNn.out p hp).1, (hNn.out p hp).2⟩⟩
  · have HS : Hid (sA L = []) := by show _ = _; unfold sA; rw [if_neg h0]
    unfold GotK at ck
    rw [show yA true L = [] by unfold yA; rw [if_neg h0]] at ck
    obtain ⟨x, hx⟩ : ∃ x, x = cE true L := ⟨_, rfl⟩
    rw [← hx] at ck h0 ⊢
    have e1 : (x != 0) = true := by simpa using h0
    have e2 : (x == 0) = false := by simpa using h0
    have CK := Lib.hid ck
    clear ck hr hN hx h0
    go_enter Tryz.func8, Tryz.ntmps8
    go_wp2_with (first | (go_at_call 21; refine (CB.out _).mono ?_; rintro e w1 ⟨B, rfl, hB1, hB2, hb1⟩) | (go_at_call 20; refine (CK.out _ _ hb1 hB2).mono ?_; rintro e w2 ⟨a2, n2, c2, rfl, hr2, hb2⟩; have hb3 := keep_below hb1 hb2))
    go_ret2
    exact ⟨_, _, _, rfl, by rw [HS.out]; exact RowP.nil _ _, hb3, fun p hp => by cases hp⟩
end Go.Proofs.YtacgnofmccennaaGreatDoor
