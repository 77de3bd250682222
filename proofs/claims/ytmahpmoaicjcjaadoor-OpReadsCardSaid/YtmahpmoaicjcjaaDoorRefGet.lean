/- What is proved here: the contract of the document's Get. Conditions: the string has at most a million bytes. -/
import Derived.Test.YtmahpmoaicjcjaaDoorRefPut
import Derived.Deep.RegionHeld3
import Derived.IntWalk
namespace Go.Proofs.YtmahpmoaicjcjaaDoor
open Go.ChangeShapes Go.WideShapes Go.RowKit

/-- The bytes from k up to and with d. -/
def piece (l : List UInt8) (k d : Nat) : List UInt8 := (l.drop k).take (d + 1 - k)
theorem ref_forms (l : List UInt8) (k : Nat) (hk : k ≤ l.length) : ∃ d, k ≤ d ∧ d ≤ k + 10 ∧ d ≤ l.length ∧ (∀ i (h : i < l.length), k ≤ i → i < d → 128 ≤ l[i].toNat) ∧
    ((d = l.length ∧ d ≤ k + 9 ∧ scan 0 0 (l.drop k) = (0, 0, 2)) ∨
     (∃ h : d < l.length, d ≤ k + 9 ∧ l[d].toNat < 128 ∧ scan 0 0 (l.drop k) = if enc (num7 (piece l k d) % two64) = piece l k d then (num7 (piece l k d), d + 1 - k, 0) else (0, 0, 3)) ∨
     (d = k + 10 ∧ scan 0 0 (l.drop k) = (0, 0, 3))) := by
  have hi : ∀ (hs r : List UInt8), high hs → l.drop k = hs ++ r → ∀ i (h : i < l.length), k ≤ i → i < k + hs.length → 128 ≤ l[i].toNat := by
    intro hs r hh e i h h1 h2
    have e1 : l[i] = (l.drop k)[i - k]'(by simp; omega) := by rw [List.getElem_drop]; congr 1; omega
    have e2 : (l.drop k)[i - k]'(by simp; omega) = (hs ++ r)[i - k]'(by simp; omega) := by congr 1
    rw [e1, e2, List.getElem_append_left (by omega)]
    exact hh _ (List.getElem_mem _)
  have hlen := List.length_drop (l := l) (i := k)
  rcases row_forms (l.drop k) with ⟨hs, a, b, e⟩ | ⟨hs, c, r, a, b, d, e⟩ | ⟨hs, r, a, b, e⟩
  · have hl := congrArg List.length e
    refine ⟨k + hs.length, by omega, by omega, by omega, hi hs [] a (by rw [e]; simp), Or.inl ⟨by omega, by omega, by rw [e]; exact scan_short hs a b⟩⟩
  · have hl := congrArg List.length e
    rw [List.length_append, List.length_cons] at hl
    have hd : k + hs.length < l.length := by omega
    have hp : piece l k (k + hs.length) = hs ++ [c] := by
      unfold piece
      rw [e, show k + hs.length + 1 - k = (hs ++ [c]).length by simp; omega, show hs ++ c :: r = (hs ++ [c]) ++ r by simp, List.take_left]
    have e1 : l[k + hs.length] = c := by
      have e1 : l[k + hs.length] = (l.drop k)[hs.length]'(by omega) := by rw [List.getElem_drop]
      have e2 : (l.drop k)[hs.length]'(by omega) = (hs ++ c :: r)[hs.length]'(by simp) := by congr 1
      rw [e1, e2, List.getElem_append_right (Nat.le_refl _)]; simp
    refine ⟨k + hs.length, by omega, by omega, by omega, hi hs _ a e, Or.inr (Or.inl ⟨hd, by omega, by rw [e1]; exact d, ?_⟩)⟩
    rw [hp, show k + hs.length + 1 - k = hs.length + 1 by omega, e]
    exact scan_of hs a c d r b
  · have hl := congrArg List.length e
    rw [List.length_append] at hl
    refine ⟨k + hs.length, by omega, by omega, by omega, hi hs r a e, Or.inr (Or.inr ⟨by omega, by rw [e]; exact scan_ten hs a r b⟩)⟩
theorem piece_step {l : List UInt8} {m d : Nat} (h : m < l.length) (hd : m ≤ d) : piece l m d = l[m] :: piece l (m + 1) d := by
  unfold piece
  rw [List.drop_eq_getElem_cons h, show d + 1 - m = (d + 1 - (m + 1)) + 1 by omega, List.take_succ_cons]
theorem piece_end (l : List UInt8) (d : Nat) : piece l (d + 1) d = [] := by unfold piece; simp
/-- One byte more, from the right. -/
theorem wrap_step (U b V : Nat) (hU : U = V % two64) : IntKind.u64.wrap (IntKind.u64.wrap (128 * (U : Int)) + ((b : Int) % 128)) = (((b % 128 + 128 * V) % two64 : Nat) : Int) := by
  rw [IntKind.wrap_u64, IntKind.wrap_u64, hU, two64_eq]
  omega

set_option maxHeartbeats 2000000 in
set_option maxRecDepth 100000 in
theorem getR_any (s : ByteArray) (p : Int) (hs : s.size ≤ 1000000) (w : World) :
    Calls Tryd.prog 33 #[.string s, .int .i64 p] w fun e w' => e = .returned (.tuple #[.int .i64 (gN s.data.toList p), .int .i64 (gT s.data.toList p), .int .i64 (gE s.data.toList p)]) ∧ Below w.heap.size w w' := by
  have hsz : s.data.toList.length = s.size := by simp
  by_cases h0 : p < 0
  · have H := Lib.hid (g_out (l := s.data.toList) (p := p) (Or.inl h0))
    clear hsz
    go_enter Tryd.func33, Tryd.ntmps33
    go_wp2
    go_ret3
    rw [H.out.1, H.out.2.1, H.out.2.2]
    exact ⟨rfl, Below.refl _ _⟩
  by_cases h1 : (s.size : Int) < p
  · have H := Lib.hid (g_out (l := s.data.toList) (p := p) (Or.inr (by omega)))
    clear hsz
    go_enter Tryd.func33, Tryd.ntmps33
    go_wp2
    go_ret3
    rw [H.out.1, H.out.2.1, H.out.2.2]
    exact ⟨rfl, Below.refl _ _⟩
  obtain ⟨k, rfl⟩ : ∃ k : Nat, p = k := ⟨p.toNat, by omega⟩
  have hk : k ≤ s.size := by omega
  clear h0 h1
  obtain ⟨d, hkd, hd10, hdl, hhi, hstop⟩ := ref_forms s.data.toList k (by omega)
  rw [hsz] at hdl
  have HH : Hid (∀ i (h : i < s.size), k ≤ i → i < d → 128 ≤ s[i].toNat) := fun i h a b => by
    have := hhi i (by omega) a b
    rwa [byte_list s i h] at this
  have HST := Lib.hid hstop
  have d0 : decide ((k : Int) < 0) = false := by simp
  have d1 : decide ((s.size : Int) < (k : Int)) = false := by simp; omega
  clear hstop hhi hsz
  go_enter Tryd.func33, Tryd.ntmps33
  go_wp2
  go_loop [7] (fun x => ∃ e : Nat, k ≤ e ∧ e ≤ d ∧ x = .int .i64 e) (fun x => d - (intOf x).toNat)
  case atStart => exact ⟨k, by omega, by omega, rfl⟩
  case round =>
    obtain ⟨e, he1, he2, rfl⟩ := hrel
    by_cases hlt : e < d
    · have hes : e < s.size := by omega
      have hb := HH.out e hes he1 hlt
      go_wp2
      go_round
      case rel => exact ⟨e + 1, by omega, by omega, by go_num⟩
      case measure => simp [intOf]; omega
    · obtain rfl : e = d := by omega
      rcases HST.out with ⟨hA1, hA2, hA3⟩ | ⟨hB1, hB2, hB3, hB4⟩ | ⟨hC1, hC2⟩
      · have H := Lib.hid (g_in (l := s.data.toList) (k := k) (by simpa using hk) hA3)
        have hA4 : s.size ≤ e := by rw [hA1]; simp
        clear hA1 hA3 HST
        go_wp2
        go_ret3
        rw [H.out.1, H.out.2.1, H.out.2.2]
        exact ⟨rfl, Below.refl _ _⟩
      · have hes : e < s.size := by simpa using hB1
        have hc : s[e].toNat < 128 := by have := hB3; rwa [byte_list s e hes] at this
        have HB4 := Lib.hid hB4
        clear hB1 hB3 hB4 HST
        go_wp2
        go_loop [8, 9] (fun t i => ∃ (q : Int) (U : Nat), (k : Int) - 1 ≤ q ∧ q ≤ e ∧ i = .int .i64 q ∧ t = .int .u64 U ∧ Hid (U = num7 (piece s.data.toList (q + 1).toNat e) % two64)) (fun _ i => (intOf i + 1).toNat)
        case atStart => exact ⟨e, 0, by omega, by omega, rfl, rfl, (by rw [show ((e : Int) + 1).toNat = e + 1 by omega, piece_end]; rfl : 0 = num7 (piece s.data.toList ((e : Int) + 1).toNat e) % two64)⟩
        case round =>
          obtain ⟨q, U, hq1, hq2, rfl, rfl, HU⟩ := hrel
          by_cases hq : (k : Int) ≤ q
          · obtain ⟨m, rfl⟩ : ∃ m : Nat, q = m := ⟨q.toNat, by omega⟩
            have hms : m < s.size := by omega
            have HW := Lib.hid (wrap_step U s[m].toNat _ HU.out)
            have HU2 : Hid ((s[m].toNat % 128 + 128 * num7 (piece s.data.toList ((m : Int) + 1).toNat e)) % two64 = num7 (piece s.data.toList ((m : Int) - 1 + 1).toNat e) % two64) := by
              show _ = _
              rw [show ((m : Int) + 1).toNat = m + 1 by omega, show ((m : Int) - 1 + 1).toNat = m by omega, piece_step (l := s.data.toList) (m := m) (by simpa using hms) (by omega)]
              rfl
            go_wp2
            go_round
            case rel => exact ⟨(m : Int) - 1, _, by omega, by omega, rfl, by rw [HW.out], HU2⟩
            case measure => simp [intOf]
          · obtain rfl : q = (k : Int) - 1 := by omega
            have hU : U = num7 (piece s.data.toList k e) % two64 := by
              have := HU.out
              rwa [show ((k : Int) - 1 + 1).toNat = k by omega] at this
            have hu : U < two64 := by rw [hU]; exact Nat.mod_lt _ (by decide)
            have hfN : Fits (unturn U) := unturn_fits hu
            obtain ⟨P, hP⟩ : ∃ P, P = bs (enc (turn (unturn U))) := ⟨_, rfl⟩
            have cP := fun W => putR_any (unturn U) hfN W
            rw [← hP] at cP
            have CP := Lib.hid cP
            have CB := Lib.hid (fun W => backR_any U hu W)
            have hPd : P.data.toList = enc U := by rw [hP, bs_data, turn_unturn]
            have hxd : (s.extract k (e + 1)).data.toList = piece s.data.toList k e := by rw [Lib.extract_data]; rfl
            have c1 : (0 : Int) ≤ (k : Int) := by omega
            have c2 : (k : Int) ≤ (e : Int) + 1 := by omega
            have c3 : (e : Int) + 1 ≤ (s.size : Int) := by omega
            have c4 : IntKind.i64.wrap ((e : Int) + 1) = (e : Int) + 1 := IntWalk.i64_in _ (by omega)
            have c5 : ((e : Int) + 1).toNat = e + 1 := by omega
            obtain ⟨N, hN⟩ : ∃ N, N = unturn U := ⟨_, rfl⟩
            rw [← hN] at CP CB
            have HN := Lib.hid hN
            clear cP hP hN hfN
            by_cases hcan : enc U = piece s.data.toList k e
            · have hq : (P.toList == (s.extract k (e + 1)).toList) = true := by rw [Lib.toList_data, Lib.toList_data, hPd, hxd, hcan, beq_self_eq_true]
              have hsc : scan 0 0 (s.data.toList.drop k) = (U, e + 1 - k, 0) := by
                have := HB4.out
                rw [← hU, if_pos hcan] at this
                have hv : num7 (piece s.data.toList k e) = U := by rw [← hcan, num7_enc]
                rw [this, hv]
              have H : Hid (gN s.data.toList k = unturn U ∧ gT s.data.toList k = (e : Int) + 1 ∧ gE s.data.toList k = 0) := by
                obtain ⟨g1, g2, g3⟩ := g_in (l := s.data.toList) (k := k) (by simpa using hk) hsc
                rw [if_pos rfl] at g1 g2
                exact ⟨g1, by rw [g2]; omega, g3⟩
              clear hsc hcan hPd hxd HB4 hU HU
              go_wp2_with (go_at_call 42; refine (CB.out _).mono ?_; rintro e w4 ⟨rfl, rfl⟩)
              go_region_held3 (fun _ => True) (trivial) (first | (go_at_call 31; refine (CP.out _).mono ?_; rintro e w1 ⟨rfl, hg⟩))
              clear c1 c2 c3 c4 c5 hq
              go_wp2
              go_ret3
              rw [H.out.1, H.out.2.1, H.out.2.2, ← HN.out]
              exact ⟨rfl, (Below.refl _ _).drew.trans hg⟩
            · have hq : (P.toList == (s.extract k (e + 1)).toList) = false := by rw [Lib.toList_data, Lib.toList_data, hPd, hxd, beq_eq_false_iff_ne]; exact hcan
              have hsc : scan 0 0 (s.data.toList.drop k) = (0, 0, 3) := by
                have := HB4.out
                rw [← hU, if_neg hcan] at this
                exact this
              have H := Lib.hid (g_in (l := s.data.toList) (k := k) (by simpa using hk) hsc)
              clear hsc hcan hPd hxd HB4 hU HU
              go_wp2_with (go_at_call 42; refine (CB.out _).mono ?_; rintro e w4 ⟨rfl, rfl⟩)
              go_region_held3 (fun _ => True) (trivial) (first | (go_at_call 31; refine (CP.out _).mono ?_; rintro e w1 ⟨rfl, hg⟩))
              clear c1 c2 c3 c4 c5 hq
              go_wp2
              go_ret3
              rw [H.out.1, H.out.2.1, H.out.2.2]
              exact ⟨rfl, (Below.refl _ _).drew.trans hg⟩
      · have H := Lib.hid (g_in (l := s.data.toList) (k := k) (by simpa using hk) hC2)
        have hC3 : k + 10 ≤ e := by omega
        clear hC1 hC2 HST
        by_cases hel : e < s.size
        · by_cases hb : 128 ≤ s[e].toNat
          · go_wp2
            go_ret3
            rw [H.out.1, H.out.2.1, H.out.2.2]
            exact ⟨rfl, Below.refl _ _⟩
          · go_wp2
            go_ret3
            rw [H.out.1, H.out.2.1, H.out.2.2]
            exact ⟨rfl, Below.refl _ _⟩
        · go_wp2
          go_ret3
          rw [H.out.1, H.out.2.1, H.out.2.2]
          exact ⟨rfl, Below.refl _ _⟩
end Go.Proofs.YtmahpmoaicjcjaaDoor
