/- What is proved here: the contract of code.Get. Conditions: the string is no longer than Go's. -/
import Derived.Test.YtmahpmoaicjcjaaDoorFirst
namespace Go.Proofs.YtmahpmoaicjcjaaDoor
open Go.ChangeShapes Go.WideShapes Go.RowKit

/-- What stands at a place: the number, the place behind it, what is wrong. -/
def gN (l : List UInt8) (p : Int) : Int := if p < 0 ∨ (l.length : Int) < p then 0 else if (scan 0 0 (l.drop p.toNat)).2.2 = 0 then unturn (scan 0 0 (l.drop p.toNat)).1 else 0
def gT (l : List UInt8) (p : Int) : Int := if p < 0 ∨ (l.length : Int) < p then 0 else if (scan 0 0 (l.drop p.toNat)).2.2 = 0 then p + (scan 0 0 (l.drop p.toNat)).2.1 else 0
def gE (l : List UInt8) (p : Int) : Int := if p < 0 ∨ (l.length : Int) < p then 1 else (scan 0 0 (l.drop p.toNat)).2.2
theorem g_out {l : List UInt8} {p : Int} (h : p < 0 ∨ (l.length : Int) < p) : gN l p = 0 ∧ gT l p = 0 ∧ gE l p = 1 := by
  unfold gN gT gE; rw [if_pos h, if_pos h, if_pos h]; exact ⟨rfl, rfl, rfl⟩
theorem g_in {l : List UInt8} {k : Nat} (h : k ≤ l.length) {u m e : Nat} (hs : scan 0 0 (l.drop k) = (u, m, e)) :
    gN l k = (if e = 0 then unturn u else 0) ∧ gT l k = (if e = 0 then (k : Int) + m else 0) ∧ gE l k = e := by
  unfold gN gT gE
  have h0 : ¬ ((k : Int) < 0 ∨ (l.length : Int) < k) := by omega
  rw [if_neg h0, if_neg h0, if_neg h0, Int.toNat_natCast, hs]
  exact ⟨rfl, rfl, rfl⟩

theorem extract_list (s : ByteArray) (k : Nat) : (s.extract k s.size).data.toList = s.data.toList.drop k := by
  rw [Lib.extract_data, List.take_of_length_le (by rw [List.length_drop, ← Lib.size_eq]; exact Nat.le_refl _)]
set_option maxRecDepth 100000 in
theorem get_any (s : ByteArray) (p : Int) (hs : s.size ≤ maxLen) (w : World) :
    Calls Tryd.prog 41 #[.string s, .int .i64 p] w fun e w' => e = .returned (.tuple #[.int .i64 (gN s.data.toList p), .int .i64 (gT s.data.toList p), .int .i64 (gE s.data.toList p)]) ∧ w = w' := by
  have hsz : s.data.toList.length = s.size := by simp
  replace hs : s.size ≤ 9223372036854775807 := hs
  by_cases h0 : p < 0
  · have H := Lib.hid (g_out (l := s.data.toList) (p := p) (Or.inl h0))
    clear hsz
    go_enter Tryd.func41, Tryd.ntmps41
    go_wp2
    go_ret3
    rw [H.out.1, H.out.2.1, H.out.2.2]
    exact ⟨rfl, rfl⟩
  by_cases h1 : (s.size : Int) < p
  · have H := Lib.hid (g_out (l := s.data.toList) (p := p) (Or.inr (by omega)))
    clear hsz
    go_enter Tryd.func41, Tryd.ntmps41
    go_wp2
    go_ret3
    rw [H.out.1, H.out.2.1, H.out.2.2]
    exact ⟨rfl, rfl⟩
  obtain ⟨k, rfl⟩ : ∃ k : Nat, p = k := ⟨p.toNat, by omega⟩
  have hk : k ≤ s.size := by omega
  clear h0 h1
  have hx := extract_list s k
  obtain ⟨t, ht⟩ : ∃ t, t = s.extract k s.size := ⟨_, rfl⟩
  rw [← ht] at hx
  have htz : t.size ≤ maxLen := by
    have e1 : t.data.toList.length = t.size := by simp
    have e2 := congrArg List.length hx
    simp only [List.length_drop] at e2
    show _ ≤ 9223372036854775807
    omega
  obtain ⟨u, m, e, hsc⟩ : ∃ u m e, scan 0 0 (s.data.toList.drop k) = (u, m, e) := ⟨_, _, _, rfl⟩
  have H := Lib.hid (g_in (by omega) hsc)
  have hsc' : scan 0 0 t.data.toList = (u, m, e) := by rw [hx]; exact hsc
  have cF := first_any t htz
  rw [hsc', ht] at cF
  have HF := Lib.hid cF
  by_cases he : e = 0
  · subst he
    have hok := scan_ok hsc
    have hm : m ≤ s.size - k := by
      obtain ⟨_, ⟨r, hr⟩, hm⟩ := hok
      have e2 := congrArg List.length hr
      simp only [List.length_drop, List.length_append] at e2
      omega
    have hu : u < two64 := hok.1
    clear hsz hx hsc hsc' cF htz hok ht t
    go_enter Tryd.func41, Tryd.ntmps41
    go_wp2_with (first
      | (go_at_call 46; refine (HF.out _).mono ?_; rintro e w' ⟨rfl, rfl⟩)
      | (go_at_call 47; refine (back_any _ hu _).mono ?_; rintro e w' ⟨rfl, rfl⟩))
    go_ret3
    rw [H.out.1, H.out.2.1, H.out.2.2]
    exact ⟨rfl, rfl⟩
  · have h1 : ((e : Int) != 0) = true := by simp; omega
    clear hsz hx hsc hsc' cF htz ht t
    go_enter Tryd.func41, Tryd.ntmps41
    go_wp2_with (first
      | (go_at_call 46; refine (HF.out _).mono ?_; rintro e w' ⟨rfl, rfl⟩))
    go_ret3
    rw [H.out.1, H.out.2.1, H.out.2.2, if_neg he, if_neg he]
    exact ⟨rfl, rfl⟩
end Go.Proofs.YtmahpmoaicjcjaaDoor
