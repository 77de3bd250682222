/- What is proved here: contracts of code.putBehind and code.Put. Conditions: numbers fit 64 bits; what is written behind is the call's own, and not too long. -/
import Derived.Test.YtofmlodfhdjjiaaDoorFirst
namespace Go.Proofs.YtofmlodfhdjjiaaDoor
open Go.ChangeShapes Go.WideShapes Go.RowKit

/-- Bytes as cells. -/
def cs (l : List UInt8) : List Value := l.map fun b => .int .u8 b.toNat
theorem cs_append (a b : List UInt8) : cs (a ++ b) = cs a ++ cs b := by simp [cs]
theorem cs_length (a : List UInt8) : (cs a).length = a.length := by simp [cs]
theorem u8_info : (Tryd.prog.info? 5).map (fun i => (i.zero, i.size, i.bytes)) = some (some (.int .u8 0), 1, 1) := by kernel_rfl

/-- What putBehind leaves. -/
def Behind (base m : Nat) (xs : List Value) (l : List UInt8) (w : World) (e : Ending) (w' : World) : Prop :=
  ∃ v, e = .returned v ∧ w'.ownsRow base 5 1 v (m + l.length) (xs ++ cs l) ∧ Below base w w'

/-- A byte that another one follows, and the last one. -/
def hiB (u : Nat) : UInt8 := UInt8.ofNat (u % 128 + 128)
def loB (u : Nat) : UInt8 := UInt8.ofNat u
theorem or_fin : ∀ x : Fin 256, x.val ||| 128 = x.val % 128 + 128 := by decide +kernel
theorem or_high (u : Nat) : bits .or .u8 ((u : Int) % 256) 128 = ((hiB u).toNat : Int) := by
  have h := u8_or_nat (u % 256) 128 (by omega) (by omega)
  have h2 := or_fin ⟨u % 256, by omega⟩
  have e : (((u % 256 : Nat) : Int)) = (u : Int) % 256 := by omega
  rw [e] at h
  have e2 : (hiB u).toNat = u % 128 + 128 := by unfold hiB; simp; omega
  rw [e2]
  refine h.trans ?_
  simp only at h2
  rw [h2]; omega
theorem low_byte {u : Nat} (h : u < 128) : (u : Int) % 256 = ((loB u).toNat : Int) := by
  have e2 : (loB u).toNat = u := by unfold loB; simp; omega
  rw [e2]; omega
theorem put_more {U u k : Nat} {d : List UInt8} (H : Hid (enc U = d ++ enc u ∧ d.length = k)) (h : k + 1 < (enc U).length) :
    Hid (enc U = (d ++ [hiB u]) ++ enc (u / 128) ∧ (d ++ [hiB u]).length = k + 1) := by
  obtain ⟨h1, h2⟩ := H.out
  have hu : 128 ≤ u := by
    rcases Nat.lt_or_ge u 128 with hl | hl
    · rw [enc_lo hl] at h1
      have := congrArg List.length h1
      simp at this; omega
    · exact hl
  exact ⟨by rw [h1, enc_hi hu]; simp [hiB], by simp [h2]⟩
theorem put_last {U u k : Nat} {d : List UInt8} (H : Hid (enc U = d ++ enc u ∧ d.length = k)) (h : (enc U).length ≤ k + 1) : u < 128 ∧ enc U = d ++ [loB u] ∧ (enc U).length = k + 1 := by
  obtain ⟨h1, h2⟩ := H.out
  have hl := congrArg List.length h1
  simp only [List.length_append] at hl
  have h3 := enc_pos u
  have hu : u < 128 := by
    rcases Nat.lt_or_ge u 128 with hu | hu
    · exact hu
    · rw [enc_hi hu] at hl
      have := enc_pos (u / 128)
      simp only [List.length_cons] at hl
      omega
  refine ⟨hu, by rw [h1, enc_lo hu]; rfl, by omega⟩

set_option maxHeartbeats 1000000 in
set_option maxRecDepth 100000 in
theorem behind_any (n : Int) (hf : Fits n) (base m : Nat) (v : Value) (xs : List Value) (w : World) (hb : base ≤ w.heap.size) (hm : m ≤ 1000000000000) (hown : w.ownsRow base 5 1 v m xs) :
    Calls Tryd.prog 59 #[v, .int .i64 n] w (Behind base m xs (enc (turn n)) w) := by
  obtain ⟨i0, hi, hz0, hz1, hz2⟩ := info_parts u8_info
  have hu : turn n ≤ 18446744073709551615 := by have := turn_fits hf; omega
  have hs1 : 1 ≤ sz n := enc_pos _
  have hs2 : sz n ≤ 10 := enc_ten (turn_fits hf)
  go_enter Tryd.func59, Tryd.ntmps59
  go_wp2_with (first
    | (go_at_call 68; refine (turned_any _ hf _).mono ?_; rintro e w' ⟨rfl, rfl⟩)
    | (go_at_call 69; refine (size_any _ hf _).mono ?_; rintro e w' ⟨rfl, rfl⟩))
  go_loopw [0, 5, 11] (fun b t i wr => ∃ (k u : Nat) (d : List UInt8), k + 1 ≤ sz n ∧ i = .int .i64 k ∧ t = .int .u64 u ∧ u ≤ 18446744073709551615 ∧ Hid (enc (turn n) = d ++ enc u ∧ d.length = k) ∧ wr.ownsRow base 5 1 b (m + k) (xs ++ cs d) ∧ Below base w wr)
    (fun _ _ i _ => sz n - (intOf i).toNat)
  case atStart => exact ⟨0, turn n, [], by omega, rfl, rfl, hu, ⟨rfl, rfl⟩, by simpa [cs] using hown, Below.refl _ _⟩
  case round =>
    obtain ⟨k, u, d, hk, rfl, rfl, hu2, HE, hr, hbl⟩ := hrel
    by_cases hlt : k + 1 < sz n
    · have HE2 := put_more HE hlt
      have ho := or_high u
      have hbs := hbl.size
      go_wp2_with (at_builtin; refine wpList_append_own _ rfl _ _ 44 rfl base 5 i0 (.int .u8 0) 1 1 Tryd.underlying44 hi hz0 hz1 hz2 rfl (by decide) _ _ _ rfl (hr.alloc _) ⟨wr.heap.size, 0, none⟩ 1 1 [.int .u8 ((hiB u).toNat : Int)] rfl rfl ?c1 ?c2 ?c3 ?c4 ?c5 ?_)
      case c1 =>
        intro j t hj
        match j, hj with
        | 0, hj => simp at hj; subst hj; simp [Addr.add]
      case c2 => intro t ht; simp at ht; subst ht; rfl
      case c3 => unfold maxLen; omega
      case c4 => omega
      case c5 => simp; omega
      · intro v' w1 hown' hgrow _
        have hb1 : Below base w w1 := (hbl.alloc (by omega) _).grown hgrow (by simp; omega) (fun g hg => (hr.lt g hg).1)
        have hown2 : w1.ownsRow base 5 1 v' (m + (k + 1)) (xs ++ cs (d ++ [hiB u])) := by
          rw [cs_append]; exact hown'
        clear hown' hgrow hbl hr ho
        go_wp2
        go_roundw
        case rel => exact ⟨k + 1, u / 128, d ++ [hiB u], by omega, by go_num, by go_num, by omega, HE2, hown2, hb1⟩
        case measure => simp [intOf]; omega
    · obtain ⟨hu3, he, hl⟩ := put_last HE (show (enc (turn n)).length ≤ k + 1 by unfold sz at hlt; omega)
      have ho := low_byte hu3
      have hbs := hbl.size
      have HH := Lib.hid (And.intro he hl)
      clear he hl
      go_wp2_with (at_builtin; refine wpList_append_own _ rfl _ _ 44 rfl base 5 i0 (.int .u8 0) 1 1 Tryd.underlying44 hi hz0 hz1 hz2 rfl (by decide) _ _ _ rfl (hr.alloc _) ⟨wr.heap.size, 0, none⟩ 1 1 [.int .u8 ((loB u).toNat : Int)] rfl rfl ?d1 ?d2 ?d3 ?d4 ?d5 ?_)
      case d1 =>
        intro j t hj
        match j, hj with
        | 0, hj => simp at hj; subst hj; simp [Addr.add]; omega
      case d2 => intro t ht; simp at ht; subst ht; rfl
      case d3 => unfold maxLen; omega
      case d4 => omega
      case d5 => simp; omega
      · intro v' w1 hown' hgrow _
        have hb1 : Below base w w1 := (hbl.alloc (by omega) _).grown hgrow (by simp; omega) (fun g hg => (hr.lt g hg).1)
        clear hgrow hbl hr ho
        go_wp2
        go_ret
        refine ⟨v', rfl, ?_, hb1⟩
        rw [HH.out.2, HH.out.1, cs_append]
        exact hown'

/-- Bytes as a string. -/
def bs (l : List UInt8) : ByteArray := ⟨l.toArray⟩
theorem bs_data (l : List UInt8) : (bs l).data.toList = l := by simp [bs]
theorem bs_size (l : List UInt8) : (bs l).size = l.length := by simp [bs, ByteArray.size]
theorem bs_of (s : ByteArray) : bs s.data.toList = s := by simp [bs]
/-- string(b), where b is the call's own. -/
theorem own_string {w : World} {base m : Nat} {v : Value} {l : List UInt8} (h : w.ownsRow base 5 1 v m (cs l)) (hp : 0 < l.length) :
    (convert 44 9 v).run Tryd.prog w = .ok (.string (bs l)) w := by
  have hml : m = l.length := by have := h.1; rw [cs_length] at this; omega
  subst hml
  obtain ⟨g, cap, rfl⟩ : ∃ g cap, v = .slice (some ⟨g, 0, none⟩) l.length cap := by
    rcases h.2 with ⟨_, h0⟩ | ⟨g, cap, _, hv, _⟩
    · omega
    · exact ⟨g, cap, hv⟩
  exact run_convert_bytes_back w 44 9 5 ⟨g, 0, none⟩ cap l Tryd.underlying44 Tryd.underlying5 Tryd.underlying9 (fun j hj => by
    have := h.cells (g := g) rfl j (.int .u8 (l[j].toNat : Int)) (by simp [cs, hj])
    exact this)

set_option maxRecDepth 100000 in
theorem put_any (n : Int) (hf : Fits n) (w : World) :
    Calls Tryd.prog 48 #[.int .i64 n] w fun e w' => e = .returned (.string (bs (enc (turn n)))) ∧ Below w.heap.size w w' := by
  go_enter Tryd.func48, Tryd.ntmps48
  go_wp2_with (go_at_call 59; refine (behind_any _ hf w.heap.size 0 _ [] _ (Nat.le_refl _) (by omega) (World.ownsRow_nil _ _ _ _)).mono ?_; rintro e w' ⟨v, rfl, ho, hb⟩; have hc := own_string (l := enc (turn n)) ho (enc_pos _))
  go_ret
  exact ⟨rfl, hb⟩
end Go.Proofs.YtofmlodfhdjjiaaDoor
