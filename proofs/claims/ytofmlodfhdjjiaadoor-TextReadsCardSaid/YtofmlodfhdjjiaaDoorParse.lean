/- What is proved here: the contracts of text.lines and text.Parse. Conditions: the listed variables hold what their initialisers lay ('Env'); the text has at most a million bytes. -/
import Derived.Test.YtofmlodfhdjjiaaDoorIns
import Derived.Test.YtofmlodfhdjjiaaDoorOwn
import Derived.RangeFuncNested
import Derived.RangeFuncBound
import Derived.RangeFuncCalls
import Derived.RangeFuncLeaves
import Derived.Shelf.Abstract
import Derived.Shelf.RegionOpen
import Derived.WalkKit
import Derived.OwnWalkIn
import Derived.TacticsInMore
import Derived.LoopNIn
import Derived.LoopIn
import Derived.Maps.AppendAt
namespace Go.Proofs.YtofmlodfhdjjiaaDoor
open Go.ChangeShapes Go.WideShapes Go.RowKit Go.Shelf
attribute [local go_sem] Oper.semAt_some

/-- A line with whether it has its ending, of at most a million bytes. -/
abbrev Ln := { x : List UInt8 × Bool // x.1.length ≤ 1000000 }
def encL (x : Ln) : Array Value := #[.string (bs x.1.1), .bool x.1.2]
theorem lns_all {l : List UInt8} (h : l.length ≤ 1000000) : ∀ x ∈ lns l, x.1.length ≤ 1000000 := by
  have key : ∀ (n : Nat) (l : List UInt8), l.length ≤ n → ∀ x ∈ lns l, x.1.length ≤ l.length := by
    intro n
    induction n with
    | zero =>
      intro l hl x hx
      obtain rfl : l = [] := List.length_eq_zero_iff.1 (by omega)
      simp [lns] at hx
    | succ n ih =>
      intro l hl x hx
      by_cases h0 : l = []
      · subst h0; simp [lns] at hx
      · have hlen := cutB_len 10 l
        rw [lns_cut h0] at hx
        rcases List.mem_cons.1 hx with rfl | hx
        · exact hlen.1
        · have h2 : (cutB 10 l).2.1.length < l.length := by
            rcases cutB_cases 10 l with ⟨_, hc⟩ | ⟨p, q, hl, _, hc⟩
            · rw [hc]; simp; exact List.length_pos_iff.2 h0
            · rw [hc, hl]; simp; omega
          have := ih (cutB 10 l).2.1 (by omega) x hx
          omega
  intro x hx
  have := key l.length l (Nat.le_refl _) x hx
  omega
theorem lns_sub {l : List UInt8} (h : l.length ≤ 1000000) : ∃ xs : List Ln, xs.map Subtype.val = lns l :=
  ⟨(lns l).attachWith _ (lns_all h), List.attachWith_map_subtype_val _⟩

/-- A string's length. -/
def strLen : Value → Nat
  | .string s => s.size
  | _ => 0
theorem grown_of {W W' : World} (hb : Below W.heap.size W W') : W.grownBy W' none := ⟨hb.os, hb.tape, hb.output, hb.size, fun i hi _ => hb.block i hi⟩
set_option maxRecDepth 100000 in
set_option maxHeartbeats 2000000 in
theorem lines1_in (n : Nat) (hn : 1 ≤ n) (l Bn n₀ : Nat) (s : ByteArray) (hs : s.size ≤ 1000000) (xs : List Ln) (hxs : xs.map Subtype.val = lns s.data.toList) (J Jx : List Ln → World → Prop) (B0 : Nat) (hJ : AbidesFrom B0 J)
    (hY : ∀ pre x W, J pre W → pre.length < xs.length → YieldAt Fence.wide (n - 1) Tryd.prog l (encL x) W fun e W' =>
      (e = .returned (.bool true) ∧ J (pre ++ [x]) W' ∧ Below n₀ W W') ∨ (e = .returned (.bool false) ∧ Jx (pre ++ [x]) W'))
    (W : World) (hBn : W.cell? ⟨Bn, 0, none⟩ = some (.string s)) (h0 : J [] W) :
    CallsIn Fence.wide n Tryd.prog 43 #[.func (.yield l) #[] #[], .pointer (some ⟨Bn, 0, none⟩)] W fun e W' => (∃ v, e = .returned v) ∧
      ((∃ ys, ys = xs ∧ J ys W') ∨ (∃ pre, pre <+: xs ∧ Jx pre W')) := by
  refine callsIn_of_wp Tryd.func43 rfl trivial ?_ rfl
  simp only [Tryd.ntmps43, List.size_toArray, List.length_cons, List.length_nil, Nat.reduceAdd, Nat.reduceSub, Array.replicate_succ, Array.replicate_zero, List.push_toArray, List.append_toArray, List.nil_append, List.cons_append]
  gi_wp2
  gi_loopw [3] (fun v wr => ∃ (pre rest : List Ln) (D : ByteArray), v = .string D ∧ D.size ≤ 1000000 ∧ xs = pre ++ rest ∧ Hid (rest.map Subtype.val = lns D.data.toList) ∧ J pre wr)
    (fun v _ => strLen v)
  case atStart => exact ⟨[], xs, s, rfl, hs, rfl, hxs, h0⟩
  case round =>
    obtain ⟨pre, rest, D, rfl, hD, hx, HM, hJs⟩ := hrel
    by_cases he : D.data.toList = []
    · have e0 : (D.toList == []) = true := by rw [Lib.toList_data, he]; rfl
      have hr : rest = [] := by
        have := HM.out
        rw [he] at this
        simpa [lns] using this
      gi_wp2
      go_end0
      exact ⟨⟨_, rfl⟩, .inl ⟨pre, by simp [hx, hr], hJs⟩⟩
    · have e0 : (D.toList == []) = false := by rw [Lib.toList_data]; simpa using he
      obtain ⟨A, B, M, hA, hB, a1, a2, a3, c1⟩ := cutS hD 10
      have C1 := Lib.hid c1
      have HM2 := HM.out
      rw [lns_cut he, ← a1, ← a2, ← a3] at HM2
      have hBl : B.size < D.size := by
        rw [Lib.size_eq, a2, Lib.size_eq D]
        rcases cutB_cases 10 D.data.toList with ⟨_, hc⟩ | ⟨p, q, hl, _, hc⟩
        · rw [hc]; simp; exact List.length_pos_iff.2 he
        · rw [hc, hl]; simp; omega
      cases rest with
      | nil => simp at HM2
      | cons x rest =>
        rw [List.map_cons] at HM2
        injection HM2 with hm1 hm2
        have hxe : encL x = #[.string A, .bool M] := by unfold encL; rw [hm1]; simp [bs_of]
        have HM3 := Lib.hid hm2
        clear HM a1 a2 a3 c1 hm1 hm2
        gi_wp2_with fail
        refine ⟨trivial, (callsIn_wide.2 (C1.out _)).mono ?_⟩
        rintro e w2 ⟨rfl, hb⟩
        have hJ2 : J pre w2 := hJ pre wr w2 none hJs (grown_of hb) (fun r e => by cases e)
        obtain ⟨fn, tmps, assign, body, hy, hR⟩ := hY pre x w2 hJ2 (by rw [hx]; simp)
        rw [hxe] at hy
        clear hY hJs hb C1 hJ2 hJ
        gi_wp2
        refine hR.mono ?_
        rintro e W3 (⟨rfl, hJ3, hk3⟩ | ⟨rfl, hJx3⟩)
        · gi_wp2
          go_roundw
          case rel => exact ⟨pre ++ [x], rest, B, rfl, hB, by simp [hx], HM3, hJ3⟩
          case measure => exact hBl
        · gi_wp2
          refine bodyPost_ret (results_none rfl _ _ _) rfl ?_
          exact ⟨⟨_, rfl⟩, .inr ⟨pre ++ [x], ⟨rest, by simp [hx]⟩, hJx3⟩⟩
theorem lines_in (n : Nat) (s : ByteArray) (w : World) :
    CallsIn Fence.wide n Tryd.prog 31 #[.string s] w fun e w' => e = .returned (.func (.func 43) #[] #[.pointer (some ⟨w.heap.size, 0, none⟩)]) ∧ w' = w.alloc (.cells #[.string s] 9) := by
  refine callsIn_of_wp Tryd.func31 rfl trivial ?_ rfl
  simp only [Tryd.ntmps31, List.size_toArray, List.length_cons, List.length_nil, Nat.reduceAdd, Nat.reduceSub, Array.replicate_succ, Array.replicate_zero, List.push_toArray, List.append_toArray, List.nil_append, List.cons_append]
  gi_wp2
  go_ret
  exact ⟨rfl, rfl⟩
theorem lines_stops (n : Nat) (hn : 1 ≤ n) (Bn n₀ : Nat) (s : ByteArray) (hs : s.size ≤ 1000000) (xs : List Ln) (hxs : xs.map Subtype.val = lns s.data.toList) (w : World) (hBn : Bn < w.heap.size)
    (hc : w.cell? ⟨Bn, 0, none⟩ = some (.string s)) :
    SeqStopsK Fence.wide n Tryd.prog 43 #[.pointer (some ⟨Bn, 0, none⟩)] encL (Below n₀) (fun ys => ys = xs) (fun pre => pre <+: xs) xs.length w := fun l J Jx W hW hJ _ hY h0 =>
  lines1_in n hn l Bn n₀ s hs xs hxs J Jx _ hJ hY W ((hW.cell (p := ⟨Bn, 0, none⟩) hBn).trans hc) h0

/-- What lines tell that are taken one behind the other. -/
def prL (xs : List Ln) : List (Int × Int × Int) × Int := pr [] (xs.map Subtype.val)
theorem pr_append : ∀ (p r : List (List UInt8 × Bool)) (acc : List (Int × Int × Int)), pr acc (p ++ r) = if (pr acc p).2 = 0 then pr (pr acc p).1 r else pr acc p
  | [], r, acc => by simp [pr]
  | x :: p, r, acc => by
    rw [List.cons_append, pr, pr]
    split
    · simp
    · split
      · simp
      · split
        · rfl
        · exact pr_append p r _
theorem pr_len : ∀ (p : List (List UInt8 × Bool)) (acc L : List (Int × Int × Int)), pr acc p = (L, 0) → acc.length ≤ 200 → L.length = acc.length + p.length ∧ L.length ≤ 200
  | [], acc, L, h, ha => by injection h with h1 h2; rw [← h1]; exact ⟨rfl, ha⟩
  | x :: p, acc, L, h, ha => by
    rw [pr] at h
    split at h
    · injection h with h1 h2; omega
    · rename_i h200
      split at h
      · injection h with h1 h2; omega
      · split at h
        · rename_i hb; injection h with h1 h2; exact absurd h2 hb
        · obtain ⟨h1, h2⟩ := pr_len p _ L h (by simp; omega)
          refine ⟨?_, h2⟩
          rw [h1]; simp; omega
theorem prL_snoc {pre : List Ln} {L : List (Int × Int × Int)} (x : Ln) (h : prL pre = (L, 0)) : prL (pre ++ [x]) =
    if L.length = 200 then ([], 4) else if x.1.2 = false then ([], 3) else if (ins x.1.1).2 ≠ 0 then ([], (ins x.1.1).2) else (L ++ [(ins x.1.1).1], 0) := by
  unfold prL at h ⊢
  rw [List.map_append, pr_append, h, if_pos rfl]
  rfl
end Go.Proofs.YtofmlodfhdjjiaaDoor
