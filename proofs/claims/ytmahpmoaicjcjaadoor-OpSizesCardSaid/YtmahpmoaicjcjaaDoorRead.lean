/- What is proved here: how a row that a call owns reads as a list of instructions, and the contract of op.Read. Conditions: the string has at most a million bytes; the tables of names hold what their initialisers lay ('Nms'). -/
import Derived.Test.YtmahpmoaicjcjaaDoorCode
namespace Go.Proofs.YtmahpmoaicjcjaaDoor
open Go.ChangeShapes Go.WideShapes Go.RowKit

/-- Instructions as cells. -/
def cellsI (L : List (Int × Int × Int)) : List Value := L.flatMap fun i => [.int .i64 i.1, .int .i64 i.2.1, .int .i64 i.2.2]
theorem cellsI_snoc (L : List (Int × Int × Int)) (o a b : Int) : cellsI (L ++ [(o, a, b)]) = cellsI L ++ [.int .i64 o, .int .i64 a, .int .i64 b] := by simp [cellsI]
theorem cellsI_length (L : List (Int × Int × Int)) : (cellsI L).length = L.length * 3 := by
  induction L with
  | nil => rfl
  | cons i L ih => simp only [cellsI, List.flatMap_cons, List.length_append, List.length_cons, List.length_nil] at ih ⊢; omega
theorem cellsI_at (L : List (Int × Int × Int)) (i : Nat) (h : i < L.length) :
    (cellsI L)[i * 3]? = some (.int .i64 (L.getD i (0, 0, 0)).1) ∧ (cellsI L)[i * 3 + 1]? = some (.int .i64 (L.getD i (0, 0, 0)).2.1) ∧ (cellsI L)[i * 3 + 2]? = some (.int .i64 (L.getD i (0, 0, 0)).2.2) := by
  induction L generalizing i with
  | nil => simp at h
  | cons x L ih =>
    have e : cellsI (x :: L) = .int .i64 x.1 :: .int .i64 x.2.1 :: .int .i64 x.2.2 :: cellsI L := by simp [cellsI]
    rw [e]
    cases i with
    | zero => exact ⟨rfl, rfl, rfl⟩
    | succ i =>
      obtain ⟨h1, h2, h3⟩ := ih i (by simpa using h)
      have e1 : (i + 1) * 3 = i * 3 + 3 := by omega
      rw [e1]
      refine ⟨?_, ?_, ?_⟩
      · rw [show i * 3 + 3 = (i * 3) + 1 + 1 + 1 by omega, List.getElem?_cons_succ, List.getElem?_cons_succ, List.getElem?_cons_succ, h1]; simp
      · rw [show i * 3 + 3 + 1 = (i * 3 + 1) + 1 + 1 + 1 by omega, List.getElem?_cons_succ, List.getElem?_cons_succ, List.getElem?_cons_succ, h2]; simp
      · rw [show i * 3 + 3 + 2 = (i * 3 + 2) + 1 + 1 + 1 by omega, List.getElem?_cons_succ, List.getElem?_cons_succ, List.getElem?_cons_succ, h3]; simp
theorem RowI.own {w : World} {base : Nat} {v : Value} {m : Nat} {L : List (Int × Int × Int)} (h : w.ownsRow base 23 3 v m (cellsI L)) : ∃ a c, v = .slice a m c ∧ RowI w a m L := by
  have hml : m = L.length := by have := h.1; rw [cellsI_length] at this; omega
  subst hml
  have hl := h.lt
  have hc := fun g => h.cells (g := g)
  rcases h.2 with ⟨hv, h0⟩ | ⟨g, cap, _, hv, _⟩
  · subst hv
    rw [h0]
    exact ⟨none, 0, rfl, h0.symm, fun h => absurd h (by omega)⟩
  · subst hv
    refine ⟨_, _, rfl, rfl, fun _ => ⟨g, 0, rfl, (hl g rfl).2, fun i hi => ?_⟩⟩
    obtain ⟨h1, h2, h3⟩ := cellsI_at L i hi
    have k1 := hc g rfl _ _ h1
    have k2 := hc g rfl _ _ h2
    have k3 := hc g rfl _ _ h3
    refine ⟨?_, ?_, ?_⟩
    · by_cases h0 : i = 0
      · subst h0; simpa [Addr.add] using k1
      · have h3 : ¬ i * 3 = 0 := by omega
        simpa only [Addr.add, h3, if_false, Nat.zero_add] using k1
    · simpa [Addr.add] using k2
    · simpa [Addr.add] using k3
theorem own_form {w : World} {base : Nat} {v : Value} {L : List (Int × Int × Int)} (h : w.ownsRow base 23 3 v L.length (cellsI L)) : ∃ a n c, v = .slice a n c ∧ n = L.length ∧ RowI w a n L := by
  obtain ⟨a, c, hv, hr⟩ := RowI.own h
  exact ⟨a, _, c, hv, rfl, hr⟩
theorem own_below {w w' : World} {base : Nat} {v : Value} {m : Nat} {xs : List Value} (h : w.ownsRow base 23 3 v m xs) (hb : Below w.heap.size w w') : w'.ownsRow base 23 3 v m xs :=
  h.kept (row := none) ⟨hb.os, hb.tape, hb.output, hb.size, fun i hi _ => hb.block i hi⟩ (by
    cases h : v.ownBlock with
    | none => exact Or.inl rfl
    | some _ => exact Or.inr (by simp))
theorem ins_info : (Tryd.prog.info? 23).map (fun i => (i.zero, i.size, i.bytes)) = some (some (.agg #[.int .i64 0, .int .i64 0, .int .i64 0]), 3, 24) := by kernel_rfl
/-- What Read leaves. -/
def GotR (r : List (Int × Int × Int) × Int) (w : World) (e : Ending) (w' : World) : Prop :=
  ∃ a n c, e = .returned (.tuple #[.slice a n c, .int .i64 r.2]) ∧ RowI w' a n r.1 ∧ Below w.heap.size w w'

set_option maxHeartbeats 2000000 in
set_option maxRecDepth 100000 in
theorem read_any (s : ByteArray) (hs : s.size ≤ 1000000) (w : World) (hN : Nms w) :
    Calls Tryd.prog 21 #[.string s] w (GotR (rd s.data.toList) w) := by
  obtain ⟨i0, hi, hz0, hz1, hz2⟩ := info_parts ins_info
  obtain ⟨R, hR⟩ : ∃ R, R = rd s.data.toList := ⟨_, rfl⟩
  rw [← hR]
  have hlen : s.data.toList.length = s.size := by simp
  have HLen := Lib.hid hlen
  have HN := Lib.hid hN
  have H0 : Hid (R = rdF s.data.toList (202 - ([] : List (Int × Int × Int)).length) [] ((0 : Nat) : Int)) := hR
  clear hR hlen hN
  go_enter Tryd.func21, Tryd.ntmps21
  go_wp2
  go_loopw [4, 5] (fun v t wr => ∃ (out : List (Int × Int × Int)) (q : Nat), t = .int .i64 q ∧ q ≤ s.size ∧ out.length ≤ 200 ∧ Hid (R = rdF s.data.toList (202 - out.length) out q) ∧ wr.ownsRow w.heap.size 23 3 v out.length (cellsI out) ∧ Below w.heap.size w wr)
    (fun _ t _ => s.size - (intOf t).toNat)
  case atStart => exact ⟨[], 0, rfl, by omega, by simp, H0, World.ownsRow_nil _ _ _ _, Below.refl _ _⟩
  case round =>
    obtain ⟨out, q, rfl, hq, hol, HS, hown, hbl⟩ := hrel
    clear H0
    have hbs := hbl.size
    have hfuel : 202 - out.length = (201 - out.length) + 1 := by omega
    obtain ⟨A, n, c, rfl, rfl, hRow⟩ := own_form hown
    by_cases hlt : q < s.size
    · by_cases h200 : out.length = 200
      · have HQ : Hid (R = ([], 4)) := by
          show _ = _
          rw [HS.out, hfuel, rdF_big (by rw [HLen.out]; omega) h200]
        have e2 : (out.length == 200) = true := by simpa using h200
        have e3 : ((out.length : Int) == 200) = true := by rw [beq_iff_eq]; omega
        clear hfuel hRow h200
        go_wp2
        go_ret2
        rw [HQ.out]
        exact ⟨none, 0, 0, rfl, RowI.nil _ _, hbl⟩
      · have hol2 : out.length + 1 ≤ 200 := by omega
        have e2 : (out.length == 200) = false := by rw [beq_eq_false_iff_ne]; omega
        have e3 : ((out.length : Int) == 200) = false := by rw [beq_eq_false_iff_ne]; omega
        obtain ⟨D, hD⟩ : ∃ D, D = dec s.data.toList q := ⟨_, rfl⟩
        have cD := fun (W : World) (hW : W = wr) => (by rw [hW]; exact decode_any s q hs wr (HN.out.below hbl) : Calls Tryd.prog 19 #[.string s, .int .i64 q] W (Got (dec s.data.toList q) W))
        rw [← hD] at cD
        have hok := dec_ok (l := s.data.toList) (k := q)
        have herr := rdF_err (l := s.data.toList) (f := 201 - out.length) (out := out) (p := q) (by rw [HLen.out]; omega) h200
        have hgo := rdF_ok (l := s.data.toList) (f := 201 - out.length) (out := out) (p := q) (by rw [HLen.out]; omega) h200
        rw [← hD] at hok herr hgo
        obtain ⟨⟨o, a, b⟩, t, E⟩ := D
        simp only at hok herr hgo
        have CD := Lib.hid cD
        have HS' := HS.out
        rw [hfuel] at HS'
        clear cD hD HS hRow h200 hfuel
        by_cases he : E = 0
        · subst he
          obtain ⟨t', ht, ht1, ht2, _⟩ := hok rfl
          subst ht
          rw [hgo rfl] at HS'
          have HS2 : Hid (R = rdF s.data.toList (202 - (out ++ [(o, a, b)]).length) (out ++ [(o, a, b)]) t') := by
            show _ = _
            rw [HS', show 202 - (out ++ [(o, a, b)]).length = 201 - out.length by simp]
          rw [HLen.out] at ht2
          clear HS' hok herr hgo
          go_wp2_with fail
          refine (CD.out _ rfl).mono ?_
          rintro e w2 ⟨rfl, hb2⟩
          have hown1 := own_below hown hb2
          replace hbl := hbl.trans (hb2.mono hbs)
          clear hown hb2 hbs
          have hbs := hbl.size
          go_wp2_with (at_builtin; refine wpList_append_own _ rfl _ _ 32 rfl w.heap.size 23 i0 (.agg #[.int .i64 0, .int .i64 0, .int .i64 0]) 3 24 Tryd.underlying32 hi hz0 hz1 hz2 rfl (by decide) _ _ _ rfl ((hown1.alloc _).alloc _) ⟨w2.heap.size + 1, 0, none⟩ 1 1 [.int .i64 o, .int .i64 a, .int .i64 b] rfl rfl ?c1 ?c2 ?c3 ?c4 ?c5 ?_)
          case c1 =>
            intro j u hj
            match j, hj with
            | 0, hj => simp at hj; subst hj; simp [Addr.add]
            | 1, hj => simp at hj; subst hj; simp [Addr.add]
            | 2, hj => simp at hj; subst hj; simp [Addr.add]
          case c2 => intro u hu; simp at hu; rcases hu with rfl | rfl | rfl <;> rfl
          case c3 => unfold maxLen; omega
          case c4 => omega
          case c5 => simp; omega
          intro v' w3 hown' hgrow _
          have hb1 : Below w.heap.size w w3 := ((hbl.alloc (by omega) _).alloc (by simp; omega) _).grown hgrow (by simp; omega) (fun g hg => (hown1.lt g hg).1)
          have hown2 : w3.ownsRow w.heap.size 23 3 v' (out ++ [(o, a, b)]).length (cellsI (out ++ [(o, a, b)])) := by
            rw [cellsI_snoc, List.length_append]; exact hown'
          clear hown' hgrow hbl hown1
          go_wp2
          go_roundw
          case rel => exact ⟨out ++ [(o, a, b)], t', rfl, ht2, by simp; omega, HS2, hown2, hb1⟩
          case measure => simp [intOf]; omega
        · have HQ : Hid (R = ([], E)) := by
            show _ = _
            rw [HS', herr he]
          have hE1 : (E != 0) = true := by simpa using he
          clear HS' hok herr hgo he
          go_wp2_with fail
          refine (CD.out _ rfl).mono ?_
          rintro e w2 ⟨rfl, hb2⟩
          go_wp2
          go_ret2
          rw [HQ.out]
          exact ⟨none, 0, 0, rfl, RowI.nil _ _, (hbl.trans (hb2.mono hbs)).alloc (by have := hb2.size; omega) _⟩
    · have HQ : Hid (R = (out, 0)) := by
        show _ = _
        rw [HS.out, hfuel, rdF_end (by rw [HLen.out]; omega)]
      clear hfuel
      have hk : s.size ≤ q := by omega
      go_wp2
      go_ret2
      rw [HQ.out]
      exact ⟨_, _, _, rfl, hRow, hbl⟩
end Go.Proofs.YtmahpmoaicjcjaaDoor
