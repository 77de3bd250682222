/- What is proved here: plain facts on a text cut into all its pieces at a byte: a line's words tell what the line tells, a text's pieces tell what its lines tell. Conditions: none beyond those each theorem states. -/
import Derived.Test.YtofmlodfhdjjiaaDoorPr
namespace Go.Proofs.YtofmlodfhdjjiaaDoor
open Go.ChangeShapes Go.WideShapes Go.RowKit

/-- The pieces of a text, the first one begun already. -/
def pcsA (c : UInt8) (cur : List UInt8) : List UInt8 → List (List UInt8)
  | [] => [cur]
  | x :: r => if x = c then cur :: pcsA c [] r else pcsA c (cur ++ [x]) r
def pcs (c : UInt8) (l : List UInt8) : List (List UInt8) := pcsA c [] l
theorem pcsA_miss {c : UInt8} : ∀ {l : List UInt8} (cur : List UInt8), c ∉ l → pcsA c cur l = [cur ++ l]
  | [], cur, _ => by simp [pcsA]
  | x :: r, cur, h => by
    have h1 : x ≠ c := fun e => h (by simp [e])
    rw [pcsA, if_neg h1, pcsA_miss (l := r) (cur ++ [x]) (fun hm => h (List.mem_cons_of_mem _ hm))]; simp
theorem pcsA_hit {c : UInt8} : ∀ {p : List UInt8} (cur q : List UInt8), c ∉ p → pcsA c cur (p ++ c :: q) = (cur ++ p) :: pcs c q
  | [], cur, q, _ => by simp [pcsA, pcs]
  | x :: p, cur, q, h => by
    have h1 : x ≠ c := fun e => h (by simp [e])
    rw [List.cons_append, pcsA, if_neg h1, pcsA_hit (p := p) (cur ++ [x]) q (fun hm => h (List.mem_cons_of_mem _ hm))]; simp
theorem pcs_miss {c : UInt8} {l : List UInt8} (h : c ∉ l) : pcs c l = [l] := by unfold pcs; rw [pcsA_miss [] h]; rfl
theorem pcs_hit {c : UInt8} {p : List UInt8} (q : List UInt8) (h : c ∉ p) : pcs c (p ++ c :: q) = p :: pcs c q := by
  have := pcsA_hit [] q h; unfold pcs at *; rw [this]; rfl
theorem pcs_pos (c : UInt8) (l : List UInt8) : 1 ≤ (pcs c l).length := by
  rcases cutB_cases c l with ⟨h, _⟩ | ⟨p, q, h1, h2, _⟩
  · rw [pcs_miss h]; simp
  · rw [h1, pcs_hit q h2]; simp
theorem pcsA_len (c : UInt8) : ∀ (l cur : List UInt8), (pcsA c cur l).length ≤ l.length + 1
  | [], cur => by simp [pcsA]
  | x :: r, cur => by
    rw [pcsA]
    split
    · have := pcsA_len c r []; simp only [List.length_cons]; omega
    · have := pcsA_len c r (cur ++ [x]); simp only [List.length_cons]; omega
theorem pcs_len (c : UInt8) (l : List UInt8) : (pcs c l).length ≤ l.length + 1 := pcsA_len c l []
theorem pcsA_mem (c : UInt8) : ∀ (l cur : List UInt8), ∀ p ∈ pcsA c cur l, p.length ≤ cur.length + l.length
  | [], cur => by intro p hp; simp [pcsA] at hp; rw [hp]; omega
  | x :: r, cur => by
    intro p hp
    rw [pcsA] at hp
    split at hp
    · rcases List.mem_cons.1 hp with rfl | hp
      · omega
      · have := pcsA_mem c r [] p hp; simp only [List.length_cons, List.length_nil] at this ⊢; omega
    · have := pcsA_mem c r (cur ++ [x]) p hp; simp only [List.length_cons, List.length_append, List.length_nil] at this ⊢; omega
theorem pcs_mem (c : UInt8) (l : List UInt8) : ∀ p ∈ pcs c l, p.length ≤ l.length := by
  intro p hp
  have := pcsA_mem c l [] p hp
  simpa using this

/-- The instruction of a line's words. -/
def insW (ws : List (List UInt8)) : (Int × Int × Int) × Int :=
  if named (ws.getD 0 []) = 0 ∨ ws.length ≠ nargs (named (ws.getD 0 [])) + 1 then ((0, 0, 0), 3)
  else if ws.length = 1 then fin (named (ws.getD 0 []), 0, 0) false
  else if (num (ws.getD 1 [])).2 ≠ 0 then ((0, 0, 0), 3)
  else if ws.length = 2 then fin (named (ws.getD 0 []), (num (ws.getD 1 [])).1, 0) false
  else if (num (ws.getD 2 [])).2 ≠ 0 then ((0, 0, 0), 3)
  else fin (named (ws.getD 0 []), (num (ws.getD 1 [])).1, (num (ws.getD 2 [])).1) false
theorem fin_true (i : Int × Int × Int) : fin i true = ((0, 0, 0), 3) := rfl
theorem ins_words (l : List UInt8) : insW (pcs 32 l) = ins l := by
  have hnum : num [] = (0, 3) := num_nil
  have hcn : cutB 32 [] = ([], [], false) := rfl
  rcases cutB_cases 32 l with ⟨h, hc⟩ | ⟨p, q, h1, h2, hc⟩
  · rw [pcs_miss h]
    unfold ins insW
    rw [hc]
    simp only [List.getD_cons_zero, List.length_cons, List.length_nil, hcn, hnum]
    by_cases h0 : named l = 0
    · simp [h0]
    · rcases nargs_012 (named l) with hn | hn | hn
      · simp [h0, hn]
      · simp [h0, hn]
      · simp [h0, hn]
  · have hp1 := pcs_pos 32 q
    rw [h1, pcs_hit q h2, ← h1]
    unfold ins insW
    rw [hc]
    simp only [List.getD_cons_zero, List.length_cons, List.getD_cons_succ]
    by_cases h0 : named p = 0
    · simp [h0]
    rcases nargs_012 (named p) with hn | hn | hn
    · rw [if_pos (Or.inr (by omega)), if_neg h0, if_pos hn, fin_true]
    · rcases cutB_cases 32 q with ⟨g, gc⟩ | ⟨p2, q2, g1, g2, gc⟩
      · rw [pcs_miss g, gc]
        simp [h0, hn]
      · have hp2 := pcs_pos 32 q2
        rw [g1, pcs_hit q2 g2, ← g1, gc]
        simp only [List.length_cons]
        rw [if_pos (Or.inr (by omega)), if_neg h0, if_neg (by omega), fin_true]
        simp [hn]
    · rcases cutB_cases 32 q with ⟨g, gc⟩ | ⟨p2, q2, g1, g2, gc⟩
      · rw [pcs_miss g, gc]
        simp [h0, hn, hcn, hnum]
      · rw [g1, pcs_hit q2 g2, ← g1, gc]
        simp only [List.length_cons, List.getD_cons_zero, List.getD_cons_succ]
        rcases cutB_cases 32 q2 with ⟨f, fc⟩ | ⟨p3, q3, f1, f2, fc⟩
        · rw [pcs_miss f, fc]
          simp [h0, hn]
        · have hp3 := pcs_pos 32 q3
          rw [f1, pcs_hit q3 f2, ← f1, fc]
          simp only [List.length_cons]
          rw [if_pos (Or.inr (by omega)), if_neg h0, if_neg (by omega), fin_true]
          simp [hn, fin_true]
/-- What pieces tell, behind instructions that are read already. -/
def prR (acc : List (Int × Int × Int)) : List (List UInt8) → List (Int × Int × Int) × Int
  | [] => (acc, 0)
  | [p] => if p = [] then (acc, 0) else if acc.length = 200 then ([], 4) else ([], 3)
  | p :: q :: r => if acc.length = 200 then ([], 4) else if (ins p).2 ≠ 0 then ([], (ins p).2) else prR (acc ++ [(ins p).1]) (q :: r)
theorem prR_pr : ∀ (n : Nat) (l : List UInt8) (acc : List (Int × Int × Int)), l.length ≤ n → prR acc (pcs 10 l) = pr acc (lns l) := by
  intro n
  induction n with
  | zero =>
    intro l acc hl
    obtain rfl : l = [] := List.length_eq_zero_iff.1 (by omega)
    rfl
  | succ n ih =>
    intro l acc hl
    rcases cutB_cases 10 l with ⟨h, hc⟩ | ⟨p, q, h1, h2, hc⟩
    · rw [pcs_miss h]
      by_cases h0 : l = []
      · subst h0; rfl
      · rw [lns_miss h h0, prR, if_neg h0, pr]; simp
    · have hlq : q.length ≤ n := by rw [h1] at hl; simp at hl; omega
      rw [h1, pcs_hit q h2, lns_hit q h2, pr]
      have hih := fun acc => ih q acc hlq
      cases hq : pcs 10 q with
      | nil => have := pcs_pos 10 q; rw [hq] at this; simp at this
      | cons a r =>
        rw [prR, ← hq]
        simp only [hih, Bool.true_eq_false, if_false]
theorem parse_R (l : List UInt8) : prR [] (pcs 10 l) = parse l := prR_pr l.length l [] (Nat.le_refl _)
end Go.Proofs.YtofmlodfhdjjiaaDoor
