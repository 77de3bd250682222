/- What is proved here: the walk of the law VmNil. Condition: the table of names holds what its initialiser lays ('Nms'). -/
import Derived.Test.YthhcabddcgckcaaGreatDoorGp
import Derived.Deep.MidRow
namespace Go.Proofs.YthhcabddcgckcaaGreatDoor
open Go.ChangeShapes Go.WideShapes Go.RowKit Go.Maps

def eL : List (Int × Int × Int) := [(25, 0, 0)]
theorem eL_takes : Takes eL := ⟨by decide +kernel, by decide +kernel⟩
theorem eql_nil (w : World) (b : Nat) : (binOp .eql 29 (.pointer (some ⟨b, 0, none⟩)) (.pointer none)).run Tryz.prog w = .ok (.bool false) w := by
  have h : ∀ d : Nat, (Op.equalIn (d + 1) 29 (.pointer (some ⟨b, 0, none⟩)) (.pointer none)).run Tryz.prog w = .ok false w := fun d => by
    simp [Op.equalIn, run_underlying Tryz.underlying29]
  simp only [binOp]
  simp [Op.equal, Op.maxDepth, h 9999]
theorem eql_nn (w : World) : (binOp .eql 29 (.pointer none) (.pointer none)).run Tryz.prog w = .ok (.bool true) w := by
  have h : ∀ d : Nat, (Op.equalIn (d + 1) 29 (.pointer none) (.pointer none)).run Tryz.prog w = .ok true w := fun d => by
    simp [Op.equalIn, run_underlying Tryz.underlying29]
  simp only [binOp]
  simp [Op.equal, Op.maxDepth, h 9999]
theorem zero_new (w : World) : NoM (w.alloc (.cells Tryz.zeroCells61 61)) (.pointer (some ⟨w.heap.size, 0, none⟩)) :=
  Or.inr ⟨w.heap.size, rfl, (Lib.cell_of_heap (new_block w (.cells Tryz.zeroCells61 61)) 0).trans rfl⟩
/-- A load of 16 cells, folded, so that the walk does not open it. -/
def LDs (v : Value) : Sem Value := Instr.loadAt 23 v
theorem ld_fold (v : Value) : Instr.loadAt 23 v = LDs v := rfl
attribute [local go_sem ↓] ld_fold
set_option maxHeartbeats 4000000 in
set_option maxRecDepth 100000 in
theorem nil_walk (l : List Int) (w : World) (hl : l.length = 16) (hN : Nms w) : Calls Tryz.prog 6 #[.agg (l.map (Value.int .i64)).toArray] w fun e w' => e = .returned (.bool true) ∧ Below w.heap.size w w' := by
  have KN := Lib.hid (fun W (hb : Below w.heap.size w W) => known8_any W (hN.below hb))
  have NW : Hid (∀ W c, Below w.heap.size w W → Calls Tryz.prog 10 #[.slice (some ⟨W.heap.size + 1, 0, none⟩) 1 1] ((W.alloc c).alloc (.cells #[.int .i64 25, .int .i64 0, .int .i64 0] 52)) (GotM eL ((W.alloc c).alloc (.cells #[.int .i64 25, .int .i64 0, .int .i64 0] 52)))) := fun W c hb => by
    have h := lit_row (W.alloc c) #[.int .i64 25, .int .i64 0, .int .i64 0] eL 1 rfl rfl (by decide)
    rw [show (W.alloc c).heap.size = W.heap.size + 1 by simp] at h
    exact new_any _ 1 1 eL _ h (((hN.below hb).below (below_alloc W c)).below (below_alloc _ _))
  obtain ⟨LA, hLA⟩ : ∃ LA, LA = l.map (Value.int .i64) := ⟨_, rfl⟩
  have hi23 : (Tryz.prog.info? 23).map (·.size) = some LA.length := by rw [hLA, List.length_map, hl]; exact ln23
  have hrg : (w.alloc (.cells LA.toArray 23)).rangeAt w.heap.size 0 LA := by
    have := World.rangeAt_of_block (new_block w (.cells LA.toArray 23)) 0 16
    have hs : LA.toArray.size = 16 := by rw [hLA]; simpa using hl
    rw [show LA.toArray.extract 0 (0 + 16) = LA.toArray by rw [Nat.zero_add, ← hs]; exact Array.extract_size] at this
    exact this
  have RG : Hid (∀ W, Below (w.alloc (.cells LA.toArray 23)).heap.size (w.alloc (.cells LA.toArray 23)) W → W.rangeAt w.heap.size 0 LA) := fun W hb j u hj => keep_cell hb (hrg j u hj)
  have LD : Hid (∀ W, Below (w.alloc (.cells LA.toArray 23)).heap.size (w.alloc (.cells LA.toArray 23)) W → (LDs (.pointer (some ⟨w.heap.size, 0, none⟩))).run Tryz.prog W = .ok (.agg LA.toArray) W) := fun W hb => run_loadAt_mid W w.heap.size 0 23 LA _ (RG.out W hb) Tryz.underlying23 rfl hi23
  have B0 := below_alloc w (.cells LA.toArray 23)
  have Z0 := zero_new (w.alloc (.cells LA.toArray 23))
  have hz : (w.alloc (.cells LA.toArray 23)).heap.size = w.heap.size + 1 := by simp
  rw [hz] at Z0
  have B1 := below_alloc (w.alloc (.cells LA.toArray 23)) (.cells Tryz.zeroCells61 61)
  have SR : Hid (∀ W F b v, Mac W F b eL v → v.goes = false → Calls Tryz.prog 13 #[.pointer (some ⟨b, 0, none⟩), .agg LA.toArray] W fun e w' => e = .returned (.int .i64 0) ∧ Mac w' F b eL (begun v.ret l) ∧ Chg F F b W w') := fun W F b v h hg => by
    rw [hLA]; exact start_run W F b eL v l h hl hg
  rw [← hLA]
  have q8 := fun W => run_eql8 0 0 0 0 0 0 0 0 0 0 0 0 0 0 0 0 W
  simp only [eq8_same] at q8
  have hq2 := eql_nil
  have hq3 := eql_nn
  have N0 : Hid (∀ W, NoM W (.pointer none)) := fun W => Or.inl rfl
  have B2 := Below.refl ((w.alloc (.cells LA.toArray 23)).alloc (.cells Tryz.zeroCells61 61)).heap.size ((w.alloc (.cells LA.toArray 23)).alloc (.cells Tryz.zeroCells61 61))
  have hsz : ((w.alloc (.cells LA.toArray 23)).alloc (.cells Tryz.zeroCells61 61)).heap.size = w.heap.size + 2 := by simp
  clear hLA hN hl hrg hz
  go_enter Tryz.func6, Tryz.ntmps6
  go_wp2_with (first
    | (go_at_call 9; refine (KN.out _ (keep_below B0 (keep_below B1 (keep_below C4 E8)))).mono ?_; rintro e w9 ⟨rfl, b9⟩)
    | (go_at_call 14; refine (running_any _ F b eL _ (h4.below E8)).mono ?_; rintro e w9 ⟨rfl, rfl⟩)
    | (go_at_call 24; have q0 := m24; clear q0; refine (copy_no _ _ (Z0.below (keep_below C4 E8))).mono ?_; rintro e w9 ⟨rfl, rfl⟩)
    | (go_at_call 24; refine (copy_no _ _ (N0.out _)).mono ?_; rintro e w9 ⟨rfl, rfl⟩; have m24 := True.intro)
    | (go_at_call 22; refine (steps_no _ _ (N0.out _)).mono ?_; rintro e w9 ⟨rfl, rfl⟩)
    | (go_at_call 23; refine (faults_no _ _ (N0.out _)).mono ?_; rintro e w9 ⟨rfl, rfl⟩)
    | (go_at_call 17; refine (held_no _ _ (N0.out _)).mono ?_; rintro e w9 ⟨rfl, rfl⟩)
    | (go_at_call 20; refine (retained_no _ _ (N0.out _)).mono ?_; rintro e w8 ⟨rfl, b8⟩; have E8 := keep_below E7 b8)
    | (go_at_call 19; refine (outs_no _ _ (N0.out _)).mono ?_; rintro e w9 ⟨rfl, rfl⟩)
    | (go_at_call 16; refine (stack_no _ _ (N0.out _)).mono ?_; rintro e w9 ⟨rfl, rfl⟩)
    | (go_at_call 15; have q0 := m15; clear q0; refine (at_no _ _ (Z0.below (keep_below C4 E7))).mono ?_; rintro e w9 ⟨rfl, rfl⟩)
    | (go_at_call 15; refine (at_no _ _ (N0.out _)).mono ?_; rintro e w9 ⟨rfl, rfl⟩; have m15 := True.intro)
    | (go_at_call 14; have q0 := m14; clear q0; refine (running_no _ _ (Z0.below (keep_below C4 E7))).mono ?_; rintro e w9 ⟨rfl, rfl⟩)
    | (go_at_call 14; refine (running_no _ _ (N0.out _)).mono ?_; rintro e w9 ⟨rfl, rfl⟩; have m14 := True.intro)
    | (go_at_call 13; refine (start_no _ _ (Z0.below (keep_below C4 E6)) _).mono ?_; rintro e w7 ⟨rfl, b7⟩; have E7 := keep_below E6 b7)
    | (go_at_call 13; have q0 := E5; clear q0; refine (start_no _ _ (N0.out _) _).mono ?_; rintro e w6 ⟨rfl, b6⟩; have E6 := keep_below E5 b6; have LD6 := LD.out _ (keep_below B1 (keep_below C4 E6)))
    | (go_at_call 18; refine (step_nomem _ F b eL _ h4 rfl).mono ?_; rintro e w5 ⟨rfl, b5⟩; have E5 := keep_below b5 (below_alloc w5 (.cells #[.int .i64 0, .int .i64 0] 43)); have LD5 := LD.out _ (keep_below B1 (keep_below C4 E5)))
    | (go_at_call 13; refine (SR.out _ F b fresh (hM.below (Below.refl _ _)) rfl).mono ?_; rintro e w4 ⟨rfl, h4, g4⟩; have C4 := C3.trans (g4.lowB L3 (L3 b hM.fb) C3.size))
    | (refine wpList_load_mid rfl 23 _ rfl w.heap.size 0 rfl LA _ (RG.out _ (keep_below B1 C3)) Tryz.underlying23 rfl hi23 ?_)
    | (go_at_call 10; refine (NW.out w2 _ (keep_below B0 (keep_below B1 C2))).mono ?_; rintro e w3 hG; obtain ⟨b, F, rfl, hM, hlo, b3⟩ := hG.ok eL_takes; have C3 := keep_below (keep_below (keep_below C2 (below_alloc _ _)) (below_alloc _ _)) b3; have L3 := fun k hk => Nat.le_trans C2.size (Nat.le_trans (by simp; omega) (hlo k hk)))
    | (go_at_call 18; refine (step_no _ _ (Z0.below (keep_below (keep_below C1 (below_alloc _ _)) (below_alloc _ _))) _).mono ?_; rintro e w2 ⟨rfl, b2⟩; have C2 := keep_below (keep_below (keep_below C1 (below_alloc _ _)) (below_alloc _ _)) b2)
    | (go_at_call 18; refine (step_no _ _ (N0.out _) _).mono ?_; rintro e w1 ⟨rfl, b1⟩; have C1 := keep_below (keep_below B2 (below_alloc _ _)) b1))
  go_ret
  exact ⟨rfl, keep_below (keep_below B0 (keep_below B1 (keep_below C4 E8))) b9⟩
end Go.Proofs.YthhcabddcgckcaaGreatDoor
