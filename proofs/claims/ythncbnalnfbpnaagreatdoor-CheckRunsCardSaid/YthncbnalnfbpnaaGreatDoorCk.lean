/- What is proved here: plain facts on what is wrong with tasks of images, how many slots they take, and how long they lock. Conditions: those each theorem states. -/
import Derived.Test.YthncbnalnfbpnaaGreatDoorHi
import Derived.Test.YthncbnalnfbpnaaGreatDoorHp
namespace Go.Proofs.YthncbnalnfbpnaaGreatDoor

/-- Does an instruction read, or write, what its task has not? -/
def bynE (m : ImP) (ou : List Int) (i : Int × Int × Int) : Bool :=
  if i.1 = 15 then decide (m.inp ≤ i.2.1) else if i.1 = 16 then !ou.contains i.2.1
  else if i.1 = 17 ∨ i.1 = 18 then decide (((m.blocks.getD i.2.1.toNat []).length : Int) ≤ i.2.2) else false
/-- What is wrong with a task's locks, and with its places. -/
def wlE (t : TkP) : Int := if lks t.co t.co.length = t.bl then 0 else 11
def wpE (m : ImP) (t : TkP) : Int := if t.co.any (bynE m t.ou) = true then 12 else 0
/-- What is wrong with a task of an image that is right. -/
def wrE (m : ImP) (t : TkP) : Int := if cE true t.co = 0 then (if wlE t = 0 then wpE m t else wlE t) else cE true t.co
def tk0 : TkP := ⟨0, 0, 0, 0, [], [], []⟩
def tkAt (m : ImP) (i : Int) : TkP := m.tasks.getD i.toNat tk0
/-- What is wrong with a task. -/
def taskE (m : ImP) (i : Int) : Int :=
  if imE m = true then (if 0 ≤ i ∧ i < (m.tasks.length : Int) then wrE m (tkAt m i) else 14) else 12
/-- The first task that is wrong, and its error. -/
def allG (m : ImP) (k : Int) : List TkP → Int × Int
  | [] => (-1, 0)
  | t :: l => if wrE m t = 0 then allG m (k + 1) l else (k, wrE m t)
def allE (m : ImP) : Int × Int := if imE m = true then allG m 0 m.tasks else (-1, 12)
/-- How many slots a task takes at most. -/
def slW (m : ImP) (i : Int) : Int := if taskE m i = 0 then m.sw + m.la + cW true (tkAt m i).co + m.cm + m.sw else 0
/-- How long its blocks are locked. -/
def lkA (m : ImP) (i : Int) : List Int := if taskE m i = 0 then (sA (tkAt m i).co).map (·.2) else []

theorem wrE_zero {m : ImP} {t : TkP} (h : wrE m t = 0) : cE true t.co = 0 ∧ lks t.co t.co.length = t.bl ∧ t.co.any (bynE m t.ou) = false := by
  unfold wrE wlE wpE at h
  by_cases h1 : cE true t.co = 0
  · rw [if_pos h1] at h
    by_cases h2 : lks t.co t.co.length = t.bl
    · rw [if_pos h2, if_pos rfl] at h
      refine ⟨h1, h2, ?_⟩
      cases h3 : t.co.any (bynE m t.ou)
      · rfl
      · rw [h3] at h; simp at h
    · rw [if_neg h2] at h; simp at h
  · rw [if_neg h1] at h; exact absurd h h1
theorem wrE_of {m : ImP} {t : TkP} (h1 : cE true t.co = 0) (h2 : lks t.co t.co.length = t.bl) (h3 : t.co.any (bynE m t.ou) = false) : wrE m t = 0 := by
  unfold wrE wlE wpE
  rw [if_pos h1, if_pos h2, if_pos rfl, h3]; rfl
theorem taskE_zero {m : ImP} {i : Int} (h : taskE m i = 0) : imE m = true ∧ 0 ≤ i ∧ i < (m.tasks.length : Int) ∧ wrE m (tkAt m i) = 0 := by
  unfold taskE at h
  cases h1 : imE m
  · rw [h1] at h; simp at h
  · rw [if_pos h1] at h
    by_cases h2 : 0 ≤ i ∧ i < (m.tasks.length : Int)
    · rw [if_pos h2] at h; exact ⟨rfl, h2.1, h2.2, h⟩
    · rw [if_neg h2] at h; simp at h
theorem taskE_in {m : ImP} {i : Int} (h1 : imE m = true) (h2 : 0 ≤ i) (h3 : i < (m.tasks.length : Int)) : taskE m i = wrE m (tkAt m i) := by
  unfold taskE; rw [if_pos h1, if_pos ⟨h2, h3⟩]
theorem imE_parts {m : ImP} (h : imE m = true) : numE m = true ∧ m.safe.length ≤ 16 ∧ blocksE m.blocks = true ∧ tasksE m = true := by
  unfold imE at h
  simp only [Bool.and_eq_true, decide_eq_true_eq] at h
  exact h
theorem tasksE_parts {m : ImP} (h : tasksE m = true) : 1 ≤ m.tasks.length ∧ m.tasks.length ≤ 8 ∧ (∀ t ∈ m.tasks, tkE m.blocks.length m.safe.length t = true) ∧ apE [] (outsT m.tasks) = true := by
  unfold tasksE at h
  simp only [Bool.and_eq_true, List.all_eq_true] at h
  have := inB_iff.1 h.1
  exact ⟨by omega, by omega, h.2.1, h.2.2⟩
theorem numE_parts {m : ImP} (h : numE m = true) : (0 ≤ m.sw ∧ m.sw ≤ 100) ∧ (1 ≤ m.la ∧ m.la ≤ 100) ∧ (1 ≤ m.cm ∧ m.cm ≤ 100) ∧ 0 ≤ m.inp ∧ m.inp ≤ 16 := by
  unfold numE at h
  simp only [Bool.and_eq_true] at h
  exact ⟨inB_iff.1 h.1, inB_iff.1 h.2.1, inB_iff.1 h.2.2.1, inB_iff.1 h.2.2.2⟩
theorem tkE_parts {nb ns : Int} {t : TkP} (h : tkE nb ns t = true) : tkNumE t = true ∧ riseE (-1) nb t.bl = true ∧ riseE (-1) ns t.ou = true ∧ codeE t.co = true := by
  unfold tkE at h
  simp only [Bool.and_eq_true] at h
  exact h
theorem tkAt_mem {m : ImP} {i : Int} (h2 : 0 ≤ i) (h3 : i < (m.tasks.length : Int)) : tkAt m i ∈ m.tasks ∧ m.tasks[i.toNat]? = some (tkAt m i) := by
  unfold tkAt
  have hk : i.toNat < m.tasks.length := by omega
  rw [List.getD_eq_getElem?_getD, List.getElem?_eq_getElem hk]
  exact ⟨List.getElem_mem hk, rfl⟩
/-- A Get and a Put name a block that the image has. -/
theorem block_there {m : ImP} {t : TkP} (hm : imE m = true) (ht : t ∈ m.tasks) (hc : cE true t.co = 0) (hl : lks t.co t.co.length = t.bl) {p : Nat} (hp : p < t.co.length) (ho : (at_ t.co p).1 = 17 ∨ (at_ t.co p).1 = 18) :
    0 ≤ (at_ t.co p).2.1 ∧ (at_ t.co p).2.1 < (m.blocks.length : Int) := by
  have h1 := (rE_zero (cE_zero hc).1).1
  obtain ⟨hw, hb⟩ := lE_zero h1
  have h2 := held_get hb hp ho
  unfold lkd at h2
  obtain ⟨q, hq, h3⟩ := List.any_eq_true.1 h2
  simp only [Bool.and_eq_true, beq_iff_eq] at h3
  have h4 : (at_ t.co p).2.1 ∈ t.bl := by
    rw [← hl, mem_lks (Nat.le_refl _)]
    have := sk_lt hq
    exact ⟨q, by omega, h3.1, h3.2⟩
  have h5 := (tkE_parts ((tasksE_parts (imE_parts hm).2.2.2).2.2.1 t ht)).2.1
  have := riseE_mem h5 _ h4
  omega
/-- Sections of a task that can be run. -/
theorem locked_facts {m : ImP} {i : Int} (h : taskE m i = 0) :
    (lkA m i).length = (tkAt m i).bl.length ∧ 1 + m.la + m.cm ≤ slW m i ∧
    (∀ k, k < (lkA m i).length → 1 ≤ (lkA m i).getD k 0 ∧ (lkA m i).getD k 0 < slW m i) ∧
    ∀ k, 0 < k → k < (lkA m i).length → (lkA m i).getD k 0 < (lkA m i).getD (k - 1) 0 := by
  obtain ⟨h1, h2, h3, h4⟩ := taskE_zero h
  obtain ⟨c1, c2, c3⟩ := wrE_zero h4
  obtain ⟨n1, n2, n3, n4⟩ := numE_parts (imE_parts h1).1
  have hS := secs_all c1 (tkAt m i).co.length (Nat.le_refl _)
  have hE : lkA m i = (sec (tkAt m i).co (tkAt m i).co.length).map (·.2) := by unfold lkA sA; rw [if_pos h, if_pos c1]
  have hW : slW m i = m.sw + m.la + ((ub true (tkAt m i).co 0 + 1 : Nat) : Int) + m.cm + m.sw := by unfold slW cW; rw [if_pos h, if_pos c1]
  have hl : (lkA m i).length = (sec (tkAt m i).co (tkAt m i).co.length).length := by rw [hE, List.length_map]
  have hg : ∀ k, k < (lkA m i).length → (lkA m i).getD k 0 = ((sec (tkAt m i).co (tkAt m i).co.length).getD k (0, 0)).2 := by
    intro k hk
    rw [hl] at hk
    rw [hE, List.getD_eq_getElem?_getD, List.getD_eq_getElem?_getD, List.getElem?_map, List.getElem?_eq_getElem hk]; rfl
  refine ⟨?_, ?_, fun k hk => ?_, fun k h0 hk => ?_⟩
  · rw [hl, sec_lks (Nat.le_refl _), c2]
  · rw [hW]; omega
  · rw [hg k hk, hW]
    have := hS.one k (by omega)
    omega
  · rw [hg k hk, hg (k - 1) (by omega)]
    have := hS.two k h0 (by omega)
    omega
theorem locked_zero {m : ImP} {i : Int} (h : taskE m i ≠ 0) : lkA m i = [] ∧ slW m i = 0 := by
  unfold lkA slW; rw [if_neg h, if_neg h]; exact ⟨rfl, rfl⟩

/-! ### Other times. -/
theorem bynE_congr {m m' : ImP} (h1 : m'.inp = m.inp) (h2 : m'.blocks = m.blocks) (ou : List Int) : bynE m' ou = bynE m ou := by
  funext i; unfold bynE; rw [h1, h2]
theorem wrE_congr {m m' : ImP} (h1 : m'.inp = m.inp) (h2 : m'.blocks = m.blocks) (t : TkP) : wrE m' t = wrE m t := by
  unfold wrE wpE; rw [bynE_congr h1 h2]
theorem times_same {m : ImP} {a b c : Int} (h1 : imE m = true) (h2 : imE { m with sw := a, la := b, cm := c } = true) (i : Int) :
    taskE { m with sw := a, la := b, cm := c } i = taskE m i ∧ lkA { m with sw := a, la := b, cm := c } i = lkA m i ∧
    (taskE m i = 0 → slW { m with sw := a, la := b, cm := c } i - slW m i = 2 * (a - m.sw) + (b - m.la) + (c - m.cm)) := by
  have e : taskE { m with sw := a, la := b, cm := c } i = taskE m i := by
    unfold taskE
    rw [h1, h2, wrE_congr (m := m) (m' := { m with sw := a, la := b, cm := c }) rfl rfl]
    rfl
  refine ⟨e, ?_, fun h => ?_⟩
  · unfold lkA; rw [e]; rfl
  · have e2 : tkAt { m with sw := a, la := b, cm := c } i = tkAt m i := rfl
    unfold slW; rw [if_pos h, if_pos (e.trans h), e2]
    simp only
    omega

/-! ### One task alone. -/
theorem apE_split : ∀ (l s : List Int), apE s l = true ↔ l.Nodup ∧ ∀ p ∈ l, p ∉ s
  | [], s => by simp [apE]
  | p :: l, s => by
    rw [apE_cons, Bool.and_eq_true, apE_split l (p :: s), List.nodup_cons]
    simp only [Bool.not_eq_true', List.contains_eq_mem, decide_eq_false_iff_not, List.mem_cons, not_or]
    constructor
    · rintro ⟨h1, h2, h3⟩
      refine ⟨⟨fun h => (h3 p h).1 rfl, h2⟩, ?_⟩
      rintro q (rfl | hq)
      · exact h1
      · exact (h3 q hq).2
    · rintro ⟨⟨h1, h2⟩, h3⟩
      refine ⟨h3 p (Or.inl rfl), h2, fun q hq => ⟨?_, h3 q (Or.inr hq)⟩⟩
      rintro rfl; exact h1 hq
theorem one_right {m : ImP} (h : imE m = true) {t : TkP} (ht : t ∈ m.tasks) : imE { m with tasks := [t] } = true := by
  obtain ⟨h1, h2, h3, h4⟩ := imE_parts h
  obtain ⟨h5, h6, h7, h8⟩ := tasksE_parts h4
  unfold imE tasksE
  simp only [Bool.and_eq_true, decide_eq_true_eq, List.all_eq_true]
  refine ⟨h1, h2, h3, rfl, ?_, ?_⟩
  · intro x hx
    obtain rfl : x = t := by simpa using hx
    exact h7 x ht
  · rw [apE_split] at h8 ⊢
    refine ⟨?_, fun p _ => by simp⟩
    have : outsT [t] = t.ou := by simp [outsT]
    rw [this]
    have hs : t.ou.Sublist (outsT m.tasks) := by
      unfold outsT
      obtain ⟨a, b, e⟩ := List.append_of_mem ht
      rw [e, List.flatMap_append, List.flatMap_cons]
      exact (List.sublist_append_left _ _).trans (List.sublist_append_right _ _)
    exact hs.nodup h8.1
theorem one_task {m : ImP} (h : imE m = true) {t : TkP} (ht : t ∈ m.tasks) : taskE { m with tasks := [t] } 0 = wrE m t := by
  rw [taskE_in (one_right h ht) (by omega) (by show (0 : Int) < ([t] : List TkP).length; simp)]
  exact wrE_congr (m := m) (m' := { m with tasks := [t] }) rfl rfl t
theorem allG_zero {m : ImP} : ∀ {l : List TkP} {k : Int}, 0 ≤ k → ((allG m k l).2 = 0 ↔ ∀ t ∈ l, wrE m t = 0)
  | [], _, _ => by simp [allG]
  | t :: l, k, hk => by
    unfold allG
    by_cases h : wrE m t = 0
    · rw [if_pos h, allG_zero (by omega)]; simp [h]
    · rw [if_neg h]; simp [h]

/-! ### More inputs, blocks and outputs. -/
theorem riseE_more {room room' : Int} (h : room ≤ room') : ∀ {l : List Int} {a : Int}, riseE a room l = true → riseE a room' l = true
  | [], _, _ => rfl
  | p :: l, a, hl => by
    unfold riseE at hl ⊢
    simp only [Bool.and_eq_true, decide_eq_true_eq] at hl ⊢
    exact ⟨hl.1, by omega, riseE_more h hl.2.2⟩
theorem more_right {m : ImP} (h : imE m = true) {inp : Int} {sf : List Int} {bl : List (List Int)} (h1 : 0 ≤ inp ∧ inp ≤ 16) (h2 : m.safe.length ≤ sf.length ∧ sf.length ≤ 16) (h3 : m.blocks.length ≤ bl.length ∧ blocksE bl = true) :
    imE { m with inp := inp, safe := sf, blocks := bl } = true := by
  obtain ⟨g1, g2, g3, g4⟩ := imE_parts h
  obtain ⟨g5, g6, g7, g8⟩ := tasksE_parts g4
  obtain ⟨n1, n2, n3, n4⟩ := numE_parts g1
  unfold imE tasksE numE
  simp only [Bool.and_eq_true, decide_eq_true_eq, List.all_eq_true, inB_iff]
  refine ⟨⟨n1, n2, n3, h1⟩, h2.2, h3.2, ⟨by omega, by omega⟩, fun t ht => ?_, g8⟩
  obtain ⟨k1, k2, k3, k4⟩ := tkE_parts (g7 t ht)
  unfold tkE
  simp only [Bool.and_eq_true]
  exact ⟨k1, riseE_more (by omega) k2, riseE_more (by omega) k3, k4⟩
theorem more_task {m : ImP} {i : Int} (h : taskE m i = 0) {inp : Int} {sf : List Int} {bl : List (List Int)} (h1 : m.inp ≤ inp) (h2 : ∀ k, k < m.blocks.length → bl.getD k [] = m.blocks.getD k [])
    (hr : imE { m with inp := inp, safe := sf, blocks := bl } = true) :
    taskE { m with inp := inp, safe := sf, blocks := bl } i = 0 ∧ slW { m with inp := inp, safe := sf, blocks := bl } i = slW m i := by
  obtain ⟨g1, g2, g3, g4⟩ := taskE_zero h
  obtain ⟨c1, c2, c3⟩ := wrE_zero g4
  have hmem := (tkAt_mem g2 g3).1
  have e : taskE { m with inp := inp, safe := sf, blocks := bl } i = 0 := by
    rw [taskE_in hr g2 g3]
    refine wrE_of c1 c2 ?_
    rw [List.any_eq_false] at c3 ⊢
    intro x hx0
    have hx : x ∈ (tkAt m i).co := hx0
    have hb := c3 x hx
    obtain ⟨p, hp, e⟩ := List.getElem_of_mem hx
    have he : at_ (tkAt m i).co p = x := by unfold at_; rw [List.getD_eq_getElem?_getD, List.getElem?_eq_getElem hp]; exact e
    have hB := block_there g1 hmem c1 c2 hp
    rw [he] at hB
    unfold bynE at hb ⊢
    simp only
    split
    · rename_i h15
      rw [if_pos h15] at hb
      simp only [decide_eq_true_eq] at hb ⊢
      omega
    · rename_i h15
      rw [if_neg h15] at hb
      split
      · rename_i h16
        rw [if_pos h16] at hb
        exact hb
      · rename_i h16
        rw [if_neg h16] at hb
        split
        · rename_i h17
          rw [if_pos h17] at hb
          have h8 := hB h17
          rw [h2 _ (by omega)]
          exact hb
        · simp
  refine ⟨e, ?_⟩
  have e2 : tkAt { m with inp := inp, safe := sf, blocks := bl } i = tkAt m i := rfl
  unfold slW; rw [if_pos h, if_pos e, e2]

/-! ### A task of End alone. -/
def endT (t : TkP) : TkP := { t with co := [(25, 0, 0)], bl := [] }
theorem end_cE : cE true [(25, 0, 0)] = 0 := by decide +kernel
theorem end_cW : cW true [(25, 0, 0)] = 1 := by decide +kernel
theorem end_codeE : codeE [(25, 0, 0)] = true := by decide +kernel
theorem end_sA : sA [(25, 0, 0)] = [] := by decide +kernel
theorem end_right {m : ImP} (h : imE m = true) {k : Nat} (hk : k < m.tasks.length) : imE { m with tasks := m.tasks.set k (endT (m.tasks.getD k tk0)) } = true := by
  obtain ⟨g1, g2, g3, g4⟩ := imE_parts h
  obtain ⟨g5, g6, g7, g8⟩ := tasksE_parts g4
  have hg : m.tasks.getD k tk0 = m.tasks[k] := by rw [List.getD_eq_getElem?_getD, List.getElem?_eq_getElem hk]; rfl
  unfold imE tasksE
  simp only [Bool.and_eq_true, decide_eq_true_eq, List.all_eq_true]
  refine ⟨g1, g2, g3, inB_iff.2 (by rw [List.length_set]; omega), fun t ht => ?_, ?_⟩
  · rcases List.mem_or_eq_of_mem_set ht with ht | rfl
    · exact g7 t ht
    · have := g7 _ (List.getElem_mem hk)
      obtain ⟨k1, k2, k3, k4⟩ := tkE_parts this
      rw [hg]
      unfold tkE
      simp only [Bool.and_eq_true]
      exact ⟨k1, rfl, k3, end_codeE⟩
  · have : outsT (m.tasks.set k (endT (m.tasks.getD k tk0))) = outsT m.tasks := by
      unfold outsT
      rw [List.flatMap_def, List.flatMap_def, List.map_set]
      congr 1
      rw [hg]
      have e : (endT m.tasks[k]).ou = (m.tasks.map fun t => t.ou)[k]'(by simpa using hk) := by simp [endT]
      rw [e]
      exact List.set_getElem_self _
    rw [this]; exact g8
theorem end_task {m : ImP} (h : imE m = true) {k : Nat} (hk : k < m.tasks.length) :
    taskE { m with tasks := m.tasks.set k (endT (m.tasks.getD k tk0)) } k = 0 ∧ slW { m with tasks := m.tasks.set k (endT (m.tasks.getD k tk0)) } k = 1 + 2 * m.sw + m.la + m.cm ∧ lkA { m with tasks := m.tasks.set k (endT (m.tasks.getD k tk0)) } k = [] := by
  have ht : tkAt { m with tasks := m.tasks.set k (endT (m.tasks.getD k tk0)) } k = endT (m.tasks.getD k tk0) := by
    unfold tkAt; simp [List.getD_eq_getElem?_getD, hk]
  have e : taskE { m with tasks := m.tasks.set k (endT (m.tasks.getD k tk0)) } k = 0 := by
    rw [taskE_in (end_right h hk) (by omega) (by simp only [List.length_set]; omega), ht]
    exact wrE_of end_cE rfl rfl
  refine ⟨e, ?_, ?_⟩
  · unfold slW; rw [if_pos e, ht]
    have : cW true (endT (m.tasks.getD k tk0)).co = 1 := end_cW
    rw [this]; simp only; omega
  · unfold lkA; rw [if_pos e, ht]
    have : sA (endT (m.tasks.getD k tk0)).co = [] := end_sA
    rw [this]; rfl
end Go.Proofs.YthncbnalnfbpnaaGreatDoor
