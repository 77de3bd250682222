/- What is proved here: plain facts on uses of blocks: how high blocks lift, how long tasks wait for lower ones. Conditions: those each theorem states. -/
namespace Go.Proofs.Ythicoekoeffpaaa

/-- The greatest of a number and of some. -/
def maxF (p : Int) (l : List Int) : Int := l.foldr max p
theorem maxF_cons (p x : Int) (l : List Int) : maxF p (x :: l) = max x (maxF p l) := rfl
theorem maxF_snoc (p x : Int) : ∀ l : List Int, maxF p (l ++ [x]) = max (maxF p l) x
  | [] => by show max x p = max p x; omega
  | y :: l => by rw [List.cons_append, maxF_cons, maxF_cons, maxF_snoc p x l]; omega
theorem maxF_first (p : Int) : ∀ l : List Int, p ≤ maxF p l
  | [] => Int.le_refl _
  | x :: l => by rw [maxF_cons]; have := maxF_first p l; omega
theorem maxF_ge (p : Int) : ∀ {l : List Int} {x : Int}, x ∈ l → x ≤ maxF p l
  | y :: l, x, h => by
    rw [maxF_cons]
    rcases List.mem_cons.1 h with rfl | h
    · omega
    · have := maxF_ge p h; omega
theorem maxF_le {p n : Int} (h0 : p ≤ n) : ∀ {l : List Int}, (∀ x ∈ l, x ≤ n) → maxF p l ≤ n
  | [], _ => h0
  | y :: l, h => by
    rw [maxF_cons]
    have h1 := h y (List.mem_cons_self ..)
    have h2 := maxF_le h0 (l := l) fun x hx => h x (List.mem_cons_of_mem _ hx)
    omega
theorem maxF_mono {p q : Int} (h0 : p ≤ q) {a b : List Int} (h : ∀ x ∈ a, ∃ y ∈ b, x ≤ y) : maxF p a ≤ maxF q b :=
  maxF_le (Int.le_trans h0 (maxF_first q b)) fun x hx => by
    obtain ⟨y, hy, hxy⟩ := h x hx
    exact Int.le_trans hxy (maxF_ge q hy)
theorem maxF_sub {p : Int} {a b : List Int} (h : ∀ x ∈ a, x ∈ b) : maxF p a ≤ maxF p b := maxF_mono (Int.le_refl _) fun x hx => ⟨x, h x hx, Int.le_refl _⟩
theorem maxF_same {p : Int} {a b : List Int} (h : ∀ x, x ∈ a ↔ x ∈ b) : maxF p a = maxF p b := Int.le_antisymm (maxF_sub fun x => (h x).1) (maxF_sub fun x => (h x).2)
theorem maxF_low {p : Int} {l : List Int} (h : ∀ x ∈ l, x ≤ p) : maxF p l = p := Int.le_antisymm (maxF_le (Int.le_refl _) h) (maxF_first p l)
theorem maxF_append (p : Int) (a : List Int) : ∀ b : List Int, maxF p (a ++ b) = maxF (maxF p a) b
  | [] => by rw [List.append_nil]; rfl
  | x :: b => by
    refine Int.le_antisymm (maxF_le ?_ fun y hy => ?_) (maxF_le (maxF_sub fun y hy => List.mem_append_left _ hy) fun y hy => maxF_ge p (List.mem_append_right _ hy))
    · exact Int.le_trans (maxF_first p a) (maxF_first _ _)
    · rcases List.mem_append.1 hy with hy | hy
      · exact Int.le_trans (maxF_ge p hy) (maxF_first _ _)
      · exact maxF_ge _ hy
theorem maxF_twice : ∀ l : List Int, maxF 0 (l.map fun x => 2 * x) = 2 * maxF 0 l
  | [] => rfl
  | x :: l => by rw [List.map_cons, maxF_cons, maxF_cons, maxF_twice l]; omega
theorem maxF_hit (p : Int) : ∀ l : List Int, maxF p l = p ∨ maxF p l ∈ l
  | [] => Or.inl rfl
  | x :: l => by
    rw [maxF_cons]
    rcases maxF_hit p l with h | h
    · by_cases e : x ≤ maxF p l
      · rw [show max x (maxF p l) = maxF p l by omega]; exact Or.inl h
      · rw [show max x (maxF p l) = x by omega]; exact Or.inr (List.mem_cons_self ..)
    · by_cases e : x ≤ maxF p l
      · rw [show max x (maxF p l) = maxF p l by omega]; exact Or.inr (List.mem_cons_of_mem _ h)
      · rw [show max x (maxF p l) = x by omega]; exact Or.inr (List.mem_cons_self ..)

/-- A use. -/
structure UsP where
  (pr : Int) (bl le : List Int)
  deriving DecidableEq
/-- How high a block lifts. -/
def ceL (l : List UsP) (b : Int) : List Int := (l.filter fun u => u.bl.contains b).map (·.pr)
def ceB (l : List UsP) (b : Int) : Int := maxF 0 (ceL l b)
theorem ceL_mem {l : List UsP} {b x : Int} : x ∈ ceL l b ↔ ∃ u ∈ l, b ∈ u.bl ∧ u.pr = x := by
  unfold ceL
  simp only [List.mem_map, List.mem_filter, List.contains_eq_mem, decide_eq_true_eq]
  constructor
  · rintro ⟨u, ⟨h1, h2⟩, h3⟩; exact ⟨u, h1, h2, h3⟩
  · rintro ⟨u, h1, h2, h3⟩; exact ⟨u, ⟨h1, h2⟩, h3⟩
theorem ceB_ge {l : List UsP} {b : Int} {u : UsP} (h : u ∈ l) (hb : b ∈ u.bl) : u.pr ≤ ceB l b := maxF_ge 0 (ceL_mem.2 ⟨u, h, hb, rfl⟩)
theorem ceB_le {l : List UsP} {b n : Int} (h0 : 0 ≤ n) (h : ∀ u ∈ l, b ∈ u.bl → u.pr ≤ n) : ceB l b ≤ n := maxF_le h0 fun x hx => by
  obtain ⟨u, h1, h2, rfl⟩ := ceL_mem.1 hx
  exact h u h1 h2
theorem ceB_pos (l : List UsP) (b : Int) : 0 ≤ ceB l b := maxF_first 0 _
theorem ceB_same {l m : List UsP} (h : ∀ u, u ∈ l ↔ u ∈ m) (b : Int) : ceB l b = ceB m b := maxF_same fun x => by
  rw [ceL_mem, ceL_mem]
  constructor
  · rintro ⟨u, h1, h2⟩; exact ⟨u, (h u).1 h1, h2⟩
  · rintro ⟨u, h1, h2⟩; exact ⟨u, (h u).2 h1, h2⟩
theorem ceB_more {l m : List UsP} (h : ∀ u ∈ l, u ∈ m) (b : Int) : ceB l b ≤ ceB m b := maxF_sub fun x hx => by
  obtain ⟨u, h1, h2⟩ := ceL_mem.1 hx
  exact ceL_mem.2 ⟨u, h u h1, h2⟩
theorem ceL_snoc (l : List UsP) (u : UsP) (b : Int) : ceL (l ++ [u]) b = if u.bl.contains b = true then ceL l b ++ [u.pr] else ceL l b := by
  unfold ceL
  rw [List.filter_append, List.map_append]
  by_cases h : u.bl.contains b = true
  · rw [if_pos h, List.filter_cons, if_pos h]; rfl
  · rw [if_neg h, List.filter_cons, if_neg h]; simp
theorem ceB_snoc (l : List UsP) (u : UsP) (b : Int) : ceB (l ++ [u]) b = if u.bl.contains b = true then max (ceB l b) u.pr else ceB l b := by
  unfold ceB
  rw [ceL_snoc]
  split
  · exact maxF_snoc _ _ _
  · rfl
/-- What one use keeps others of a priority waiting for, by blocks' ceilings. -/
def caL (c : Int → Int) (p : Int) (q : List (Int × Int)) : List Int := (q.filter fun x => decide (p ≤ c x.1)).map (·.2)
def caU (c : Int → Int) (p : Int) (u : UsP) : List Int := if u.pr < p then caL c p (u.bl.zip u.le) else []
/-- How long a task of a priority waits. -/
def waB (l : List UsP) (p : Int) : Int := maxF 0 (l.flatMap (caU (ceB l) p))
theorem caL_mem {c : Int → Int} {p x : Int} {q : List (Int × Int)} : x ∈ caL c p q ↔ ∃ b, (b, x) ∈ q ∧ p ≤ c b := by
  unfold caL
  simp only [List.mem_map, List.mem_filter, decide_eq_true_eq]
  constructor
  · rintro ⟨⟨b, y⟩, ⟨h1, h2⟩, rfl⟩; exact ⟨b, h1, h2⟩
  · rintro ⟨b, h1, h2⟩; exact ⟨(b, x), ⟨h1, h2⟩, rfl⟩
theorem wa_mem {c : Int → Int} {p x : Int} {l : List UsP} : x ∈ l.flatMap (caU c p) ↔ ∃ u ∈ l, u.pr < p ∧ ∃ b, (b, x) ∈ u.bl.zip u.le ∧ p ≤ c b := by
  rw [List.mem_flatMap]
  constructor
  · rintro ⟨u, h1, h2⟩
    unfold caU at h2
    by_cases h : u.pr < p
    · rw [if_pos h] at h2; exact ⟨u, h1, h, caL_mem.1 h2⟩
    · rw [if_neg h] at h2; simp at h2
  · rintro ⟨u, h1, h2, h3⟩
    exact ⟨u, h1, by unfold caU; rw [if_pos h2]; exact caL_mem.2 h3⟩
theorem waB_pos (l : List UsP) (p : Int) : 0 ≤ waB l p := maxF_first 0 _
theorem waB_same {l m : List UsP} (h : ∀ u, u ∈ l ↔ u ∈ m) (p : Int) : waB l p = waB m p := maxF_same fun x => by
  rw [wa_mem, wa_mem]
  constructor
  · rintro ⟨u, h1, h2, b, h3, h4⟩; exact ⟨u, (h u).1 h1, h2, b, h3, by rw [← ceB_same h]; exact h4⟩
  · rintro ⟨u, h1, h2, b, h3, h4⟩; exact ⟨u, (h u).2 h1, h2, b, h3, by rw [ceB_same h]; exact h4⟩
theorem waB_more {l m : List UsP} (h : ∀ u ∈ l, u ∈ m) (p : Int) : waB l p ≤ waB m p := maxF_sub fun x hx => by
  obtain ⟨u, h1, h2, b, h3, h4⟩ := wa_mem.1 hx
  exact wa_mem.2 ⟨u, h u h1, h2, b, h3, Int.le_trans h4 (ceB_more h b)⟩
theorem waB_bare {l : List UsP} (h : ∀ u ∈ l, u.bl = []) (p : Int) : waB l p = 0 := maxF_low fun x hx => by
  obtain ⟨u, h1, h2, b, h3, _⟩ := wa_mem.1 hx
  rw [h u h1] at h3; simp at h3
theorem waB_low {l : List UsP} {p : Int} (h : ∀ u ∈ l, p ≤ u.pr) : waB l p = 0 := maxF_low fun x hx => by
  obtain ⟨u, h1, h2, _⟩ := wa_mem.1 hx
  have := h u h1; omega
theorem zip_mem_right {a b : List Int} {x y : Int} (h : (x, y) ∈ a.zip b) : y ∈ b := (List.of_mem_zip h).2
theorem waB_le {l : List UsP} {n p : Int} (h0 : 0 ≤ n) (h : ∀ u ∈ l, ∀ x ∈ u.le, x ≤ n) : waB l p ≤ n := maxF_le h0 fun x hx => by
  obtain ⟨u, h1, _, b, h3, _⟩ := wa_mem.1 hx
  exact h u h1 x (zip_mem_right h3)
/-- A use with locks twice as long. -/
def twU (u : UsP) : UsP := { u with le := u.le.map fun x => 2 * x }
theorem ceB_twice (l : List UsP) (b : Int) : ceB (l.map twU) b = ceB l b := by
  unfold ceB ceL
  rw [List.filter_map, List.map_map]; rfl
theorem caL_twice (c : Int → Int) (p : Int) (a b : List Int) : caL c p (a.zip (b.map fun x => 2 * x)) = (caL c p (a.zip b)).map fun x => 2 * x := by
  unfold caL
  rw [List.zip_map_right, List.filter_map, List.map_map, List.map_map]; rfl
theorem waB_twice (l : List UsP) (p : Int) : waB (l.map twU) p = 2 * waB l p := by
  unfold waB
  rw [show ceB (l.map twU) = ceB l from funext (ceB_twice l), ← maxF_twice, List.flatMap_map, List.map_flatMap]
  congr 2
  funext u
  unfold caU
  show (if u.pr < p then caL (ceB l) p (u.bl.zip (u.le.map fun x => 2 * x)) else []) = _
  split
  · exact caL_twice _ _ _ _
  · rfl
theorem waB_alone {u : UsP} {l : List UsP} (h : ∀ v ∈ l, v.bl = []) (h1 : 0 ≤ u.pr) (p : Int) : waB (u :: l) p = 0 := maxF_low fun x hx => by
  obtain ⟨v, h2, h3, b, h4, h5⟩ := wa_mem.1 hx
  exfalso
  rcases List.mem_cons.1 h2 with rfl | h2
  · have : ceB (v :: l) b ≤ v.pr := ceB_le h1 fun w hw hb => by
      rcases List.mem_cons.1 hw with rfl | hw
      · exact Int.le_refl _
      · rw [h w hw] at hb; simp at hb
    omega
  · rw [h v h2] at h4; simp at h4
theorem ceB_alone {u : UsP} {l : List UsP} (h : ∀ v ∈ l, v.bl = []) (h1 : 0 ≤ u.pr) (b : Int) : ceB (u :: l) b ≤ u.pr := ceB_le h1 fun w hw hb => by
  rcases List.mem_cons.1 hw with rfl | hw
  · exact Int.le_refl _
  · rw [h w hw] at hb; simp at hb

/-- What counts of the first n. -/
def grL (l : List Int) (c : Nat → Bool) (n : Nat) : List Int := ((List.range n).filter c).map fun k => l.getD k 0
def gre (p : Int) (l : List Int) (c : Nat → Bool) (n : Nat) : Int := maxF p (grL l c n)
theorem grL_mem {l : List Int} {c : Nat → Bool} {n : Nat} {x : Int} : x ∈ grL l c n ↔ ∃ k, k < n ∧ c k = true ∧ l.getD k 0 = x := by
  unfold grL
  rw [List.mem_map]
  constructor
  · rintro ⟨k, h1, h2⟩
    rw [List.mem_filter, List.mem_range] at h1
    exact ⟨k, h1.1, h1.2, h2⟩
  · rintro ⟨k, h1, h2, h3⟩
    exact ⟨k, by rw [List.mem_filter, List.mem_range]; exact ⟨h1, h2⟩, h3⟩
theorem gre_zero (p : Int) (l : List Int) (c : Nat → Bool) : gre p l c 0 = p := rfl
theorem gre_skip {p : Int} {l : List Int} {c : Nat → Bool} {k : Nat} (h : c k = false) : gre p l c (k + 1) = gre p l c k := by
  unfold gre grL
  rw [List.range_succ, List.filter_append, List.filter_cons, if_neg (by rw [h]; simp)]; simp
theorem gre_max {p : Int} {l : List Int} {c : Nat → Bool} {k : Nat} (h : c k = true) : gre p l c (k + 1) = max (gre p l c k) (l.getD k 0) := by
  unfold gre grL
  rw [List.range_succ, List.filter_append, List.filter_cons, if_pos h, List.map_append]
  exact maxF_snoc _ _ _
theorem gre_low {p : Int} {l : List Int} {c : Nat → Bool} {k : Nat} (h : l.getD k 0 ≤ gre p l c k) : gre p l c (k + 1) = gre p l c k := by
  cases hc : c k
  · exact gre_skip hc
  · rw [gre_max hc]; omega
theorem gre_take {p : Int} {l : List Int} {c : Nat → Bool} {k : Nat} (h : c k = true) (h2 : gre p l c k < l.getD k 0) : gre p l c (k + 1) = l.getD k 0 := by
  rw [gre_max h]; omega
theorem gre_congr {p : Int} {l : List Int} {c d : Nat → Bool} {n : Nat} (h : ∀ k, k < n → c k = d k) : gre p l c n = gre p l d n := by
  unfold gre
  refine maxF_same fun x => ?_
  rw [grL_mem, grL_mem]
  constructor
  · rintro ⟨k, h1, h2, h3⟩; exact ⟨k, h1, by rw [← h k h1]; exact h2, h3⟩
  · rintro ⟨k, h1, h2, h3⟩; exact ⟨k, h1, by rw [h k h1]; exact h2, h3⟩
theorem gre_first (p : Int) (l : List Int) (c : Nat → Bool) (n : Nat) : p ≤ gre p l c n := maxF_first _ _
/-- A use at a place. -/
def uAt (L : List UsP) (i : Nat) : UsP := L.getD i ⟨0, [], []⟩
theorem uAt_some {L : List UsP} {i : Nat} {u : UsP} (h : L[i]? = some u) : uAt L i = u := by unfold uAt; rw [List.getD_eq_getElem?_getD, h]; rfl
theorem gre_ceil (L : List UsP) (b : Int) : gre 0 (L.map (·.pr)) (fun i => (uAt L i).bl.contains b) L.length = ceB L b := by
  unfold gre ceB
  refine maxF_same fun x => ?_
  rw [grL_mem, ceL_mem]
  constructor
  · rintro ⟨k, h1, h2, h3⟩
    have e : L[k]? = some L[k] := List.getElem?_eq_getElem h1
    rw [uAt_some e] at h2
    refine ⟨L[k], List.getElem_mem h1, by simpa using h2, ?_⟩
    rw [← h3]; simp [h1]
  · rintro ⟨u, h1, h2, h3⟩
    obtain ⟨k, hk, rfl⟩ := List.getElem_of_mem h1
    refine ⟨k, hk, ?_, ?_⟩
    · rw [uAt_some (List.getElem?_eq_getElem hk)]; simpa using h2
    · rw [← h3]; simp [hk]
/-- Whether a use's lock keeps one of a priority waiting. -/
def kee (c : Int → Int) (p : Int) (u : UsP) (k : Nat) : Bool := decide (u.pr < p) && decide (p ≤ c (u.bl.getD k 0))
theorem gre_keep (c : Int → Int) (p q : Int) (u : UsP) (h : u.le.length = u.bl.length) : gre q u.le (kee c p u) u.le.length = maxF q (caU c p u) := by
  unfold gre
  refine maxF_same fun x => ?_
  rw [grL_mem]
  unfold kee
  by_cases hp : u.pr < p
  · rw [show caU c p u = caL c p (u.bl.zip u.le) by unfold caU; rw [if_pos hp], caL_mem]
    constructor
    · rintro ⟨k, h1, h2, h3⟩
      rw [Bool.and_eq_true, decide_eq_true_eq, decide_eq_true_eq] at h2
      refine ⟨u.bl.getD k 0, ?_, h2.2⟩
      have hb : k < u.bl.length := by omega
      have e : (u.bl.zip u.le)[k]? = some (u.bl.getD k 0, x) := by
        rw [List.getElem?_zip_eq_some]
        exact ⟨by simp [hb], by rw [← h3]; simp [h1]⟩
      exact List.mem_of_getElem? e
    · rintro ⟨b, h1, h2⟩
      obtain ⟨k, hk⟩ := List.mem_iff_getElem?.1 h1
      rw [List.getElem?_zip_eq_some] at hk
      obtain ⟨k1, k2⟩ := hk
      have hl : k < u.le.length := (List.getElem?_eq_some_iff.1 k2).1
      refine ⟨k, hl, ?_, by rw [List.getD_eq_getElem?_getD, k2]; rfl⟩
      rw [Bool.and_eq_true, decide_eq_true_eq, decide_eq_true_eq]
      refine ⟨hp, ?_⟩
      rw [List.getD_eq_getElem?_getD, k1]; exact h2
  · rw [show caU c p u = [] by unfold caU; rw [if_neg hp]]
    constructor
    · rintro ⟨k, _, h2, _⟩
      rw [Bool.and_eq_true, decide_eq_true_eq] at h2
      exact absurd h2.1 hp
    · intro h; simp at h
/-- A wait for the first uses. -/
def waT (L : List UsP) (p : Int) (j : Nat) : Int := maxF 0 ((L.take j).flatMap (caU (ceB L) p))
theorem waT_zero (L : List UsP) (p : Int) : waT L p 0 = 0 := rfl
theorem waT_all (L : List UsP) (p : Int) : waT L p L.length = waB L p := by unfold waT waB; rw [List.take_length]
theorem waT_succ {L : List UsP} {p : Int} {j : Nat} {u : UsP} (h : L[j]? = some u) : waT L p (j + 1) = maxF (waT L p j) (caU (ceB L) p u) := by
  unfold waT
  obtain ⟨hj, e⟩ := List.getElem?_eq_some_iff.1 h
  rw [List.take_succ_eq_append_getElem hj, e, List.flatMap_append, maxF_append]
  congr 1
  simp
theorem waT_gre {L : List UsP} {p : Int} {j : Nat} {u : UsP} (h : L[j]? = some u) (hl : u.le.length = u.bl.length) : gre (waT L p j) u.le (kee (ceB L) p u) u.le.length = waT L p (j + 1) := by
  rw [gre_keep _ _ _ _ hl, waT_succ h]
/-- Numbers' bits. -/
def bitOf (h : Int) (k : Nat) : Bool := decide (h / 2 ^ k % 2 = 1)
/-- How high a task is lifted. -/
def acV (p h : Int) (c : List Int) : Int := gre p c (bitOf h) (min c.length 64)
/-- Uses that can be. -/
def inB (n lo hi : Int) : Bool := decide (lo ≤ n) && decide (n ≤ hi)
def riseE (ahead room : Int) : List Int → Bool
  | [] => true
  | p :: l => decide (ahead < p) && (decide (p < room) && riseE p room l)
def lenE (n : Int) : Bool := inB n 0 1099511627776
def okU (B : Int) (u : UsP) : Bool := inB u.pr 1 100 && (decide (u.le.length = u.bl.length) && (riseE (-1) B u.bl && u.le.all lenE))
def okL (B : Int) (L : List UsP) : Bool := inB B 0 8 && (decide (L.length ≤ 8) && L.all (okU B))
theorem inB_iff {n lo hi : Int} : inB n lo hi = true ↔ lo ≤ n ∧ n ≤ hi := by unfold inB; simp
theorem inB_f {n lo hi : Int} (h : n < lo ∨ hi < n) : inB n lo hi = false := by
  unfold inB
  rcases h with h | h
  · rw [decide_eq_false (p := lo ≤ n) (by omega)]; rfl
  · rw [decide_eq_false (p := n ≤ hi) (by omega), Bool.and_false]
theorem riseE_mem {ahead room : Int} {l : List Int} (h : riseE ahead room l = true) : ∀ p ∈ l, ahead < p ∧ p < room := by
  induction l generalizing ahead with
  | nil => intro p hp; simp at hp
  | cons x l ih =>
    simp only [riseE, Bool.and_eq_true, decide_eq_true_eq] at h
    intro p hp
    rcases List.mem_cons.1 hp with rfl | hp
    · exact ⟨h.1, h.2.1⟩
    · have := ih h.2.2 p hp; omega
/-- What a use that can be is like. -/
structure OkU (B : Int) (u : UsP) : Prop where
  pr1 : 1 ≤ u.pr
  pr2 : u.pr ≤ 100
  len : u.le.length = u.bl.length
  bl : ∀ b ∈ u.bl, 0 ≤ b ∧ b < B
  le : ∀ n ∈ u.le, 0 ≤ n ∧ n ≤ 1099511627776
theorem okU_of {B : Int} {u : UsP} (h : okU B u = true) : OkU B u := by
  unfold okU at h
  simp only [Bool.and_eq_true, decide_eq_true_eq, List.all_eq_true] at h
  obtain ⟨h1, h2, h3, h4⟩ := h
  obtain ⟨k1, k2⟩ := inB_iff.1 h1
  exact ⟨k1, k2, h2, fun b hb => by have := riseE_mem h3 b hb; omega, fun n hn => inB_iff.1 (h4 n hn)⟩
structure OkL (B : Int) (L : List UsP) : Prop where
  b0 : 0 ≤ B
  b8 : B ≤ 8
  len : L.length ≤ 8
  all : ∀ u ∈ L, OkU B u
theorem okL_of {B : Int} {L : List UsP} (h : okL B L = true) : OkL B L := by
  unfold okL at h
  simp only [Bool.and_eq_true, decide_eq_true_eq, List.all_eq_true] at h
  obtain ⟨h1, h2, h3⟩ := h
  obtain ⟨k1, k2⟩ := inB_iff.1 h1
  exact ⟨k1, k2, h2, fun u hu => okU_of (h3 u hu)⟩
/-- Blocks' ceilings, and tasks' waits. -/
def ceilL (B : Int) (L : List UsP) : List Int := (List.range B.toNat).map fun b : Nat => ceB L (b : Int)
def waitL (L : List UsP) : List Int := L.map fun u => waB L u.pr
def cL (B : Int) (L : List UsP) : List Int := if okL B L = true then ceilL B L else []
def wL (B : Int) (L : List UsP) : List Int := if okL B L = true then waitL L else []
theorem ceilL_len (B : Int) (L : List UsP) : (ceilL B L).length = B.toNat := by unfold ceilL; simp
theorem ceilL_at {B : Int} {L : List UsP} {b : Nat} (h : b < B.toNat) : (ceilL B L)[b]? = some (ceB L (b : Int)) := by unfold ceilL; simp [h]
theorem ceilL_get {B : Int} {L : List UsP} {b : Nat} (h : b < B.toNat) : (ceilL B L).getD b 0 = ceB L (b : Int) := by rw [List.getD_eq_getElem?_getD, ceilL_at h]; rfl
theorem waitL_len (L : List UsP) : (waitL L).length = L.length := by unfold waitL; simp
theorem waitL_at {L : List UsP} {i : Nat} {u : UsP} (h : L[i]? = some u) : (waitL L)[i]? = some (waB L u.pr) := by unfold waitL; rw [List.getElem?_map, h]; rfl
end Go.Proofs.Ythicoekoeffpaaa
