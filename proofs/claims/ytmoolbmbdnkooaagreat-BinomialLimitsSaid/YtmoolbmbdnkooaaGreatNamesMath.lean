/- Numbers of which some count as others, as plain data: which one each counts as; what is made and joined; the forest behind it, whose ways may get shorter. No program is named here. -/
import GoSem.ClaimData
namespace Go.Proofs.YtmoolbmbdnkooaaGreat

/-- How many may be made; as which each one counts (place 0 stands for no number); how many count as themselves. -/
structure NS where
  most : Nat
  roots : List Nat
  count : Nat
def NS.at (N : NS) (i : Nat) : Nat := N.roots.getD i 0
def madeB (N : NS) (s : Int) : Bool := decide (1 ≤ s ∧ s < N.roots.length)
def hasB (N : NS) (s : Int) : Bool := madeB N s && ((N.at s.toNat : Int) == s)
def rootI (N : NS) (s : Int) : Int := if madeB N s then N.at s.toNat else 0
def selfs (r : List Nat) : Nat := (List.range r.length).countP fun i => decide (1 ≤ i) && r.getD i 0 == i
structure NS.Fit (N : NS) : Prop where
  most : N.most ≤ 65536
  pos : 1 ≤ N.roots.length
  len : N.roots.length ≤ N.most + 1
  zero : N.at 0 = 0
  lt : ∀ i, i < N.roots.length → N.at i < N.roots.length
  idem : ∀ i, i < N.roots.length → N.at (N.at i) = N.at i
  one : ∀ i, 1 ≤ i → i < N.roots.length → 1 ≤ N.at i
  count : N.count = selfs N.roots

theorem getD_set {α : Type} (l : List α) (i j : Nat) (x d : α) (hi : i < l.length) : (l.set i x).getD j d = if i = j then x else l.getD j d := by
  simp only [List.getD_eq_getElem?_getD, List.getElem?_set]
  by_cases h : i = j
  · subst h; simp [hi]
  · simp [h]
theorem getD_snoc {α : Type} (l : List α) (j : Nat) (x d : α) : (l ++ [x]).getD j d = if j = l.length then x else l.getD j d := by
  simp only [List.getD_eq_getElem?_getD, List.getElem?_append]
  by_cases h : j < l.length
  · simp [h]; omega
  · by_cases h2 : j = l.length
    · subst h2; simp
    · have h3 : l.length < j := by omega
      simp only [h, if_false, h2]
      rw [List.getElem?_eq_none (by simp; omega), List.getElem?_eq_none (by omega)]
theorem getD_mapf {α β : Type} (f : α → β) (l : List α) (j : Nat) (d : α) (e : β) (h : j < l.length) : (l.map f).getD j e = f (l.getD j d) := by
  simp [List.getD_eq_getElem?_getD, h]

theorem selfs_snoc (r : List Nat) (h : 1 ≤ r.length) : selfs (r ++ [r.length]) = selfs r + 1 := by
  unfold selfs
  rw [List.length_append, List.length_singleton, List.range_succ, List.countP_append]
  congr 1
  · refine List.countP_congr fun i hi => ?_
    have hi' : i ≠ r.length := by have := List.mem_range.1 hi; omega
    rw [getD_snoc, if_neg hi']
  · simp [h]
theorem count_but (p : Nat → Bool) (b n : Nat) : (List.range n).countP p = (List.range n).countP (fun i => p i && i != b) + if b < n ∧ p b = true then 1 else 0 := by
  induction n with
  | zero => simp
  | succ n ih =>
    rw [List.range_succ, List.countP_append, List.countP_append, ih]
    simp only [List.countP_cons, List.countP_nil]
    by_cases hb : b = n
    · subst hb
      cases hp : p b <;> simp
    · have h1 : (b < n + 1) ↔ (b < n) := by omega
      have h2 : (n != b) = true := by simp; omega
      simp only [h1, h2, Bool.and_true]
      omega
theorem selfs_pos {r : List Nat} {i : Nat} (h1 : 1 ≤ i) (h2 : i < r.length) (h3 : r.getD i 0 = i) : 1 ≤ selfs r := by
  have : 0 < selfs r := List.countP_pos_iff.2 ⟨i, List.mem_range.2 h2, by rw [h3]; simp [h1]⟩
  omega
theorem selfs_le (r : List Nat) : selfs r ≤ r.length := by
  have := List.countP_le_length (p := fun i => decide (1 ≤ i) && r.getD i 0 == i) (l := List.range r.length)
  simpa [selfs] using this

def newN (most : Nat) : NS := ⟨most, [0], 0⟩
def makeN (N : NS) : NS := ⟨N.most, N.roots ++ [N.roots.length], N.count + 1⟩
def joinN (N : NS) (a b : Nat) : NS := ⟨N.most, N.roots.map fun r => if r = b then a else r, N.count - 1⟩
theorem new_fit {m : Nat} (h : m ≤ 65536) : (newN m).Fit := by
  refine ⟨h, by simp [newN], by simp [newN], rfl, fun i hi => ?_, fun i hi => ?_, fun i h1 hi => ?_, rfl⟩
  all_goals
    obtain rfl : i = 0 := by simp [newN] at hi; exact hi
    first
    | exact rfl
    | (exact absurd h1 (by omega))
    | (simp [newN, NS.at])
theorem NS.Fit.countLe {N : NS} (h : N.Fit) : N.count ≤ N.roots.length := by rw [h.count]; exact selfs_le _
theorem NS.Fit.lenLe {N : NS} (h : N.Fit) : N.roots.length ≤ 65537 := by have := h.most; have := h.len; omega
theorem make_at (N : NS) (i : Nat) : (makeN N).at i = if i = N.roots.length then N.roots.length else N.at i := getD_snoc _ _ _ _
theorem make_fit {N : NS} (h : N.Fit) (hl : N.roots.length ≤ N.most) : (makeN N).Fit := by
  have hp := h.pos
  have hln : (makeN N).roots.length = N.roots.length + 1 := by simp [makeN]
  refine ⟨h.most, by omega, by rw [hln]; simp [makeN]; omega, ?_, fun i hi => ?_, fun i hi => ?_, fun i h1 hi => ?_, ?_⟩
  · rw [make_at, if_neg (by omega)]; exact h.zero
  · rw [hln] at hi ⊢
    rw [make_at]
    split
    · omega
    · have := h.lt i (by omega); omega
  · rw [hln] at hi
    rw [make_at N i]
    split
    · rw [make_at, if_pos rfl]
    · have := h.lt i (by omega)
      rw [make_at, if_neg (by omega)]
      exact h.idem i (by omega)
  · rw [hln] at hi
    rw [make_at]
    split
    · omega
    · exact h.one i h1 (by omega)
  · show N.count + 1 = _
    rw [h.count]; exact (selfs_snoc _ hp).symm
theorem join_len (N : NS) (a b : Nat) : (joinN N a b).roots.length = N.roots.length := by simp [joinN]
theorem join_at (N : NS) (a b i : Nat) (hi : i < N.roots.length) : (joinN N a b).at i = if N.at i = b then a else N.at i := getD_mapf (fun r => if r = b then a else r) N.roots i 0 0 hi
theorem join_fit {N : NS} (h : N.Fit) {a b : Nat} (ha : 1 ≤ a ∧ a < N.roots.length) (hb : 1 ≤ b ∧ b < N.roots.length) (ea : N.at a = a) (eb : N.at b = b) (hab : a ≠ b) : (joinN N a b).Fit ∧ (joinN N a b).count + 1 = N.count := by
  have hself : ∀ i, i < N.roots.length → ((if N.at i = b then a else N.at i) = i ↔ N.at i = i ∧ i ≠ b) := fun i hi => by
    by_cases hib : N.at i = b
    · rw [if_pos hib]
      constructor
      · intro e; subst e; exact absurd (ea.symm.trans hib) hab
      · rintro ⟨e, hn⟩; exact absurd (e.symm.trans hib) hn
    · rw [if_neg hib]
      constructor
      · intro e; exact ⟨e, fun e2 => hib (e.trans e2)⟩
      · rintro ⟨e, _⟩; exact e
  have hc : selfs N.roots = selfs (joinN N a b).roots + 1 := by
    unfold selfs
    rw [join_len, count_but _ b]
    congr 1
    · refine List.countP_congr fun i hi => ?_
      have hi' := List.mem_range.1 hi
      have h1 := hself i hi'
      have h2 : (joinN N a b).roots.getD i 0 = _ := join_at N a b i hi'
      rw [h2]
      have h3 : N.roots.getD i 0 = N.at i := rfl
      rw [h3]
      simp only [Bool.and_eq_true, decide_eq_true_eq, beq_iff_eq, bne_iff_ne, ne_eq]
      rw [h1]
      constructor
      · rintro ⟨⟨x, y⟩, z⟩; exact ⟨x, y, z⟩
      · rintro ⟨x, y, z⟩; exact ⟨⟨x, y⟩, z⟩
    · have h3 : N.roots.getD b 0 = b := eb
      rw [if_pos ⟨hb.2, by rw [h3]; simp [hb.1]⟩]
  have hcc := h.count
  refine ⟨⟨h.most, by rw [join_len]; exact h.pos, by rw [join_len]; exact h.len, ?_, fun i hi => ?_, fun i hi => ?_, fun i h1 hi => ?_, ?_⟩, ?_⟩
  · rw [join_at _ _ _ _ (by have := h.pos; omega), h.zero, if_neg (by omega)]
  · rw [join_len] at hi ⊢
    rw [join_at _ _ _ _ hi]
    split
    · exact ha.2
    · exact h.lt i hi
  · rw [join_len] at hi
    rw [join_at _ _ _ i hi]
    split
    · rw [join_at _ _ _ _ ha.2, ea]; simp
    · rename_i hn
      rw [join_at _ _ _ _ (h.lt i hi), h.idem i hi, if_neg hn]
  · rw [join_len] at hi
    rw [join_at _ _ _ i hi]
    split
    · exact ha.1
    · exact h.one i h1 hi
  · show N.count - 1 = _; omega
  · show N.count - 1 + 1 = _; omega

theorem has_at {N : NS} {s : Int} (h : hasB N s = true) : ∃ i : Nat, s = i ∧ 1 ≤ i ∧ i < N.roots.length ∧ N.at i = i := by
  simp only [hasB, madeB, Bool.and_eq_true, decide_eq_true_eq, beq_iff_eq] at h
  obtain ⟨⟨h1, h2⟩, h3⟩ := h
  exact ⟨s.toNat, by omega, by omega, by omega, by omega⟩
theorem has_of {N : NS} {i : Nat} (h1 : 1 ≤ i) (h2 : i < N.roots.length) (h3 : N.at i = i) : hasB N i = true := by
  simp only [hasB, madeB, Int.toNat_natCast, Bool.and_eq_true, decide_eq_true_eq, beq_iff_eq]
  exact ⟨⟨by omega, by omega⟩, by rw [h3]⟩

/-- The forest in which roots are found: of each place one on the way to its root. d: how far it is from there at most. -/
structure Tree (l : List Nat) (N : NS) (d : Nat → Nat) : Prop where
  len : l.length = N.roots.length
  lt : ∀ i, i < l.length → l.getD i 0 < l.length
  par : ∀ i, i < l.length → N.at (l.getD i 0) = N.at i
  self : ∀ i, i < l.length → l.getD i 0 = i → N.at i = i
  root : ∀ i, i < l.length → l.getD (N.at i) 0 = N.at i
  dep : ∀ i, i < l.length → l.getD i 0 ≠ i → d (l.getD i 0) < d i
theorem tree_new (m : Nat) : Tree [0] (newN m) (fun _ => 0) := by
  refine ⟨rfl, fun i hi => ?_, fun i hi => ?_, fun i hi _ => ?_, fun i hi => ?_, fun i hi h => ?_⟩
  all_goals
    obtain rfl : i = 0 := by simp at hi; exact hi
    first
    | exact rfl
    | (exact absurd rfl h)
    | (simp)
theorem tree_at {l : List Nat} {N : NS} {d : Nat → Nat} (h : Tree l N d) {i : Nat} (hi : i < l.length) : l.getD i 0 = i ↔ N.at i = i :=
  ⟨fun e => h.self i hi e, fun e => by have := h.root i hi; rw [e] at this; exact this⟩
theorem tree_make {l : List Nat} {N : NS} {d : Nat → Nat} (h : Tree l N d) (hN : N.Fit) : Tree (l ++ [l.length]) (makeN N) d := by
  have hl := h.len
  have hln : (l ++ [l.length]).length = l.length + 1 := by simp
  refine ⟨by rw [hln]; simp [makeN, hl], fun i hi => ?_, fun i hi => ?_, fun i hi e => ?_, fun i hi => ?_, fun i hi e => ?_⟩ <;> rw [hln] at hi
  · rw [hln, getD_snoc]
    split
    · omega
    · have := h.lt i (by omega); omega
  · rw [getD_snoc]
    split
    · rename_i e; rw [e]
    · rename_i e
      have := h.lt i (by omega)
      rw [make_at, make_at, if_neg (by omega), if_neg (by omega)]
      exact h.par i (by omega)
  · rw [getD_snoc] at e
    rw [make_at]
    split
    · rename_i e2; exact e2.symm
    · rename_i e2
      rw [if_neg (by omega)] at e
      exact h.self i (by omega) e
  · rw [make_at]
    split
    · rw [getD_snoc, if_pos hl.symm, hl]
    · rename_i e2
      have := hN.lt i (by omega)
      rw [getD_snoc, if_neg (by omega)]
      exact h.root i (by omega)
  · rw [getD_snoc] at e ⊢
    split at e
    · rename_i e2; exact absurd e2.symm e
    · rename_i e2
      rw [if_neg e2]
      exact h.dep i (by omega) e
/-- A way gets shorter. -/
theorem tree_half {l : List Nat} {N : NS} {d : Nat → Nat} (h : Tree l N d) {i : Nat} (hi : i < l.length) (hne : l.getD i 0 ≠ i) : Tree (l.set i (l.getD (l.getD i 0) 0)) N d := by
  have h1 := h.lt i hi
  refine ⟨by rw [List.length_set]; exact h.len, fun j hj => ?_, fun j hj => ?_, fun j hj e => ?_, fun j hj => ?_, fun j hj e => ?_⟩ <;> rw [List.length_set] at hj
  · rw [List.length_set, getD_set _ _ _ _ _ hi]
    split
    · exact h.lt _ h1
    · exact h.lt j hj
  · rw [getD_set _ _ _ _ _ hi]
    split
    · rename_i e; subst e
      rw [h.par _ h1, h.par i hi]
    · exact h.par j hj
  · rw [getD_set _ _ _ _ _ hi] at e
    split at e
    · rename_i e2; subst e2
      exfalso
      by_cases e3 : l.getD (l.getD i 0) 0 = l.getD i 0
      · exact hne (e3.symm.trans e)
      · have h2 := h.dep _ h1 e3
        have h3 := h.dep i hi hne
        rw [e] at h2
        omega
    · exact h.self j hj e
  · have h2 := h.root j hj
    rw [getD_set _ _ _ _ _ hi, if_neg (fun e => hne (by rw [e]; exact h2))]
    exact h2
  · rw [getD_set _ _ _ _ _ hi] at e ⊢
    split at e
    · rename_i e2; subst e2
      rw [if_pos rfl]
      have h3 := h.dep i hi hne
      by_cases e3 : l.getD (l.getD i 0) 0 = l.getD i 0
      · rw [e3]; exact h3
      · have h2 := h.dep _ h1 e3; omega
    · rename_i e2
      rw [if_neg e2]
      exact h.dep j hj e
theorem tree_join {l : List Nat} {N : NS} {d : Nat → Nat} (h : Tree l N d) {a b : Nat} (ha : a < N.roots.length) (hb : b < N.roots.length) (ea : N.at a = a) (eb : N.at b = b) (hab : a ≠ b) :
    ∃ d', Tree (l.set b a) (joinN N a b) d' := by
  have hl := h.len
  rw [← hl] at ha hb
  have hal := (tree_at h ha).2 ea
  have hself : ∀ i, i < l.length → (joinN N a b).at i = if N.at i = b then a else N.at i := fun i hi => join_at N a b i (by omega)
  refine ⟨fun i => if N.at i = b then d i + d a + 1 else d i, ⟨by rw [List.length_set, join_len]; exact hl, fun j hj => ?_, fun j hj => ?_, fun j hj e => ?_, fun j hj => ?_, fun j hj e => ?_⟩⟩ <;> rw [List.length_set] at hj
  · rw [List.length_set, getD_set _ _ _ _ _ hb]
    split
    · exact ha
    · exact h.lt j hj
  · rw [getD_set _ _ _ _ _ hb]
    split
    · rename_i e; subst e
      rw [hself a ha, hself b hb, ea, eb, if_neg hab, if_pos rfl]
    · rw [hself _ (h.lt j hj), hself j hj, h.par j hj]
  · rw [getD_set _ _ _ _ _ hb] at e
    split at e
    · rename_i e2; exact absurd (e.trans e2.symm) hab
    · rename_i e2
      have h2 := h.self j hj e
      rw [hself j hj, h2, if_neg (fun e3 => e2 e3.symm)]
  · rw [hself j hj]
    split
    · rw [getD_set _ _ _ _ _ hb, if_neg (fun e => hab e.symm), hal]
    · rename_i e2
      rw [getD_set _ _ _ _ _ hb, if_neg (fun e => e2 e.symm)]
      exact h.root j hj
  · rw [getD_set _ _ _ _ _ hb] at e ⊢
    by_cases e2 : b = j
    · subst e2
      rw [if_pos rfl]
      simp only [ea, eb, if_neg hab, if_pos]
      omega
    · rw [if_neg e2] at e ⊢
      have h2 := h.dep j hj e
      simp only [h.par j hj]
      split <;> omega

/-- What Make, Join and Root answer, and what then is. -/
def canMake (N : NS) : Bool := decide (N.roots.length ≤ N.most)
def madeI (N : NS) : Int := if canMake N then N.roots.length else 0
def afterM (N : NS) : NS := if canMake N then makeN N else N
def joinB (N : NS) (a b : Int) : Bool := decide (a ≠ b) && (hasB N a && hasB N b)
def afterJ (N : NS) (a b : Int) : NS := if joinB N a b then joinN N a.toNat b.toNat else N
theorem afterM_fit {N : NS} (h : N.Fit) : (afterM N).Fit := by
  unfold afterM
  split
  · rename_i hc; exact make_fit h (by simpa [canMake] using hc)
  · exact h
theorem joinB_at {N : NS} {a b : Int} (h : joinB N a b = true) : ∃ i j : Nat, a = i ∧ b = j ∧ i ≠ j ∧ (1 ≤ i ∧ i < N.roots.length) ∧ (1 ≤ j ∧ j < N.roots.length) ∧ N.at i = i ∧ N.at j = j := by
  simp only [joinB, Bool.and_eq_true, decide_eq_true_eq] at h
  obtain ⟨h1, h2, h3⟩ := h
  obtain ⟨i, rfl, i1, i2, i3⟩ := has_at h2
  obtain ⟨j, rfl, j1, j2, j3⟩ := has_at h3
  exact ⟨i, j, rfl, rfl, by omega, ⟨i1, i2⟩, ⟨j1, j2⟩, i3, j3⟩
theorem afterJ_fit {N : NS} (h : N.Fit) (a b : Int) : (afterJ N a b).Fit := by
  unfold afterJ
  split
  · rename_i hc
    obtain ⟨i, j, rfl, rfl, hij, hi, hj, ei, ej⟩ := joinB_at hc
    exact (join_fit h hi hj ei ej hij).1
  · exact h
end Go.Proofs.YtmoolbmbdnkooaaGreat
