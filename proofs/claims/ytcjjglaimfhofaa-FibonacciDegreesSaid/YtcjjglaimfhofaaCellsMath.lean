/- Merged of NamesMath, CellsMath. -/
import GoSem.ClaimData
import Derived.Test.YtcjjglaimfhofaaNestMath
namespace Go.Proofs.Ytcjjglaimfhofaa

/-- How many may be made; as which each one counts (place 0 stands for no number); how many count as themselves. -/
structure NS where
  most : Nat
  roots : List Nat
  count : Nat
def NS.at (N : NS) (i : Nat) : Nat := N.roots.getD i 0
def madeB (N : NS) (s : Int) : Bool := decide (1 ≤ s ∧ s < N.roots.length)
def hasB (N : NS) (s : Int) : Bool := madeB N s && ((N.at s.toNat : Int) == s)
def rootI (N : NS) (s : Int) : Int := if madeB N s then N.at s.toNat else 0
def selfs (r : List Nat) : Nat := (List.range r.length).countP fun i => decide (1 ≤ i) && r.getD i 0 == i
structure NS.Fit (N : NS) : Prop where
  most : N.most ≤ 65536
  pos : 1 ≤ N.roots.length
  len : N.roots.length ≤ N.most + 1
  zero : N.at 0 = 0
  lt : ∀ i, i < N.roots.length → N.at i < N.roots.length
  idem : ∀ i, i < N.roots.length → N.at (N.at i) = N.at i
  one : ∀ i, 1 ≤ i → i < N.roots.length → 1 ≤ N.at i
  count : N.count = selfs N.roots

theorem getD_set {α : Type} (l : List α) (i j : Nat) (x d : α) (hi : i < l.length) : (l.set i x).getD j d = if i = j then x else l.getD j d := by
  simp only [List.getD_eq_getElem?_getD, List.getElem?_set]
  by_cases h : i = j
  · subst h; simp [hi]
  · simp [h]
theorem getD_snoc {α : Type} (l : List α) (j : Nat) (x d : α) : (l ++ [x]).getD j d = if j = l.length then x else l.getD j d := by
  simp only [List.getD_eq_getElem?_getD, List.getElem?_append]
  by_cases h : j < l.length
  · simp [h]; omega
  · by_cases h2 : j = l.length
    · subst h2; simp
    · have h3 : l.length < j := by omega
      simp only [h, if_false, h2]
      rw [List.getElem?_eq_none (by simp; omega), List.getElem?_eq_none (by omega)]
theorem getD_mapf {α β : Type} (f : α → β) (l : List α) (j : Nat) (d : α) (e : β) (h : j < l.length) : (l.map f).getD j e = f (l.getD j d) := by
  simp [List.getD_eq_getElem?_getD, h]

theorem selfs_snoc (r : List Nat) (h : 1 ≤ r.length) : selfs (r ++ [r.length]) = selfs r + 1 := by
  unfold selfs
  rw [List.length_append, List.length_singleton, List.range_succ, List.countP_append]
  congr 1
  · refine List.countP_congr fun i hi => ?_
    have hi' : i ≠ r.length := by have := List.mem_range.1 hi; omega
    rw [getD_snoc, if_neg hi']
  · simp [h]
theorem count_but (p : Nat → Bool) (b n : Nat) : (List.range n).countP p = (List.range n).countP (fun i => p i && i != b) + if b < n ∧ p b = true then 1 else 0 := by
  induction n with
  | zero => simp
  | succ n ih =>
    rw [List.range_succ, List.countP_append, List.countP_append, ih]
    simp only [List.countP_cons, List.countP_nil]
    by_cases hb : b = n
    · subst hb
      cases hp : p b <;> simp
    · have h1 : (b < n + 1) ↔ (b < n) := by omega
      have h2 : (n != b) = true := by simp; omega
      simp only [h1, h2, Bool.and_true]
      omega
theorem selfs_pos {r : List Nat} {i : Nat} (h1 : 1 ≤ i) (h2 : i < r.length) (h3 : r.getD i 0 = i) : 1 ≤ selfs r := by
  have : 0 < selfs r := List.countP_pos_iff.2 ⟨i, List.mem_range.2 h2, by rw [h3]; simp [h1]⟩
  omega
theorem selfs_le (r : List Nat) : selfs r ≤ r.length := by
  have := List.countP_le_length (p := fun i => decide (1 ≤ i) && r.getD i 0 == i) (l := List.range r.length)
  simpa [selfs] using this

def newN (most : Nat) : NS := ⟨most, [0], 0⟩
def makeN (N : NS) : NS := ⟨N.most, N.roots ++ [N.roots.length], N.count + 1⟩
def joinN (N : NS) (a b : Nat) : NS := ⟨N.most, N.roots.map fun r => if r = b then a else r, N.count - 1⟩
theorem new_fit {m : Nat} (h : m ≤ 65536) : (newN m).Fit := by
  refine ⟨h, by simp [newN], by simp [newN], rfl, fun i hi => ?_, fun i hi => ?_, fun i h1 hi => ?_, rfl⟩
  all_goals
    obtain rfl : i = 0 := by simp [newN] at hi; exact hi
    first
    | exact rfl
    | (exact absurd h1 (by omega))
    | (simp [newN, NS.at])
theorem NS.Fit.countLe {N : NS} (h : N.Fit) : N.count ≤ N.roots.length := by rw [h.count]; exact selfs_le _
theorem NS.Fit.lenLe {N : NS} (h : N.Fit) : N.roots.length ≤ 65537 := by have := h.most; have := h.len; omega
theorem make_at (N : NS) (i : Nat) : (makeN N).at i = if i = N.roots.length then N.roots.length else N.at i := getD_snoc _ _ _ _
theorem make_fit {N : NS} (h : N.Fit) (hl : N.roots.length ≤ N.most) : (makeN N).Fit := by
  have hp := h.pos
  have hln : (makeN N).roots.length = N.roots.length + 1 := by simp [makeN]
  refine ⟨h.most, by omega, by rw [hln]; simp [makeN]; omega, ?_, fun i hi => ?_, fun i hi => ?_, fun i h1 hi => ?_, ?_⟩
  · rw [make_at, if_neg (by omega)]; exact h.zero
  · rw [hln] at hi ⊢
    rw [make_at]
    split
    · omega
    · have := h.lt i (by omega); omega
  · rw [hln] at hi
    rw [make_at N i]
    split
    · rw [make_at, if_pos rfl]
    · have := h.lt i (by omega)
      rw [make_at, if_neg (by omega)]
      exact h.idem i (by omega)
  · rw [hln] at hi
    rw [make_at]
    split
    · omega
    · exact h.one i h1 (by omega)
  · show N.count + 1 = _
    rw [h.count]; exact (selfs_snoc _ hp).symm
theorem join_len (N : NS) (a b : Nat) : (joinN N a b).roots.length = N.roots.length := by simp [joinN]
theorem join_at (N : NS) (a b i : Nat) (hi : i < N.roots.length) : (joinN N a b).at i = if N.at i = b then a else N.at i := getD_mapf (fun r => if r = b then a else r) N.roots i 0 0 hi
theorem join_fit {N : NS} (h : N.Fit) {a b : Nat} (ha : 1 ≤ a ∧ a < N.roots.length) (hb : 1 ≤ b ∧ b < N.roots.length) (ea : N.at a = a) (eb : N.at b = b) (hab : a ≠ b) : (joinN N a b).Fit ∧ (joinN N a b).count + 1 = N.count := by
  have hself : ∀ i, i < N.roots.length → ((if N.at i = b then a else N.at i) = i ↔ N.at i = i ∧ i ≠ b) := fun i hi => by
    by_cases hib : N.at i = b
    · rw [if_pos hib]
      constructor
      · intro e; subst e; exact absurd (ea.symm.trans hib) hab
      · rintro ⟨e, hn⟩; exact absurd (e.symm.trans hib) hn
    · rw [if_neg hib]
      constructor
      · intro e; exact ⟨e, fun e2 => hib (e.trans e2)⟩
      · rintro ⟨e, _⟩; exact e
  have hc : selfs N.roots = selfs (joinN N a b).roots + 1 := by
    unfold selfs
    rw [join_len, count_but _ b]
    congr 1
    · refine List.countP_congr fun i hi => ?_
      have hi' := List.mem_range.1 hi
      have h1 := hself i hi'
      have h2 : (joinN N a b).roots.getD i 0 = _ := join_at N a b i hi'
      rw [h2]
      have h3 : N.roots.getD i 0 = N.at i := rfl
      rw [h3]
      simp only [Bool.and_eq_true, decide_eq_true_eq, beq_iff_eq, bne_iff_ne, ne_eq]
      rw [h1]
      constructor
      · rintro ⟨⟨x, y⟩, z⟩; exact ⟨x, y, z⟩
      · rintro ⟨x, y, z⟩; exact ⟨⟨x, y⟩, z⟩
    · have h3 : N.roots.getD b 0 = b := eb
      rw [if_pos ⟨hb.2, by rw [h3]; simp [hb.1]⟩]
  have hcc := h.count
  refine ⟨⟨h.most, by rw [join_len]; exact h.pos, by rw [join_len]; exact h.len, ?_, fun i hi => ?_, fun i hi => ?_, fun i h1 hi => ?_, ?_⟩, ?_⟩
  · rw [join_at _ _ _ _ (by have := h.pos; omega), h.zero, if_neg (by omega)]
  · rw [join_len] at hi ⊢
    rw [join_at _ _ _ _ hi]
    split
    · exact ha.2
    · exact h.lt i hi
  · rw [join_len] at hi
    rw [join_at _ _ _ i hi]
    split
    · rw [join_at _ _ _ _ ha.2, ea]; simp
    · rename_i hn
      rw [join_at _ _ _ _ (h.lt i hi), h.idem i hi, if_neg hn]
  · rw [join_len] at hi
    rw [join_at _ _ _ i hi]
    split
    · exact ha.1
    · exact h.one i h1 hi
  · show N.count - 1 = _; omega
  · show N.count - 1 + 1 = _; omega

theorem has_at {N : NS} {s : Int} (h : hasB N s = true) : ∃ i : Nat, s = i ∧ 1 ≤ i ∧ i < N.roots.length ∧ N.at i = i := by
  simp only [hasB, madeB, Bool.and_eq_true, decide_eq_true_eq, beq_iff_eq] at h
  obtain ⟨⟨h1, h2⟩, h3⟩ := h
  exact ⟨s.toNat, by omega, by omega, by omega, by omega⟩
theorem has_of {N : NS} {i : Nat} (h1 : 1 ≤ i) (h2 : i < N.roots.length) (h3 : N.at i = i) : hasB N i = true := by
  simp only [hasB, madeB, Int.toNat_natCast, Bool.and_eq_true, decide_eq_true_eq, beq_iff_eq]
  exact ⟨⟨by omega, by omega⟩, by rw [h3]⟩

/-- The forest in which roots are found: of each place one on the way to its root. d: how far it is from there at most. -/
structure Tree (l : List Nat) (N : NS) (d : Nat → Nat) : Prop where
  len : l.length = N.roots.length
  lt : ∀ i, i < l.length → l.getD i 0 < l.length
  par : ∀ i, i < l.length → N.at (l.getD i 0) = N.at i
  self : ∀ i, i < l.length → l.getD i 0 = i → N.at i = i
  root : ∀ i, i < l.length → l.getD (N.at i) 0 = N.at i
  dep : ∀ i, i < l.length → l.getD i 0 ≠ i → d (l.getD i 0) < d i
theorem tree_new (m : Nat) : Tree [0] (newN m) (fun _ => 0) := by
  refine ⟨rfl, fun i hi => ?_, fun i hi => ?_, fun i hi _ => ?_, fun i hi => ?_, fun i hi h => ?_⟩
  all_goals
    obtain rfl : i = 0 := by simp at hi; exact hi
    first
    | exact rfl
    | (exact absurd rfl h)
    | (simp)
theorem tree_at {l : List Nat} {N : NS} {d : Nat → Nat} (h : Tree l N d) {i : Nat} (hi : i < l.length) : l.getD i 0 = i ↔ N.at i = i :=
  ⟨fun e => h.self i hi e, fun e => by have := h.root i hi; rw [e] at this; exact this⟩
theorem tree_make {l : List Nat} {N : NS} {d : Nat → Nat} (h : Tree l N d) (hN : N.Fit) : Tree (l ++ [l.length]) (makeN N) d := by
  have hl := h.len
  have hln : (l ++ [l.length]).length = l.length + 1 := by simp
  refine ⟨by rw [hln]; simp [makeN, hl], fun i hi => ?_, fun i hi => ?_, fun i hi e => ?_, fun i hi => ?_, fun i hi e => ?_⟩ <;> rw [hln] at hi
  · rw [hln, getD_snoc]
    split
    · omega
    · have := h.lt i (by omega); omega
  · rw [getD_snoc]
    split
    · rename_i e; rw [e]
    · rename_i e
      have := h.lt i (by omega)
      rw [make_at, make_at, if_neg (by omega), if_neg (by omega)]
      exact h.par i (by omega)
  · rw [getD_snoc] at e
    rw [make_at]
    split
    · rename_i e2; exact e2.symm
    · rename_i e2
      rw [if_neg (by omega)] at e
      exact h.self i (by omega) e
  · rw [make_at]
    split
    · rw [getD_snoc, if_pos hl.symm, hl]
    · rename_i e2
      have := hN.lt i (by omega)
      rw [getD_snoc, if_neg (by omega)]
      exact h.root i (by omega)
  · rw [getD_snoc] at e ⊢
    split at e
    · rename_i e2; exact absurd e2.symm e
    · rename_i e2
      rw [if_neg e2]
      exact h.dep i (by omega) e
/-- A way gets shorter. -/
theorem tree_half {l : List Nat} {N : NS} {d : Nat → Nat} (h : Tree l N d) {i : Nat} (hi : i < l.length) (hne : l.getD i 0 ≠ i) : Tree (l.set i (l.getD (l.getD i 0) 0)) N d := by
  have h1 := h.lt i hi
  refine ⟨by rw [List.length_set]; exact h.len, fun j hj => ?_, fun j hj => ?_, fun j hj e => ?_, fun j hj => ?_, fun j hj e => ?_⟩ <;> rw [List.length_set] at hj
  · rw [List.length_set, getD_set _ _ _ _ _ hi]
    split
    · exact h.lt _ h1
    · exact h.lt j hj
  · rw [getD_set _ _ _ _ _ hi]
    split
    · rename_i e; subst e
      rw [h.par _ h1, h.par i hi]
    · exact h.par j hj
  · rw [getD_set _ _ _ _ _ hi] at e
    split at e
    · rename_i e2; subst e2
      exfalso
      by_cases e3 : l.getD (l.getD i 0) 0 = l.getD i 0
      · exact hne (e3.symm.trans e)
      · have h2 := h.dep _ h1 e3
        have h3 := h.dep i hi hne
        rw [e] at h2
        omega
    · exact h.self j hj e
  · have h2 := h.root j hj
    rw [getD_set _ _ _ _ _ hi, if_neg (fun e => hne (by rw [e]; exact h2))]
    exact h2
  · rw [getD_set _ _ _ _ _ hi] at e ⊢
    split at e
    · rename_i e2; subst e2
      rw [if_pos rfl]
      have h3 := h.dep i hi hne
      by_cases e3 : l.getD (l.getD i 0) 0 = l.getD i 0
      · rw [e3]; exact h3
      · have h2 := h.dep _ h1 e3; omega
    · rename_i e2
      rw [if_neg e2]
      exact h.dep j hj e
theorem tree_join {l : List Nat} {N : NS} {d : Nat → Nat} (h : Tree l N d) {a b : Nat} (ha : a < N.roots.length) (hb : b < N.roots.length) (ea : N.at a = a) (eb : N.at b = b) (hab : a ≠ b) :
    ∃ d', Tree (l.set b a) (joinN N a b) d' := by
  have hl := h.len
  rw [← hl] at ha hb
  have hal := (tree_at h ha).2 ea
  have hself : ∀ i, i < l.length → (joinN N a b).at i = if N.at i = b then a else N.at i := fun i hi => join_at N a b i (by omega)
  refine ⟨fun i => if N.at i = b then d i + d a + 1 else d i, ⟨by rw [List.length_set, join_len]; exact hl, fun j hj => ?_, fun j hj => ?_, fun j hj e => ?_, fun j hj => ?_, fun j hj e => ?_⟩⟩ <;> rw [List.length_set] at hj
  · rw [List.length_set, getD_set _ _ _ _ _ hb]
    split
    · exact ha
    · exact h.lt j hj
  · rw [getD_set _ _ _ _ _ hb]
    split
    · rename_i e; subst e
      rw [hself a ha, hself b hb, ea, eb, if_neg hab, if_pos rfl]
    · rw [hself _ (h.lt j hj), hself j hj, h.par j hj]
  · rw [getD_set _ _ _ _ _ hb] at e
    split at e
    · rename_i e2; exact absurd (e.trans e2.symm) hab
    · rename_i e2
      have h2 := h.self j hj e
      rw [hself j hj, h2, if_neg (fun e3 => e2 e3.symm)]
  · rw [hself j hj]
    split
    · rw [getD_set _ _ _ _ _ hb, if_neg (fun e => hab e.symm), hal]
    · rename_i e2
      rw [getD_set _ _ _ _ _ hb, if_neg (fun e => e2 e.symm)]
      exact h.root j hj
  · rw [getD_set _ _ _ _ _ hb] at e ⊢
    by_cases e2 : b = j
    · subst e2
      rw [if_pos rfl]
      simp only [ea, eb, if_neg hab, if_pos]
      omega
    · rw [if_neg e2] at e ⊢
      have h2 := h.dep j hj e
      simp only [h.par j hj]
      split <;> omega

/-- What Make, Join and Root answer, and what then is. -/
def canMake (N : NS) : Bool := decide (N.roots.length ≤ N.most)
def madeI (N : NS) : Int := if canMake N then N.roots.length else 0
def afterM (N : NS) : NS := if canMake N then makeN N else N
def joinB (N : NS) (a b : Int) : Bool := decide (a ≠ b) && (hasB N a && hasB N b)
def afterJ (N : NS) (a b : Int) : NS := if joinB N a b then joinN N a.toNat b.toNat else N
theorem afterM_fit {N : NS} (h : N.Fit) : (afterM N).Fit := by
  unfold afterM
  split
  · rename_i hc; exact make_fit h (by simpa [canMake] using hc)
  · exact h
theorem joinB_at {N : NS} {a b : Int} (h : joinB N a b = true) : ∃ i j : Nat, a = i ∧ b = j ∧ i ≠ j ∧ (1 ≤ i ∧ i < N.roots.length) ∧ (1 ≤ j ∧ j < N.roots.length) ∧ N.at i = i ∧ N.at j = j := by
  simp only [joinB, Bool.and_eq_true, decide_eq_true_eq] at h
  obtain ⟨h1, h2, h3⟩ := h
  obtain ⟨i, rfl, i1, i2, i3⟩ := has_at h2
  obtain ⟨j, rfl, j1, j2, j3⟩ := has_at h3
  exact ⟨i, j, rfl, rfl, by omega, ⟨i1, i2⟩, ⟨j1, j2⟩, i3, j3⟩
theorem afterJ_fit {N : NS} (h : N.Fit) (a b : Int) : (afterJ N a b).Fit := by
  unfold afterJ
  split
  · rename_i hc
    obtain ⟨i, j, rfl, rfl, hij, hi, hj, ei, ej⟩ := joinB_at hc
    exact (join_fit h hi hj ei ej hij).1
  · exact h
end Go.Proofs.Ytcjjglaimfhofaa

namespace Go.Proofs.Ytcjjglaimfhofaa

def absC (N : NS) (c : CellD) : CellD := ⟨N.at c.home, c.key, c.seq⟩
/-- The document's nest that is told. -/
def absW (N : NS) (raw : List CellD) : WS := ⟨(List.range N.roots.length).map (fun i : Nat => hasB N i), raw.map (absC N)⟩
structure RFit (N : NS) (raw : List CellD) : Prop where
  nfit : N.Fit
  most : N.most = 65536
  cap : raw.length ≤ 65536
  home : ∀ c ∈ raw, c.home < N.roots.length ∧ (c.home = 0 → c = .off)
def slotR (raw : List CellD) (x : Int) : Bool := decide (0 ≤ x ∧ x < raw.length)
def rawAt (raw : List CellD) (x : Int) : CellD := if slotR raw x then raw.getD x.toNat .off else .off
section
variable {N : NS} {raw : List CellD}
theorem abs_len : (absW N raw).cells.length = raw.length := by simp [absW]
theorem abs_heaps : (absW N raw).heaps.length = N.roots.length := by simp [absW]
theorem abs_slot (x : Int) : slotW (absW N raw) x = slotR raw x := by simp [slotW, slotR, abs_len]
theorem abs_has (h : Int) : hasW (absW N raw) h = hasB N h := by
  unfold hasW
  rw [abs_heaps]
  by_cases hh : 1 ≤ h ∧ h < N.roots.length
  · obtain ⟨i, rfl⟩ : ∃ i : Nat, h = i := ⟨h.toNat, by omega⟩
    have hi : i < N.roots.length := by omega
    rw [decide_eq_true hh]
    simp [absW, List.getD_eq_getElem?_getD, hi]
  · rw [decide_eq_false hh]
    simp [hasB, madeB, hh]
theorem abs_off (hF : RFit N raw) : absC N .off = .off := by simp [absC, CellD.off, hF.nfit.zero]
theorem raw_mem (i : Nat) (hi : i < raw.length) : raw.getD i .off ∈ raw := by simp [List.getD_eq_getElem?_getD, hi]
theorem abs_getD (i : Nat) (hi : i < raw.length) : (absW N raw).cells.getD i .off = absC N (raw.getD i .off) := getD_mapf (absC N) raw i .off .off hi
theorem abs_cell (hF : RFit N raw) (x : Int) : cellW (absW N raw) x = absC N (rawAt raw x) := by
  unfold cellW rawAt
  rw [abs_slot]
  cases hs : slotR raw x
  · simp [abs_off hF]
  · simp only [slotR, decide_eq_true_eq] at hs
    simp only [if_true]
    exact abs_getD _ (by omega)
theorem raw_home (hF : RFit N raw) (x : Int) : (rawAt raw x).home < N.roots.length ∧ ((rawAt raw x).home = 0 → rawAt raw x = .off) := by
  unfold rawAt
  split
  · rename_i hs
    simp only [slotR, decide_eq_true_eq] at hs
    exact hF.home _ (raw_mem _ (by omega))
  · exact ⟨by have := hF.nfit.pos; simp [CellD.off]; omega, fun _ => rfl⟩
theorem at_zero (hF : RFit N raw) {i : Nat} (hi : i < N.roots.length) : N.at i = 0 ↔ i = 0 := by
  constructor
  · intro h
    by_cases e : i = 0
    · exact e
    · have := hF.nfit.one i (by omega) hi; omega
  · rintro rfl; exact hF.nfit.zero
theorem abs_in (hF : RFit N raw) (x : Int) : inW (absW N raw) x = ((rawAt raw x).home != 0) := by
  unfold inW
  rw [abs_cell hF]
  have h1 := raw_home hF x
  have h2 := at_zero hF h1.1
  simp only [absC]
  by_cases e : (rawAt raw x).home = 0
  · simp [e, hF.nfit.zero]
  · have : N.at (rawAt raw x).home ≠ 0 := fun e2 => e (h2.1 e2)
    rw [bne_iff_ne.2 this, bne_iff_ne.2 e]
theorem abs_home (hF : RFit N raw) (x : Int) : rootI N ((rawAt raw x).home : Int) = (cellW (absW N raw) x).home ∧ madeB N ((rawAt raw x).home : Int) = inW (absW N raw) x := by
  have h1 := raw_home hF x
  rw [abs_in hF, abs_cell hF]
  by_cases e : (rawAt raw x).home = 0
  · have : madeB N 0 = false := by simp [madeB]
    simp [rootI, e, this, absC, hF.nfit.zero]
  · have : madeB N ((rawAt raw x).home : Int) = true := by simp [madeB]; omega
    simp [rootI, this, e, absC]
theorem abs_fit (hF : RFit N raw) : (absW N raw).Fit := by
  refine ⟨by rw [abs_heaps]; exact hF.nfit.pos, by rw [abs_heaps]; exact hF.nfit.lenLe, ?_, by rw [abs_len]; exact hF.cap, fun i hi => ?_, fun i hi h0 => ?_⟩
  · have := hF.nfit.pos
    have e : hasB N ((0 : Nat) : Int) = false := by simp [hasB, madeB]
    show ((List.range N.roots.length).map (fun i : Nat => hasB N i)).getD 0 false = false
    rw [List.getD_eq_getElem?_getD, List.getElem?_map, List.getElem?_range (by omega)]
    simpa using e
  · rw [abs_len] at hi
    rw [abs_getD i hi, abs_has]
    have h1 := hF.home _ (raw_mem i hi)
    by_cases e : (raw.getD i .off).home = 0
    · exact Or.inl (by show N.at (raw.getD i .off).home = 0; rw [e]; exact hF.nfit.zero)
    · refine Or.inr ?_
      exact has_of (hF.nfit.one _ (by omega) h1.1) (hF.nfit.lt _ h1.1) (hF.nfit.idem _ h1.1)
  · rw [abs_len] at hi
    rw [abs_getD i hi] at h0 ⊢
    have h1 := hF.home _ (raw_mem i hi)
    have e := (at_zero hF h1.1).1 h0
    rw [h1.2 e, abs_off hF]

/-! ### what each call turns -/
theorem abs_new {n : Nat} : absW (newN 65536) (List.replicate n .off) = newW n := by
  simp only [absW, newW, newN]
  congr 1
  simp [absC, CellD.off, NS.at]
theorem new_rfit {n : Nat} (h : n ≤ 65536) : RFit (newN 65536) (List.replicate n .off) :=
  ⟨new_fit (Nat.le_refl _), rfl, by simpa using h, fun c hc => by rw [List.eq_of_mem_replicate hc]; exact ⟨by decide, fun _ => rfl⟩⟩
theorem abs_canMake (hF : RFit N raw) : canMakeW (absW N raw) = canMake N := by simp [canMakeW, canMake, abs_heaps, hF.most]
theorem abs_made (hF : RFit N raw) : madeW (absW N raw) = madeI N := by simp only [madeW, madeI, abs_canMake hF, abs_heaps]
theorem make_has (N : NS) (hN : N.Fit) (i : Nat) : hasB (makeN N) i = if i = N.roots.length then true else hasB N i := by
  have hl : (makeN N).roots.length = N.roots.length + 1 := by simp [makeN]
  unfold hasB madeB
  rw [hl, Int.toNat_natCast, make_at]
  have := hN.pos
  by_cases e : i = N.roots.length
  · subst e
    simp
    omega
  · simp only [if_neg e]
    congr 2
    apply propext
    omega
theorem abs_make (hF : RFit N raw) : absW (afterM N) raw = makeW (absW N raw) ∧ RFit (afterM N) raw := by
  unfold afterM makeW
  rw [abs_canMake hF]
  cases hc : canMake N
  · exact ⟨rfl, hF⟩
  · simp only [if_true]
    have hlen : (makeN N).roots.length = N.roots.length + 1 := by simp [makeN]
    refine ⟨?_, make_fit hF.nfit (by simpa [canMake] using hc), hF.most, hF.cap, fun c h => ⟨by have := (hF.home c h).1; omega, (hF.home c h).2⟩⟩
    simp only [absW]
    congr 1
    · rw [hlen, List.range_succ, List.map_append]
      congr 1
      · refine List.map_congr_left fun i hi => ?_
        have := List.mem_range.1 hi
        rw [make_has N hF.nfit, if_neg (by omega)]
      · simp [make_has N hF.nfit]
    · refine List.map_congr_left fun c h => ?_
      have := (hF.home c h).1
      simp only [absC, make_at, if_neg (show c.home ≠ N.roots.length by omega)]
theorem abs_set (c : CellD) (x : Nat) : (⟨(absW N raw).heaps, (absW N raw).cells.set x (absC N c)⟩ : WS) = absW N (raw.set x c) := by simp [absW, List.map_set]
theorem set_rfit (hF : RFit N raw) (c : CellD) (x : Nat) (h : c.home < N.roots.length ∧ (c.home = 0 → c = .off)) : RFit N (raw.set x c) :=
  ⟨hF.nfit, hF.most, by rw [List.length_set]; exact hF.cap, fun d hd => by
    rcases List.mem_or_eq_of_mem_set hd with h1 | rfl
    · exact hF.home d h1
    · exact h⟩
theorem abs_put (hF : RFit N raw) {h x k s : Int} (hp : putB (absW N raw) h x = true) : ∃ i j : Nat, h = i ∧ x = j ∧ 1 ≤ i ∧ i < N.roots.length ∧ j < raw.length ∧ putW (absW N raw) h x k s = absW N (raw.set j ⟨i, k, s⟩) ∧ RFit N (raw.set j ⟨i, k, s⟩) ∧
    ∀ y : Int, (lenW (putW (absW N raw) h x k s) y : Int) = if y = i then (lenW (absW N raw) i : Int) + 1 else lenW (absW N raw) y := by
  have hp' := hp
  simp only [putB, Bool.and_eq_true, Bool.not_eq_true'] at hp
  obtain ⟨h1, h2, h3⟩ := hp
  rw [abs_has] at h1
  obtain ⟨i, rfl, i1, i2, i3⟩ := has_at h1
  obtain ⟨j, rfl, hj⟩ := slot_nat h2
  have hj' := hj
  rw [abs_len] at hj
  have e : absC N ⟨i, k, s⟩ = ⟨i, k, s⟩ := by simp [absC, i3]
  have e2 : putW (absW N raw) i j k s = absW N (raw.set j ⟨i, k, s⟩) := by
    rw [← abs_set, e]
    simp [putW, hp']
  refine ⟨i, j, rfl, rfl, i1, i2, hj, e2, set_rfit hF _ _ ⟨i2, fun e => by simp at e; omega⟩, fun y => ?_⟩
  have ho : ((absW N raw).cells.getD j .off).home = 0 := by simpa [inW, cell_nat _ j hj'] using h3
  have := len_put (W := absW N raw) (h := i) (x := j) (k := k) (s := s) i1 hj' ho y
  simpa [putW, hp'] using this
theorem abs_drop (hF : RFit N raw) {x : Int} (hp : inW (absW N raw) x = true) : ∃ j r : Nat, x = j ∧ j < raw.length ∧ 1 ≤ r ∧ r < N.roots.length ∧ r = (cellW (absW N raw) x).home ∧ dropW (absW N raw) x = absW N (raw.set j .off) ∧ RFit N (raw.set j .off) ∧
    ∀ y : Int, (lenW (dropW (absW N raw) x) y : Int) = if y = r then (lenW (absW N raw) r : Int) - 1 else lenW (absW N raw) y := by
  obtain ⟨j, rfl, hj, ho⟩ := in_nat hp
  have hj' := hj
  rw [abs_len] at hj
  have h1 := hF.home _ (raw_mem j hj)
  have e0 := abs_getD (N := N) (raw := raw) j hj
  have e2 : dropW (absW N raw) j = absW N (raw.set j .off) := by
    rw [← abs_set, abs_off hF]
    simp [dropW, hp]
  refine ⟨j, ((absW N raw).cells.getD j .off).home, rfl, hj, by omega, ?_, by rw [cell_nat _ j hj'], e2, set_rfit hF _ _ ⟨by have := hF.nfit.pos; simp [CellD.off]; omega, fun _ => rfl⟩, fun y => ?_⟩
  · rw [e0]; exact hF.nfit.lt _ h1.1
  · have := len_drop (W := absW N raw) (x := j) hj' ho y
    simpa [dropW, hp] using this
theorem abs_lower (hF : RFit N raw) {x k s : Int} (hp : lowerB (absW N raw) x k s = true) : ∃ j : Nat, x = j ∧ j < raw.length ∧ lowerW (absW N raw) x k s = absW N (raw.set j ⟨(raw.getD j .off).home, k, s⟩) ∧ RFit N (raw.set j ⟨(raw.getD j .off).home, k, s⟩) ∧
    ∀ y : Int, lenW (lowerW (absW N raw) x k s) y = lenW (absW N raw) y := by
  have hp' := hp
  simp only [lowerB, Bool.and_eq_true] at hp
  obtain ⟨j, rfl, hj, ho⟩ := in_nat hp.1
  have hj' := hj
  rw [abs_len] at hj
  have h1 := hF.home _ (raw_mem j hj)
  have e0 := abs_getD (N := N) (raw := raw) j hj
  rw [e0] at ho
  have hz := at_zero hF h1.1
  have e2 : lowerW (absW N raw) j k s = absW N (raw.set j ⟨(raw.getD j .off).home, k, s⟩) := by
    rw [← abs_set]
    simp only [lowerW, hp', if_true, cell_nat _ j hj', e0, absC, Int.toNat_natCast]
  refine ⟨j, rfl, hj, e2, set_rfit hF _ _ ⟨h1.1, fun e => absurd (hz.2 e) ho⟩, fun y => ?_⟩
  have := len_lower (W := absW N raw) (x := j) (k := k) (s := s) hj' y
  simpa [lowerW, hp', cell_nat _ j hj'] using this
theorem abs_joinB (a b : Int) : joinBW (absW N raw) a b = joinB N a b := by
  unfold joinBW joinB
  rw [abs_has, abs_has]
  cases hasB N a <;> cases hasB N b <;> simp
theorem join_has {a b : Nat} (_ha : 1 ≤ a ∧ a < N.roots.length) (ea : N.at a = a) (hab : a ≠ b) (i : Nat) : hasB (joinN N a b) i = if i = b then false else hasB N i := by
  unfold hasB madeB
  rw [join_len, Int.toNat_natCast]
  by_cases hi : 1 ≤ (i : Int) ∧ (i : Int) < N.roots.length
  · rw [decide_eq_true hi, join_at _ _ _ _ (by omega)]
    by_cases e : i = b
    · subst e
      rw [if_pos rfl]
      simp only [Bool.true_and, beq_eq_false_iff_ne, ne_eq]
      split
      · omega
      · rename_i h; omega
    · rw [if_neg e]
      simp only [Bool.true_and]
      by_cases e2 : N.at i = b
      · rw [if_pos e2, e2]
        have h1 : ((b : Int) == i) = false := by simp; omega
        have h2 : ((a : Int) == i) = false := by
          simp only [beq_eq_false_iff_ne, ne_eq]
          intro e3
          have e4 : a = i := by omega
          rw [← e4, ea] at e2
          exact hab e2
        rw [h1, h2]
      · rw [if_neg e2]
  · rw [decide_eq_false hi]
    simp
theorem abs_join (hF : RFit N raw) {a b : Int} (hp : joinB N a b = true) : ∃ i j : Nat, a = i ∧ b = j ∧ i ≠ j ∧ (1 ≤ i ∧ i < N.roots.length) ∧ (1 ≤ j ∧ j < N.roots.length) ∧ joinW (absW N raw) a b = absW (afterJ N a b) raw ∧ RFit (afterJ N a b) raw ∧
    ∀ y : Int, (lenW (joinW (absW N raw) a b) y : Int) = if y = i then (lenW (absW N raw) i : Int) + lenW (absW N raw) j else if y = j then 0 else lenW (absW N raw) y := by
  have hp' := (abs_joinB (raw := raw) a b).trans hp
  obtain ⟨i, j, rfl, rfl, hij, hi, hj, ei, ej⟩ := joinB_at hp
  have hf := join_fit hF.nfit hi hj ei ej hij
  have ea : afterJ N i j = joinN N i j := by simp [afterJ, hp]
  rw [ea]
  refine ⟨i, j, rfl, rfl, hij, hi, hj, ?_, ⟨hf.1, hF.most, hF.cap, fun c h => by rw [join_len]; exact hF.home c h⟩, fun y => ?_⟩
  · unfold joinW
    rw [if_pos hp']
    simp only [Int.toNat_natCast, absW]
    congr 1
    · rw [join_len]
      apply List.ext_getElem
      · simp
      · intro n h1 h2
        rw [List.getElem_set]
        simp only [List.getElem_map, List.getElem_range]
        rw [join_has hi ei hij]
        by_cases e : j = n
        · subst e; simp
        · rw [if_neg e, if_neg (fun e2 => e e2.symm)]
    · rw [List.map_map]
      refine List.map_congr_left fun c h => ?_
      have := (hF.home c h).1
      simp only [Function.comp, absC, join_at _ _ _ _ this]
      split <;> simp_all
  · have := len_join (W := absW N raw) hi.1 hj.1 hij ((absW N raw).heaps.set j false) y
    simpa [joinW, hp'] using this
end
end Go.Proofs.Ytcjjglaimfhofaa
