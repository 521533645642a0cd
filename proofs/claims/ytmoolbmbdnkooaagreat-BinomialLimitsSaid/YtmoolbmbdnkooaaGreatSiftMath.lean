/- Merged of SiftHeap, SiftMath. -/
import GoSem.ClaimData
namespace Go.Proofs.YtmoolbmbdnkooaaGreat

def rat (l : List Int) (i : Nat) : Int := l.getD i 0
def par (d i : Nat) : Nat := (i - 1) / d
def swapL (l : List Int) (i j : Nat) : List Int := (l.set i (rat l j)).set j (rat l i)
theorem rat_set (l : List Int) (i j : Nat) (x : Int) (hi : i < l.length) : rat (l.set i x) j = if i = j then x else rat l j := by
  simp only [rat, List.getD_eq_getElem?_getD, List.getElem?_set]
  by_cases h : i = j
  · subst h; simp [hi]
  · simp [h]
theorem swap_len (l : List Int) (i j : Nat) : (swapL l i j).length = l.length := by simp [swapL]
theorem rat_swap {l : List Int} {i j : Nat} (hi : i < l.length) (hj : j < l.length) (k : Nat) : rat (swapL l i j) k = if k = j then rat l i else if k = i then rat l j else rat l k := by
  unfold swapL
  rw [rat_set _ _ _ _ (by simpa using hj), rat_set _ _ _ _ hi]
  by_cases e : k = j
  · rw [if_pos e, if_pos e.symm]
  · rw [if_neg e, if_neg (fun x => e x.symm)]
    by_cases e2 : k = i
    · rw [if_pos e2, if_pos e2.symm]
    · rw [if_neg e2, if_neg (fun x => e2 x.symm)]
theorem swap_self (l : List Int) (i : Nat) : swapL l i i = l := by
  unfold swapL
  rw [List.set_set]
  apply List.ext_getElem?
  intro k
  rw [List.getElem?_set]
  by_cases e : i = k
  · subst e
    by_cases h : i < l.length
    · simp [rat, List.getD_eq_getElem?_getD, h]
    · simp [h]
  · simp [e]
theorem par_lt {d i : Nat} (_hd : 1 ≤ d) (hi : 0 < i) : par d i < i := by
  unfold par
  have := Nat.div_le_self (i - 1) d
  omega
theorem par_eq {d : Nat} (hd : 1 ≤ d) {k i : Nat} (hk : 0 < k) : par d k = i ↔ d * i + 1 ≤ k ∧ k ≤ d * i + d := by
  unfold par
  constructor
  · intro e
    have h1 := Nat.div_mul_le_self (k - 1) d
    have h2 := Nat.lt_div_mul_add (a := k - 1) (b := d) (by omega)
    rw [e, Nat.mul_comm] at h1 h2
    omega
  · rintro ⟨h1, h2⟩
    have : k - 1 = d * i + (k - 1 - d * i) := by omega
    rw [this, Nat.mul_add_div (by omega), Nat.div_eq_of_lt (by omega)]
    omega

section
variable {d : Nat} {lt : Int → Int → Bool}
/-- A strict order of the things of a row. -/
structure Strict (lt : Int → Int → Bool) (l : List Int) : Prop where
  irr : ∀ i, i < l.length → lt (rat l i) (rat l i) = false
  trans : ∀ i j k, i < l.length → j < l.length → k < l.length → lt (rat l i) (rat l j) = true → lt (rat l j) (rat l k) = true → lt (rat l i) (rat l k) = true
  total : ∀ i j, i < l.length → j < l.length → i ≠ j → lt (rat l i) (rat l j) = false → lt (rat l j) (rat l i) = true
/-- No thing is ahead of that above it. -/
def Heap (d : Nat) (lt : Int → Int → Bool) (l : List Int) : Prop := ∀ i, 0 < i → i < l.length → lt (rat l i) (rat l (par d i)) = false
theorem heap_nil : Heap d lt [] := fun i _ h => by simp at h
theorem Strict.asymm {l : List Int} (s : Strict lt l) {i j : Nat} (hi : i < l.length) (hj : j < l.length) (h : lt (rat l i) (rat l j) = true) : lt (rat l j) (rat l i) = false := by
  cases e : lt (rat l j) (rat l i)
  · rfl
  · have h1 := s.trans i j i hi hj hi h e
    rw [s.irr i hi] at h1
    cases h1
/-- Not ahead of one that is ahead, or the same, of another one. -/
theorem Strict.le_trans {l : List Int} (s : Strict lt l) {i j k : Nat} (hi : i < l.length) (hj : j < l.length) (hk : k < l.length) (h1 : lt (rat l i) (rat l j) = false) (h2 : lt (rat l j) (rat l k) = false) : lt (rat l i) (rat l k) = false := by
  by_cases e : j = k
  · subst e; exact h1
  · have h3 := s.total j k hj hk e h2
    cases e2 : lt (rat l i) (rat l k)
    · rfl
    · by_cases e3 : i = j
      · subst e3; rw [h2] at e2; cases e2
      · have h4 := s.total i j hi hj e3 h1
        have h5 := s.asymm hk hj h3
        have h6 := s.trans j i k hj hi hk h4 e2
        rw [h2] at h6
        cases h6
theorem swap_strict {l : List Int} {i j : Nat} (hi : i < l.length) (hj : j < l.length) (s : Strict lt l) : Strict lt (swapL l i j) := by
  -- a place's thing is the thing of another place
  let f : Nat → Nat := fun k => if k = j then i else if k = i then j else k
  have hf : ∀ k, rat (swapL l i j) k = rat l (f k) := fun k => by
    rw [rat_swap hi hj]
    simp only [f]
    split
    · rfl
    · split <;> rfl
  have hl : ∀ k, k < l.length → f k < l.length := fun k hk => by
    simp only [f]
    split
    · exact hi
    · split
      · exact hj
      · exact hk
  have hn : ∀ k m, k ≠ m → f k ≠ f m := fun k m hkm => by
    simp only [f]
    repeat' split
    all_goals omega
  refine ⟨fun k hk => ?_, fun a b c ha hb hc h1 h2 => ?_, fun a b ha hb hab h => ?_⟩
  · rw [swap_len] at hk; rw [hf]; exact s.irr _ (hl k hk)
  · rw [swap_len] at ha hb hc; rw [hf, hf] at *; exact s.trans _ _ _ (hl a ha) (hl b hb) (hl c hc) h1 h2
  · rw [swap_len] at ha hb; rw [hf, hf] at *; exact s.total _ _ (hl a ha) (hl b hb) (hn a b hab) h

/-- All is in order, but j may be ahead of that above it. -/
structure UpInv (d : Nat) (lt : Int → Int → Bool) (l : List Int) (j : Nat) : Prop where
  jlt : j < l.length
  rest : ∀ i, 0 < i → i < l.length → i ≠ j → lt (rat l i) (rat l (par d i)) = false
  over : 0 < j → ∀ i, 0 < i → i < l.length → par d i = j → lt (rat l i) (rat l (par d j)) = false
theorem up_stop {l : List Int} {j : Nat} (U : UpInv d lt l j) (h : j = 0 ∨ lt (rat l j) (rat l (par d j)) = false) : Heap d lt l := by
  intro i h0 hi
  by_cases e : i = j
  · subst e
    rcases h with h | h
    · omega
    · exact h
  · exact U.rest i h0 hi e
theorem up_step {l : List Int} {j : Nat} (hd : 1 ≤ d) (s : Strict lt l) (U : UpInv d lt l j) (hj : 0 < j) (h : lt (rat l j) (rat l (par d j)) = true) : UpInv d lt (swapL l j (par d j)) (par d j) := by
  have hp := par_lt hd hj
  have hpl : par d j < l.length := Nat.lt_trans hp U.jlt
  have hr := fun k => rat_swap U.jlt hpl k
  refine ⟨by rw [swap_len]; exact hpl, fun i h0 hi hne => ?_, fun hp0 i h0 hi hpi => ?_⟩
  · rw [swap_len] at hi
    have hpi := par_lt hd h0
    have hpil : par d i < l.length := Nat.lt_trans hpi hi
    rw [hr i, hr (par d i), if_neg hne]
    by_cases e1 : i = j
    · subst e1
      rw [if_pos rfl, if_pos rfl]
      exact s.asymm U.jlt hpl h
    · rw [if_neg e1]
      have hb := U.rest i h0 hi e1
      by_cases e2 : par d i = par d j
      · rw [if_pos e2]
        rw [e2] at hb
        exact s.le_trans hi hpl U.jlt hb (s.asymm U.jlt hpl h)
      · rw [if_neg e2]
        by_cases e3 : par d i = j
        · rw [if_pos e3]
          exact U.over hj i h0 hi e3
        · rw [if_neg e3]; exact hb
  · rw [swap_len] at hi
    have hpp := par_lt hd hp0
    have hppl : par d (par d j) < l.length := Nat.lt_trans hpp hpl
    have hq := U.rest (par d j) hp0 hpl (by omega)
    rw [hr i, hr (par d (par d j)), if_neg (by omega : ¬ par d (par d j) = par d j), if_neg (by omega : ¬ par d (par d j) = j)]
    have hne : i ≠ par d j := by
      intro e
      have h9 := par_lt hd h0
      omega
    rw [if_neg hne]
    by_cases e1 : i = j
    · subst e1; rw [if_pos rfl]; exact hq
    · rw [if_neg e1]
      have hb := U.rest i h0 hi e1
      rw [hpi] at hb
      exact s.le_trans hi hpl hppl hb hq

/-- All is in order, but some below i may be ahead of it. -/
structure DownInv (d : Nat) (lt : Int → Int → Bool) (l : List Int) (i : Nat) : Prop where
  rest : ∀ k, 0 < k → k < l.length → par d k ≠ i → lt (rat l k) (rat l (par d k)) = false
  over : 0 < i → ∀ k, 0 < k → k < l.length → par d k = i → lt (rat l k) (rat l (par d i)) = false
theorem down_stop {l : List Int} {i : Nat} (D : DownInv d lt l i) (h : ∀ k, 0 < k → k < l.length → par d k = i → lt (rat l k) (rat l i) = false) : Heap d lt l := by
  intro k h0 hk
  by_cases e : par d k = i
  · rw [e]; exact h k h0 hk e
  · exact D.rest k h0 hk e
theorem down_step {l : List Int} {i c : Nat} (hd : 1 ≤ d) (s : Strict lt l) (D : DownInv d lt l i) (hc0 : 0 < c) (hc : c < l.length) (hci : par d c = i) (h : lt (rat l c) (rat l i) = true) (hmin : ∀ k, 0 < k → k < l.length → par d k = i → lt (rat l k) (rat l c) = false) : DownInv d lt (swapL l i c) c := by
  have hic := par_lt hd hc0
  rw [hci] at hic
  have hil : i < l.length := Nat.lt_trans hic hc
  have hr := fun k => rat_swap hil hc k
  refine ⟨fun k h0 hk hne => ?_, fun _ k h0 hk hpk => ?_⟩
  · rw [swap_len] at hk
    rw [hr k, hr (par d k), if_neg hne]
    have hpk := par_lt hd h0
    by_cases e1 : k = c
    · subst e1
      rw [if_pos rfl, if_pos hci]
      exact s.asymm hc hil h
    · rw [if_neg e1]
      by_cases e2 : k = i
      · subst e2
        rw [if_pos rfl, if_neg (by omega)]
        exact D.over h0 c hc0 hc hci
      · rw [if_neg e2]
        by_cases e3 : par d k = i
        · rw [if_pos e3]
          exact hmin k h0 hk e3
        · rw [if_neg e3]
          exact D.rest k h0 hk e3
  · rw [swap_len] at hk
    have hkc := par_lt hd h0
    rw [hpk] at hkc
    have hb := D.rest k h0 hk (by omega)
    rw [hpk] at hb
    rw [hr k, hci, hr i, if_neg (by omega), if_neg (by omega), if_neg (by omega), if_pos rfl]
    exact hb
/-- The topmost one is ahead of none, and none of it. -/
theorem heap_top {l : List Int} (hd : 1 ≤ d) (s : Strict lt l) (H : Heap d lt l) : ∀ i, i < l.length → lt (rat l i) (rat l 0) = false := by
  intro i
  induction i using Nat.strongRecOn with
  | ind i ih =>
    intro hi
    by_cases h0 : i = 0
    · subst h0; exact s.irr 0 hi
    · have hp := par_lt hd (Nat.pos_of_ne_zero h0)
      exact s.le_trans hi (Nat.lt_trans hp hi) (by omega) (H i (Nat.pos_of_ne_zero h0) hi) (ih _ hp (Nat.lt_trans hp hi))
/-- One more, at the end. -/
theorem heap_push {l : List Int} (hd : 1 ≤ d) (H : Heap d lt l) (x : Int) : UpInv d lt (l ++ [x]) l.length := by
  have hr : ∀ k, k < l.length → rat (l ++ [x]) k = rat l k := fun k hk => by
    simp [rat, List.getD_eq_getElem?_getD, List.getElem?_append_left hk]
  refine ⟨by simp, fun i h0 hi hne => ?_, fun h0 i hi0 hi hp => ?_⟩
  · simp only [List.length_append, List.length_singleton] at hi
    have hp := par_lt hd h0
    rw [hr i (by omega), hr _ (by omega)]
    exact H i h0 (by omega)
  · simp only [List.length_append, List.length_singleton] at hi
    have := par_lt hd hi0
    omega
/-- The last one is left out. -/
theorem heap_pop {l : List Int} (hd : 1 ≤ d) (H : Heap d lt l) (n : Nat) : Heap d lt (l.take n) := by
  intro i h0 hi
  have hp := par_lt hd h0
  simp only [List.length_take] at hi
  have hr : ∀ k, k < n → rat (l.take n) k = rat l k := fun k hk => by
    simp [rat, List.getD_eq_getElem?_getD, hk]
  rw [hr i (by omega), hr _ (by omega)]
  exact H i h0 (by omega)
end

/-! ### how many exchanges -/
/-- How many are above a place. -/
def depthN (d : Nat) : Nat → Nat → Nat
  | 0, _ => 0
  | f + 1, i => if i = 0 then 0 else depthN d f (par d i) + 1
theorem depth_fuel {d : Nat} (hd : 1 ≤ d) : ∀ (f g i : Nat), i ≤ f → i ≤ g → depthN d f i = depthN d g i
  | 0, g, i, hi, _ => by
    obtain rfl : i = 0 := by omega
    cases g <;> rfl
  | f + 1, 0, i, _, hi => by
    obtain rfl : i = 0 := by omega
    rfl
  | f + 1, g + 1, i, h1, h2 => by
    unfold depthN
    by_cases e : i = 0
    · rw [if_pos e, if_pos e]
    · have := par_lt hd (Nat.pos_of_ne_zero e)
      rw [if_neg e, if_neg e, depth_fuel hd f g (par d i) (by omega) (by omega)]
def depthI (d i : Nat) : Nat := depthN d i i
theorem depth_zero (d : Nat) : depthI d 0 = 0 := rfl
theorem depth_par {d : Nat} (hd : 1 ≤ d) {i : Nat} (hi : 0 < i) : depthI d i = depthI d (par d i) + 1 := by
  obtain ⟨j, rfl⟩ : ∃ j, i = j + 1 := ⟨i - 1, by omega⟩
  have := par_lt hd hi
  unfold depthI
  rw [depthN, if_neg (by omega), depth_fuel hd j (par d (j + 1)) _ (by omega) (Nat.le_refl _)]
theorem depth_mono {d : Nat} (hd : 1 ≤ d) : ∀ (j i : Nat), i ≤ j → depthI d i ≤ depthI d j := by
  intro j
  induction j using Nat.strongRecOn with
  | ind j ih =>
    intro i hij
    by_cases h0 : i = 0
    · subst h0; exact Nat.zero_le _
    · have hp := par_lt hd (i := j) (by omega)
      rw [depth_par hd (i := i) (by omega), depth_par hd (i := j) (by omega)]
      have : par d i ≤ par d j := Nat.div_le_div_right (by omega)
      have := ih (par d j) hp (par d i) this
      omega
/-- With two below each: so many levels hold so many places. -/
theorem depth2_le : ∀ (b i : Nat), i + 1 < 2 ^ (b + 1) → depthI 2 i ≤ b
  | 0, i, h => by
    obtain rfl : i = 0 := by simp at h; omega
    exact Nat.le_refl _
  | b + 1, i, h => by
    by_cases h0 : i = 0
    · subst h0; exact Nat.zero_le _
    · rw [depth_par (by omega) (Nat.pos_of_ne_zero h0)]
      have : 2 ^ (b + 1 + 1) = 2 * 2 ^ (b + 1) := by rw [Nat.pow_succ]; omega
      have := depth2_le b (par 2 i) (by unfold par; omega)
      omega
/-- An exchange moves nothing in or out. -/
theorem swap_perm {l : List Int} {i j : Nat} (hi : i < l.length) (hj : j < l.length) : (swapL l i j).Perm l := by
  have hc : ∀ x, (swapL l i j).count x = l.count x := fun x => by
    by_cases e : i = j
    · subst e; rw [swap_self]
    · have cs : ∀ (m : List Int) (k : Nat) (y : Int), k < m.length → (m.set k y).count x + (if m.getD k 0 = x then 1 else 0) = m.count x + (if y = x then 1 else 0) := by
        intro m
        induction m with
        | nil => intro k y hk; simp at hk
        | cons a r ih =>
          intro k y hk
          cases k with
          | zero => simp only [List.set_cons_zero, List.count_cons, List.getD_cons_zero, beq_iff_eq]; omega
          | succ k =>
            have := ih k y (by simpa using hk)
            simp only [List.set_cons_succ, List.count_cons, List.getD_cons_succ]
            omega
      have h1 := cs l i (rat l j) hi
      have h2 := cs (l.set i (rat l j)) j (rat l i) (by simpa using hj)
      have h3 : (l.set i (rat l j)).getD j 0 = rat l j := by
        have := rat_set l i j (rat l j) hi
        rw [if_neg e] at this
        exact this
      rw [h3] at h2
      have h4 : l.getD i 0 = rat l i := rfl
      rw [h4] at h1
      unfold swapL
      omega
  exact List.perm_iff_count.2 hc
end Go.Proofs.YtmoolbmbdnkooaaGreat

namespace Go.Proofs.YtmoolbmbdnkooaaGreat

/-- Has x the lesser key, or as great a one, and the lesser number? -/
def ltK (ks : Int → Int) (x y : Int) : Bool := decide (ks x < ks y) || (ks x == ks y && decide (x < y))
theorem ltK_iff {ks : Int → Int} {x y : Int} : ltK ks x y = true ↔ ks x < ks y ∨ ks x = ks y ∧ x < y := by simp [ltK]
theorem ltK_not {ks : Int → Int} {x y : Int} : ltK ks x y = false ↔ ¬ (ks x < ks y ∨ ks x = ks y ∧ x < y) := by
  rw [← ltK_iff]; simp
theorem rat_get {l : List Int} {i : Nat} (h : i < l.length) : l[i]? = some (rat l i) := by
  simp [rat, List.getD_eq_getElem?_getD, h]
theorem rat_mem {l : List Int} {i : Nat} (h : i < l.length) : rat l i ∈ l := List.mem_of_getElem? (rat_get h)
theorem mem_rat {l : List Int} {x : Int} (h : x ∈ l) : ∃ i, i < l.length ∧ rat l i = x := by
  obtain ⟨i, hi, e⟩ := List.getElem_of_mem h
  exact ⟨i, hi, by rw [← e]; simp [rat, List.getD_eq_getElem?_getD, hi]⟩
theorem rat_inj {l : List Int} (hn : l.Nodup) {i j : Nat} (hi : i < l.length) (hj : j < l.length) (e : rat l i = rat l j) : i = j := by
  have h1 := rat_get hi
  have h2 := rat_get hj
  rw [e, ← h2] at h1
  exact (List.getElem?_inj hi hn).1 h1
theorem strict_keys {l : List Int} (ks : Int → Int) (hn : l.Nodup) : Strict (ltK ks) l := by
  refine ⟨fun i _ => ltK_not.2 (by omega), fun i j k _ _ _ h1 h2 => ?_, fun i j hi hj hij h => ?_⟩
  · rw [ltK_iff] at *; omega
  · have h3 : rat l i ≠ rat l j := fun e => hij (rat_inj hn hi hj e)
    rw [ltK_not] at h; rw [ltK_iff]; omega
theorem ltK_irr (ks : Int → Int) (x : Int) : ltK ks x x = false := ltK_not.2 (by omega)
theorem ltK_total {ks : Int → Int} {x y : Int} (h : x ≠ y) (e : ltK ks x y = false) : ltK ks y x = true := by
  rw [ltK_not] at e; rw [ltK_iff]; omega
/-- The things of a row, by an order that no two of them are alike in, are unlike. -/
theorem strict_nodup {lt : Int → Int → Bool} {l : List Int} (s : Strict lt l) {i j : Nat} (hi : i < l.length) (hj : j < l.length) (hij : i ≠ j) : rat l i ≠ rat l j := by
  intro e
  have h1 := s.irr i hi
  have h2 : lt (rat l i) (rat l j) = false := by rw [← e]; exact h1
  have h3 := s.total i j hi hj hij h2
  rw [← e, h1] at h3
  cases h3
section
variable {d : Nat} {lt lt' : Int → Int → Bool} {l l' : List Int}
/-- What is left of a row, in whatever order, is in a strict order, too. -/
theorem strict_sub (s : Strict lt l) (f : Nat → Nat) (hf : ∀ k, k < l'.length → f k < l.length ∧ rat l' k = rat l (f k)) (hi : ∀ j k, j < l'.length → k < l'.length → j ≠ k → f j ≠ f k) : Strict lt l' := by
  refine ⟨fun i h => ?_, fun i j k h1 h2 h3 a b => ?_, fun i j h1 h2 hne h => ?_⟩
  · rw [(hf i h).2]; exact s.irr _ (hf i h).1
  · rw [(hf i h1).2, (hf j h2).2, (hf k h3).2] at *; exact s.trans _ _ _ (hf i h1).1 (hf j h2).1 (hf k h3).1 a b
  · rw [(hf i h1).2, (hf j h2).2] at *; exact s.total _ _ (hf i h1).1 (hf j h2).1 (hi i j h1 h2 hne) h
/-- The last one is put into the hole at i. -/
def fillL (l : List Int) (i : Nat) : List Int := (l.take (l.length - 1)).set i (rat l (l.length - 1))
theorem fill_len (l : List Int) (i : Nat) : (fillL l i).length = l.length - 1 := by simp [fillL]
theorem rat_take {n k : Nat} (h : k < n) : rat (l.take n) k = rat l k := by
  simp [rat, List.getD_eq_getElem?_getD, h]
theorem rat_fill {i k : Nat} (hi : i < l.length - 1) (hk : k < l.length - 1) : rat (fillL l i) k = if i = k then rat l (l.length - 1) else rat l k := by
  unfold fillL
  rw [rat_set _ _ _ _ (by simp; omega), rat_take hk]
theorem fill_strict {i : Nat} (hi : i < l.length - 1) (s : Strict lt l) : Strict lt (fillL l i) := by
  refine strict_sub s (fun k => if i = k then l.length - 1 else k) (fun k hk => ?_) (fun j k hj hk hne => ?_)
  · rw [fill_len] at hk
    rw [rat_fill hi hk]
    split
    · exact ⟨by omega, rfl⟩
    · exact ⟨by omega, rfl⟩
  · rw [fill_len] at hj hk
    repeat' split
    all_goals omega
/-- What fills the hole is ahead of that above it: it may go up. -/
theorem fill_up {i : Nat} (hd : 1 ≤ d) (s : Strict lt l) (H : Heap d lt l) (hi : i < l.length - 1) (h0 : 0 < i) (h : lt (rat l (l.length - 1)) (rat l (par d i)) = true) : UpInv d lt (fillL l i) i := by
  have hp := par_lt hd h0
  refine ⟨by rw [fill_len]; exact hi, fun k hk0 hk hne => ?_, fun _ k hk0 hk hpk => ?_⟩
  · rw [fill_len] at hk
    have hpk := par_lt hd hk0
    rw [rat_fill hi hk, rat_fill hi (by omega), if_neg (fun e => hne e.symm)]
    have hb := H k hk0 (by omega)
    by_cases e : i = par d k
    · rw [if_pos e]
      rw [← e] at hb
      have h1 := s.le_trans (i := k) (j := i) (k := par d i) (by omega) (by omega) (by omega) hb (H i h0 (by omega))
      have h2 := s.asymm (i := l.length - 1) (j := par d i) (by omega) (by omega) h
      exact s.le_trans (i := k) (j := par d i) (k := l.length - 1) (by omega) (by omega) (by omega) h1 h2
    · rw [if_neg e]; exact hb
  · rw [fill_len] at hk
    have hpk' := par_lt hd hk0
    rw [rat_fill hi hk, rat_fill hi (by omega), if_neg (by omega), if_neg (by omega)]
    have hb := H k hk0 (by omega)
    rw [hpk] at hb
    exact s.le_trans (i := k) (j := i) (k := par d i) (by omega) (by omega) (by omega) hb (H i h0 (by omega))
/-- It isn't: it may go down. -/
theorem fill_down {i : Nat} (hd : 1 ≤ d) (s : Strict lt l) (H : Heap d lt l) (hi : i < l.length - 1) (h : 0 < i → lt (rat l (l.length - 1)) (rat l (par d i)) = false) : DownInv d lt (fillL l i) i := by
  refine ⟨fun k hk0 hk hne => ?_, fun h0 k hk0 hk hpk => ?_⟩
  · rw [fill_len] at hk
    have hpk := par_lt hd hk0
    rw [rat_fill hi hk, rat_fill hi (by omega), if_neg (fun e : i = par d k => hne e.symm)]
    by_cases e : i = k
    · subst e; rw [if_pos rfl]; exact h hk0
    · rw [if_neg e]; exact H k hk0 (by omega)
  · rw [fill_len] at hk
    have hpk' := par_lt hd hk0
    have hp := par_lt hd h0
    rw [rat_fill hi hk, rat_fill hi (by omega), if_neg (by omega), if_neg (by omega)]
    have hb := H k hk0 (by omega)
    rw [hpk] at hb
    exact s.le_trans (i := k) (j := i) (k := par d i) (by omega) (by omega) (by omega) hb (H i h0 (by omega))
/-- One has come to be ahead of more: it may go up. -/
theorem raise_up {i : Nat} (hd : 1 ≤ d) (s : Strict lt l) (s' : Strict lt' l) (H : Heap d lt l) (hi : i < l.length)
    (same : ∀ a b, a ≠ rat l i → b ≠ rat l i → lt' a b = lt a b) (more : ∀ b, b ≠ rat l i → lt (rat l i) b = true → lt' (rat l i) b = true) : UpInv d lt' l i := by
  refine ⟨hi, fun k hk0 hk hne => ?_, fun h0 k hk0 hk hpk => ?_⟩
  · have hb := H k hk0 hk
    have hpk := par_lt hd hk0
    have hki := strict_nodup s hk hi hne
    by_cases e : par d k = i
    · rw [e] at hb ⊢
      exact s'.asymm hi hk (more _ hki (s.total k i hk hi hne hb))
    · rw [same _ _ hki (strict_nodup s (by omega) hi e)]; exact hb
  · have hp := par_lt hd h0
    have hpk' := par_lt hd hk0
    have hb := H k hk0 hk
    rw [hpk] at hb
    rw [same _ _ (strict_nodup s hk hi (by omega)) (strict_nodup s (by omega) hi (by omega))]
    exact s.le_trans (i := k) (j := i) (k := par d i) (by omega) (by omega) (by omega) hb (H i h0 (by omega))
end
/-- A key that isn't greater. -/
theorem lower_same {ks ks' : Int → Int} {x : Int} (h : ∀ y, y ≠ x → ks' y = ks y) (a b : Int) (ha : a ≠ x) (hb : b ≠ x) : ltK ks' a b = ltK ks a b := by
  unfold ltK; rw [h a ha, h b hb]
theorem lower_more {ks ks' : Int → Int} {x : Int} (h : ∀ y, y ≠ x → ks' y = ks y) (hx : ks' x ≤ ks x) (b : Int) (hb : b ≠ x) (e : ltK ks x b = true) : ltK ks' x b = true := by
  rw [ltK_iff] at *; rw [h b hb]; omega

/-! ### the document's numbers -/
def rightD (d : Int) : Bool := decide (2 ≤ d) && decide (d ≤ 16)
def parD (d i : Int) : Int × Bool := if rightD d = true ∧ 1 ≤ i then ((i - 1) / d, true) else (0, false)
def childD (d i k : Int) : Int × Bool := if rightD d = true ∧ 0 ≤ i ∧ i ≤ 1099511627776 ∧ 1 ≤ k ∧ k ≤ d then (i * d + k, true) else (0, false)
def depthD (d n : Int) : Int := if rightD d = true ∧ 2 ≤ n ∧ n ≤ 1099511627776 then depthI d.toNat (n - 1).toNat else 0
theorem rightD_iff {d : Int} : rightD d = true ↔ 2 ≤ d ∧ d ≤ 16 := by simp [rightD]
theorem parD_nat {d i : Nat} (hd : 2 ≤ d) (hd2 : d ≤ 16) (hi : 0 < i) : parD d i = (((par d i : Nat) : Int), true) := by
  have : rightD (d : Int) = true := rightD_iff.2 (by omega)
  rw [parD, if_pos ⟨this, by omega⟩]
  unfold par
  rw [Int.natCast_ediv, show ((i - 1 : Nat) : Int) = (i : Int) - 1 by omega]
theorem depthD_nat {d n : Nat} (hd : 2 ≤ d) (hd2 : d ≤ 16) (hn : n ≤ 1099511627776) : depthD d n = (depthI d (n - 1) : Nat) := by
  have : rightD (d : Int) = true := rightD_iff.2 (by omega)
  unfold depthD
  by_cases h : 2 ≤ n
  · rw [if_pos ⟨this, by omega, by omega⟩]
    congr 2 <;> omega
  · rw [if_neg (by omega), show n - 1 = 0 by omega, depth_zero]; rfl
/-- So deep is a place at most. -/
theorem depth_log {d : Nat} (hd : 2 ≤ d) : ∀ (b i : Nat), i + 1 < 2 ^ (b + 1) → depthI d i ≤ b
  | 0, i, h => by
    obtain rfl : i = 0 := by simp at h; omega
    exact Nat.le_refl _
  | b + 1, i, h => by
    by_cases h0 : i = 0
    · subst h0; exact Nat.zero_le _
    · rw [depth_par (by omega) (Nat.pos_of_ne_zero h0)]
      have h1 : 2 ^ (b + 1 + 1) = 2 * 2 ^ (b + 1) := by rw [Nat.pow_succ]; omega
      have h2 : par d i ≤ (i - 1) / 2 := Nat.div_le_div_left hd (by omega)
      have := depth_log hd b (par d i) (by omega)
      omega
/-- Below a place all is deeper by one. -/
theorem depth_child {d i k : Nat} (hd : 1 ≤ d) (hk : 1 ≤ k) (hk2 : k ≤ d) : depthI d (i * d + k) = depthI d i + 1 := by
  have h0 : 0 < i * d + k := by omega
  rw [depth_par hd h0, (par_eq (i := i) hd h0).2 (by rw [Nat.mul_comm d i]; omega)]

/-! ### what is there -/
def hasL (l : List Int) (x : Int) : Bool := l.contains x
def withoutL (l : List Int) (x : Int) : List Int := l.filter fun y => x != y
theorem hasL_iff {l : List Int} {x : Int} : hasL l x = true ↔ x ∈ l := by simp [hasL]
theorem hasL_not {l : List Int} {x : Int} : hasL l x = false ↔ x ∉ l := by rw [← hasL_iff]; simp
theorem fill_perm {l : List Int} {i : Nat} (hi : i < l.length) : (rat l i :: fillL l i).Perm l := by
  have hc : ∀ x, (rat l i :: fillL l i).count x = l.count x := fun x => by
    have cs : ∀ (m : List Int) (k : Nat) (y : Int), k < m.length → (m.set k y).count x + (if m.getD k 0 = x then 1 else 0) = m.count x + (if y = x then 1 else 0) := by
      intro m
      induction m with
      | nil => intro k y hk; simp at hk
      | cons a r ih =>
        intro k y hk
        cases k with
        | zero => simp only [List.set_cons_zero, List.count_cons, List.getD_cons_zero, beq_iff_eq]; omega
        | succ k =>
          have := ih k y (by simpa using hk)
          simp only [List.set_cons_succ, List.count_cons, List.getD_cons_succ]
          omega
    have hl : l = l.take (l.length - 1) ++ [rat l (l.length - 1)] := by
      have h1 : l.length - 1 < l.length := by omega
      have h2 := List.take_append_drop (l.length - 1) l
      have h3 : l.drop (l.length - 1) = [rat l (l.length - 1)] := by
        rw [List.drop_eq_getElem_cons h1, List.drop_eq_nil_of_le (by omega)]
        simp [rat, List.getD_eq_getElem?_getD, h1]
      rw [h3] at h2; exact h2.symm
    have hcl : l.count x = (l.take (l.length - 1)).count x + (if rat l (l.length - 1) = x then 1 else 0) := by
      conv => lhs; rw [hl]
      simp only [List.count_append, List.count_cons, List.count_nil, beq_iff_eq]
      omega
    by_cases h : i < l.length - 1
    · have h1 := cs (l.take (l.length - 1)) i (rat l (l.length - 1)) (by simp; omega)
      have h4 : (l.take (l.length - 1)).getD i 0 = rat l i := rat_take h
      rw [h4] at h1
      simp only [List.count_cons, fillL, beq_iff_eq]
      omega
    · have e : i = l.length - 1 := by omega
      have e2 : fillL l i = l.take (l.length - 1) := by
        unfold fillL
        exact List.set_eq_of_length_le (by simp; omega)
      simp only [List.count_cons, e2, beq_iff_eq]
      rw [hcl, e]
  exact List.perm_iff_count.2 hc
end Go.Proofs.YtmoolbmbdnkooaaGreat
