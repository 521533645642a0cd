/- Merged of SiftMath, SiftRunsMath, NestMath. -/
import Derived.Test.YtcjjglaimfhofaaSiftHeap
import GoSem.ClaimData
namespace Go.Proofs.Ytcjjglaimfhofaa

/-- Has x the lesser key, or as great a one, and the lesser number? -/
def ltK (ks : Int → Int) (x y : Int) : Bool := decide (ks x < ks y) || (ks x == ks y && decide (x < y))
theorem ltK_iff {ks : Int → Int} {x y : Int} : ltK ks x y = true ↔ ks x < ks y ∨ ks x = ks y ∧ x < y := by simp [ltK]
theorem ltK_not {ks : Int → Int} {x y : Int} : ltK ks x y = false ↔ ¬ (ks x < ks y ∨ ks x = ks y ∧ x < y) := by
  rw [← ltK_iff]; simp
theorem rat_get {l : List Int} {i : Nat} (h : i < l.length) : l[i]? = some (rat l i) := by
  simp [rat, List.getD_eq_getElem?_getD, h]
theorem rat_mem {l : List Int} {i : Nat} (h : i < l.length) : rat l i ∈ l := List.mem_of_getElem? (rat_get h)
theorem mem_rat {l : List Int} {x : Int} (h : x ∈ l) : ∃ i, i < l.length ∧ rat l i = x := by
  obtain ⟨i, hi, e⟩ := List.getElem_of_mem h
  exact ⟨i, hi, by rw [← e]; simp [rat, List.getD_eq_getElem?_getD, hi]⟩
theorem rat_inj {l : List Int} (hn : l.Nodup) {i j : Nat} (hi : i < l.length) (hj : j < l.length) (e : rat l i = rat l j) : i = j := by
  have h1 := rat_get hi
  have h2 := rat_get hj
  rw [e, ← h2] at h1
  exact (List.getElem?_inj hi hn).1 h1
theorem strict_keys {l : List Int} (ks : Int → Int) (hn : l.Nodup) : Strict (ltK ks) l := by
  refine ⟨fun i _ => ltK_not.2 (by omega), fun i j k _ _ _ h1 h2 => ?_, fun i j hi hj hij h => ?_⟩
  · rw [ltK_iff] at *; omega
  · have h3 : rat l i ≠ rat l j := fun e => hij (rat_inj hn hi hj e)
    rw [ltK_not] at h; rw [ltK_iff]; omega
theorem ltK_irr (ks : Int → Int) (x : Int) : ltK ks x x = false := ltK_not.2 (by omega)
theorem ltK_total {ks : Int → Int} {x y : Int} (h : x ≠ y) (e : ltK ks x y = false) : ltK ks y x = true := by
  rw [ltK_not] at e; rw [ltK_iff]; omega
/-- The things of a row, by an order that no two of them are alike in, are unlike. -/
theorem strict_nodup {lt : Int → Int → Bool} {l : List Int} (s : Strict lt l) {i j : Nat} (hi : i < l.length) (hj : j < l.length) (hij : i ≠ j) : rat l i ≠ rat l j := by
  intro e
  have h1 := s.irr i hi
  have h2 : lt (rat l i) (rat l j) = false := by rw [← e]; exact h1
  have h3 := s.total i j hi hj hij h2
  rw [← e, h1] at h3
  cases h3
section
variable {d : Nat} {lt lt' : Int → Int → Bool} {l l' : List Int}
/-- What is left of a row, in whatever order, is in a strict order, too. -/
theorem strict_sub (s : Strict lt l) (f : Nat → Nat) (hf : ∀ k, k < l'.length → f k < l.length ∧ rat l' k = rat l (f k)) (hi : ∀ j k, j < l'.length → k < l'.length → j ≠ k → f j ≠ f k) : Strict lt l' := by
  refine ⟨fun i h => ?_, fun i j k h1 h2 h3 a b => ?_, fun i j h1 h2 hne h => ?_⟩
  · rw [(hf i h).2]; exact s.irr _ (hf i h).1
  · rw [(hf i h1).2, (hf j h2).2, (hf k h3).2] at *; exact s.trans _ _ _ (hf i h1).1 (hf j h2).1 (hf k h3).1 a b
  · rw [(hf i h1).2, (hf j h2).2] at *; exact s.total _ _ (hf i h1).1 (hf j h2).1 (hi i j h1 h2 hne) h
/-- The last one is put into the hole at i. -/
def fillL (l : List Int) (i : Nat) : List Int := (l.take (l.length - 1)).set i (rat l (l.length - 1))
theorem fill_len (l : List Int) (i : Nat) : (fillL l i).length = l.length - 1 := by simp [fillL]
theorem rat_take {n k : Nat} (h : k < n) : rat (l.take n) k = rat l k := by
  simp [rat, List.getD_eq_getElem?_getD, h]
theorem rat_fill {i k : Nat} (hi : i < l.length - 1) (hk : k < l.length - 1) : rat (fillL l i) k = if i = k then rat l (l.length - 1) else rat l k := by
  unfold fillL
  rw [rat_set _ _ _ _ (by simp; omega), rat_take hk]
theorem fill_strict {i : Nat} (hi : i < l.length - 1) (s : Strict lt l) : Strict lt (fillL l i) := by
  refine strict_sub s (fun k => if i = k then l.length - 1 else k) (fun k hk => ?_) (fun j k hj hk hne => ?_)
  · rw [fill_len] at hk
    rw [rat_fill hi hk]
    split
    · exact ⟨by omega, rfl⟩
    · exact ⟨by omega, rfl⟩
  · rw [fill_len] at hj hk
    repeat' split
    all_goals omega
/-- What fills the hole is ahead of that above it: it may go up. -/
theorem fill_up {i : Nat} (hd : 1 ≤ d) (s : Strict lt l) (H : Heap d lt l) (hi : i < l.length - 1) (h0 : 0 < i) (h : lt (rat l (l.length - 1)) (rat l (par d i)) = true) : UpInv d lt (fillL l i) i := by
  have hp := par_lt hd h0
  refine ⟨by rw [fill_len]; exact hi, fun k hk0 hk hne => ?_, fun _ k hk0 hk hpk => ?_⟩
  · rw [fill_len] at hk
    have hpk := par_lt hd hk0
    rw [rat_fill hi hk, rat_fill hi (by omega), if_neg (fun e => hne e.symm)]
    have hb := H k hk0 (by omega)
    by_cases e : i = par d k
    · rw [if_pos e]
      rw [← e] at hb
      have h1 := s.le_trans (i := k) (j := i) (k := par d i) (by omega) (by omega) (by omega) hb (H i h0 (by omega))
      have h2 := s.asymm (i := l.length - 1) (j := par d i) (by omega) (by omega) h
      exact s.le_trans (i := k) (j := par d i) (k := l.length - 1) (by omega) (by omega) (by omega) h1 h2
    · rw [if_neg e]; exact hb
  · rw [fill_len] at hk
    have hpk' := par_lt hd hk0
    rw [rat_fill hi hk, rat_fill hi (by omega), if_neg (by omega), if_neg (by omega)]
    have hb := H k hk0 (by omega)
    rw [hpk] at hb
    exact s.le_trans (i := k) (j := i) (k := par d i) (by omega) (by omega) (by omega) hb (H i h0 (by omega))
/-- It isn't: it may go down. -/
theorem fill_down {i : Nat} (hd : 1 ≤ d) (s : Strict lt l) (H : Heap d lt l) (hi : i < l.length - 1) (h : 0 < i → lt (rat l (l.length - 1)) (rat l (par d i)) = false) : DownInv d lt (fillL l i) i := by
  refine ⟨fun k hk0 hk hne => ?_, fun h0 k hk0 hk hpk => ?_⟩
  · rw [fill_len] at hk
    have hpk := par_lt hd hk0
    rw [rat_fill hi hk, rat_fill hi (by omega), if_neg (fun e : i = par d k => hne e.symm)]
    by_cases e : i = k
    · subst e; rw [if_pos rfl]; exact h hk0
    · rw [if_neg e]; exact H k hk0 (by omega)
  · rw [fill_len] at hk
    have hpk' := par_lt hd hk0
    have hp := par_lt hd h0
    rw [rat_fill hi hk, rat_fill hi (by omega), if_neg (by omega), if_neg (by omega)]
    have hb := H k hk0 (by omega)
    rw [hpk] at hb
    exact s.le_trans (i := k) (j := i) (k := par d i) (by omega) (by omega) (by omega) hb (H i h0 (by omega))
/-- One has come to be ahead of more: it may go up. -/
theorem raise_up {i : Nat} (hd : 1 ≤ d) (s : Strict lt l) (s' : Strict lt' l) (H : Heap d lt l) (hi : i < l.length)
    (same : ∀ a b, a ≠ rat l i → b ≠ rat l i → lt' a b = lt a b) (more : ∀ b, b ≠ rat l i → lt (rat l i) b = true → lt' (rat l i) b = true) : UpInv d lt' l i := by
  refine ⟨hi, fun k hk0 hk hne => ?_, fun h0 k hk0 hk hpk => ?_⟩
  · have hb := H k hk0 hk
    have hpk := par_lt hd hk0
    have hki := strict_nodup s hk hi hne
    by_cases e : par d k = i
    · rw [e] at hb ⊢
      exact s'.asymm hi hk (more _ hki (s.total k i hk hi hne hb))
    · rw [same _ _ hki (strict_nodup s (by omega) hi e)]; exact hb
  · have hp := par_lt hd h0
    have hpk' := par_lt hd hk0
    have hb := H k hk0 hk
    rw [hpk] at hb
    rw [same _ _ (strict_nodup s hk hi (by omega)) (strict_nodup s (by omega) hi (by omega))]
    exact s.le_trans (i := k) (j := i) (k := par d i) (by omega) (by omega) (by omega) hb (H i h0 (by omega))
end
/-- A key that isn't greater. -/
theorem lower_same {ks ks' : Int → Int} {x : Int} (h : ∀ y, y ≠ x → ks' y = ks y) (a b : Int) (ha : a ≠ x) (hb : b ≠ x) : ltK ks' a b = ltK ks a b := by
  unfold ltK; rw [h a ha, h b hb]
theorem lower_more {ks ks' : Int → Int} {x : Int} (h : ∀ y, y ≠ x → ks' y = ks y) (hx : ks' x ≤ ks x) (b : Int) (hb : b ≠ x) (e : ltK ks x b = true) : ltK ks' x b = true := by
  rw [ltK_iff] at *; rw [h b hb]; omega

/-! ### the document's numbers -/
def rightD (d : Int) : Bool := decide (2 ≤ d) && decide (d ≤ 16)
def parD (d i : Int) : Int × Bool := if rightD d = true ∧ 1 ≤ i then ((i - 1) / d, true) else (0, false)
def childD (d i k : Int) : Int × Bool := if rightD d = true ∧ 0 ≤ i ∧ i ≤ 1099511627776 ∧ 1 ≤ k ∧ k ≤ d then (i * d + k, true) else (0, false)
def depthD (d n : Int) : Int := if rightD d = true ∧ 2 ≤ n ∧ n ≤ 1099511627776 then depthI d.toNat (n - 1).toNat else 0
theorem rightD_iff {d : Int} : rightD d = true ↔ 2 ≤ d ∧ d ≤ 16 := by simp [rightD]
theorem parD_nat {d i : Nat} (hd : 2 ≤ d) (hd2 : d ≤ 16) (hi : 0 < i) : parD d i = (((par d i : Nat) : Int), true) := by
  have : rightD (d : Int) = true := rightD_iff.2 (by omega)
  rw [parD, if_pos ⟨this, by omega⟩]
  unfold par
  rw [Int.natCast_ediv, show ((i - 1 : Nat) : Int) = (i : Int) - 1 by omega]
theorem depthD_nat {d n : Nat} (hd : 2 ≤ d) (hd2 : d ≤ 16) (hn : n ≤ 1099511627776) : depthD d n = (depthI d (n - 1) : Nat) := by
  have : rightD (d : Int) = true := rightD_iff.2 (by omega)
  unfold depthD
  by_cases h : 2 ≤ n
  · rw [if_pos ⟨this, by omega, by omega⟩]
    congr 2 <;> omega
  · rw [if_neg (by omega), show n - 1 = 0 by omega, depth_zero]; rfl
/-- So deep is a place at most. -/
theorem depth_log {d : Nat} (hd : 2 ≤ d) : ∀ (b i : Nat), i + 1 < 2 ^ (b + 1) → depthI d i ≤ b
  | 0, i, h => by
    obtain rfl : i = 0 := by simp at h; omega
    exact Nat.le_refl _
  | b + 1, i, h => by
    by_cases h0 : i = 0
    · subst h0; exact Nat.zero_le _
    · rw [depth_par (by omega) (Nat.pos_of_ne_zero h0)]
      have h1 : 2 ^ (b + 1 + 1) = 2 * 2 ^ (b + 1) := by rw [Nat.pow_succ]; omega
      have h2 : par d i ≤ (i - 1) / 2 := Nat.div_le_div_left hd (by omega)
      have := depth_log hd b (par d i) (by omega)
      omega
/-- Below a place all is deeper by one. -/
theorem depth_child {d i k : Nat} (hd : 1 ≤ d) (hk : 1 ≤ k) (hk2 : k ≤ d) : depthI d (i * d + k) = depthI d i + 1 := by
  have h0 : 0 < i * d + k := by omega
  rw [depth_par hd h0, (par_eq (i := i) hd h0).2 (by rw [Nat.mul_comm d i]; omega)]

/-! ### what is there -/
def hasL (l : List Int) (x : Int) : Bool := l.contains x
def withoutL (l : List Int) (x : Int) : List Int := l.filter fun y => x != y
theorem hasL_iff {l : List Int} {x : Int} : hasL l x = true ↔ x ∈ l := by simp [hasL]
theorem hasL_not {l : List Int} {x : Int} : hasL l x = false ↔ x ∉ l := by rw [← hasL_iff]; simp
theorem fill_perm {l : List Int} {i : Nat} (hi : i < l.length) : (rat l i :: fillL l i).Perm l := by
  have hc : ∀ x, (rat l i :: fillL l i).count x = l.count x := fun x => by
    have cs : ∀ (m : List Int) (k : Nat) (y : Int), k < m.length → (m.set k y).count x + (if m.getD k 0 = x then 1 else 0) = m.count x + (if y = x then 1 else 0) := by
      intro m
      induction m with
      | nil => intro k y hk; simp at hk
      | cons a r ih =>
        intro k y hk
        cases k with
        | zero => simp only [List.set_cons_zero, List.count_cons, List.getD_cons_zero, beq_iff_eq]; omega
        | succ k =>
          have := ih k y (by simpa using hk)
          simp only [List.set_cons_succ, List.count_cons, List.getD_cons_succ]
          omega
    have hl : l = l.take (l.length - 1) ++ [rat l (l.length - 1)] := by
      have h1 : l.length - 1 < l.length := by omega
      have h2 := List.take_append_drop (l.length - 1) l
      have h3 : l.drop (l.length - 1) = [rat l (l.length - 1)] := by
        rw [List.drop_eq_getElem_cons h1, List.drop_eq_nil_of_le (by omega)]
        simp [rat, List.getD_eq_getElem?_getD, h1]
      rw [h3] at h2; exact h2.symm
    have hcl : l.count x = (l.take (l.length - 1)).count x + (if rat l (l.length - 1) = x then 1 else 0) := by
      conv => lhs; rw [hl]
      simp only [List.count_append, List.count_cons, List.count_nil, beq_iff_eq]
      omega
    by_cases h : i < l.length - 1
    · have h1 := cs (l.take (l.length - 1)) i (rat l (l.length - 1)) (by simp; omega)
      have h4 : (l.take (l.length - 1)).getD i 0 = rat l i := rat_take h
      rw [h4] at h1
      simp only [List.count_cons, fillL, beq_iff_eq]
      omega
    · have e : i = l.length - 1 := by omega
      have e2 : fillL l i = l.take (l.length - 1) := by
        unfold fillL
        exact List.set_eq_of_length_le (by simp; omega)
      simp only [List.count_cons, e2, beq_iff_eq]
      rw [hcl, e]
  exact List.perm_iff_count.2 hc
end Go.Proofs.Ytcjjglaimfhofaa

namespace Go.Proofs.Ytcjjglaimfhofaa

theorem heap_congr {d : Nat} {lt lt' : Int → Int → Bool} {l : List Int} (hd : 1 ≤ d) (h : ∀ a ∈ l, ∀ b ∈ l, lt' a b = lt a b) (H : Heap d lt l) : Heap d lt' l := by
  intro i h0 hi
  have hp := par_lt hd h0
  rw [h _ (rat_mem hi) _ (rat_mem (Nat.lt_trans hp hi))]
  exact H i h0 hi
theorem strict_congr {lt lt' : Int → Int → Bool} {l : List Int} (h : ∀ a ∈ l, ∀ b ∈ l, lt' a b = lt a b) (s : Strict lt l) : Strict lt' l := by
  refine ⟨fun i hi => ?_, fun i j k hi hj hk h1 h2 => ?_, fun i j hi hj hne h1 => ?_⟩
  · rw [h _ (rat_mem hi) _ (rat_mem hi)]; exact s.irr i hi
  · rw [h _ (rat_mem hi) _ (rat_mem hj)] at h1
    rw [h _ (rat_mem hj) _ (rat_mem hk)] at h2
    rw [h _ (rat_mem hi) _ (rat_mem hk)]; exact s.trans i j k hi hj hk h1 h2
  · rw [h _ (rat_mem hi) _ (rat_mem hj)] at h1
    rw [h _ (rat_mem hj) _ (rat_mem hi)]; exact s.total i j hi hj hne h1
/-- The order is the same among others. -/
theorem ltK_else {ks ks' : Int → Int} {x : Int} (h : ∀ y, y ≠ x → ks' y = ks y) {l : List Int} (hx : x ∉ l) : ∀ a ∈ l, ∀ b ∈ l, ltK ks' a b = ltK ks a b := fun a ha b hb =>
  lower_same h a b (fun e => hx (e ▸ ha)) (fun e => hx (e ▸ hb))
theorem without_perm {l m : List Int} {x : Int} (hn : l.Nodup) (h : (x :: m).Perm l) : m.Perm (withoutL l x) := by
  have hx : x ∈ l := h.mem_iff.1 (by simp)
  have h1 : (withoutL l x) = l.erase x := by
    rw [hn.erase_eq_filter]
    unfold withoutL
    apply List.filter_congr
    intro y _
    by_cases e : x = y
    · subst e; simp
    · have e2 : y ≠ x := fun h => e h.symm
      rw [show (x != y) = true from bne_iff_ne.2 e, show (y != x) = true from bne_iff_ne.2 e2]
  rw [h1]
  exact (h.trans (List.perm_cons_erase hx)).cons_inv
theorem without_nodup {l : List Int} {x : Int} (hn : l.Nodup) : (withoutL l x).Nodup := hn.filter _
theorem mem_without {l : List Int} {x y : Int} : y ∈ withoutL l x ↔ y ∈ l ∧ y ≠ x := by
  simp only [withoutL, List.mem_filter, bne_iff_ne, ne_eq]
  exact ⟨fun ⟨h1, h2⟩ => ⟨h1, fun e => h2 e.symm⟩, fun ⟨h1, h2⟩ => ⟨h1, fun e => h2 e.symm⟩⟩
theorem has_perm {l m : List Int} (h : l.Perm m) (x : Int) : hasL l x = hasL m x := by
  cases e : hasL m x
  · rw [hasL_not] at e ⊢; exact fun hx => e (h.mem_iff.1 hx)
  · rw [hasL_iff] at e ⊢; exact h.mem_iff.2 e
theorem has_add (l : List Int) (x : Int) : hasL (l ++ [x]) x = true := by rw [hasL_iff]; simp
theorem has_without (l : List Int) (x : Int) : hasL (withoutL l x) x = false := by rw [hasL_not, mem_without]; simp
theorem nodup_add {l : List Int} {x : Int} (hn : l.Nodup) (hx : hasL l x = false) : (l ++ [x]).Nodup := by
  rw [hasL_not] at hx
  rw [List.nodup_append]
  refine ⟨hn, by simp, fun a ha b hb e => hx ?_⟩
  simp only [List.mem_singleton] at hb
  subst hb; subst e; exact ha
theorem fill_nodup {l : List Int} {i : Nat} (hn : l.Nodup) (hi : i < l.length) : (fillL l i).Nodup := by
  have h := (fill_perm hi).nodup_iff.2 hn
  exact (List.nodup_cons.1 h).2
/-- Where a thing is in a row, if it is there. -/
def placeL (l : List Int) (x : Int) : Option Int := if x ∈ l then some ((l.idxOf x : Nat) : Int) else none
theorem place_rat {l : List Int} (hn : l.Nodup) {i : Nat} (hi : i < l.length) : placeL l (rat l i) = some ((i : Nat) : Int) := by
  have hm := rat_mem hi
  rw [placeL, if_pos hm]
  have h1 : l.idxOf (rat l i) < l.length := List.idxOf_lt_length_of_mem hm
  have h2 : rat l (l.idxOf (rat l i)) = rat l i := by
    have e := rat_get h1
    rw [List.getElem?_eq_getElem h1, List.getElem_idxOf h1] at e
    injection e with e
    exact e.symm
  rw [rat_inj hn h1 hi h2]
theorem place_none {l : List Int} {x : Int} (h : x ∉ l) : placeL l x = none := by rw [placeL, if_neg h]
theorem place_some {l : List Int} (hn : l.Nodup) {x : Int} (h : x ∈ l) : ∃ i, i < l.length ∧ rat l i = x ∧ placeL l x = some ((i : Nat) : Int) := by
  obtain ⟨i, hi, rfl⟩ := mem_rat h
  exact ⟨i, hi, rfl, place_rat hn hi⟩
theorem place_isSome (l : List Int) (x : Int) : (placeL l x).isSome = hasL l x := by
  unfold placeL
  by_cases h : x ∈ l
  · rw [if_pos h, hasL_iff.2 h]; rfl
  · rw [if_neg h, hasL_not.2 h]; rfl
/-- Places are told by what stands where. -/
theorem place_ext {l : List Int} (hn : l.Nodup) {f : Int → Option Int} (h1 : ∀ i, i < l.length → f (rat l i) = some ((i : Nat) : Int)) (h2 : ∀ x, x ∉ l → f x = none) : f = placeL l := by
  funext x
  by_cases hx : x ∈ l
  · obtain ⟨i, hi, rfl, e⟩ := place_some hn hx
    rw [h1 i hi, e]
  · rw [h2 x hx, place_none hx]
/-- The row behind the loop that takes the first one again and again: each is ahead of the next one. -/
theorem top_least {d : Nat} {ks : Int → Int} {l : List Int} (hd : 1 ≤ d) (hn : l.Nodup) (H : Heap d (ltK ks) l) {y : Int} (hy : y ∈ l) (hne : y ≠ rat l 0) : ltK ks (rat l 0) y = true := by
  obtain ⟨i, hi, rfl⟩ := mem_rat hy
  exact ltK_total hne (heap_top hd (strict_keys ks hn) H i hi)
end Go.Proofs.Ytcjjglaimfhofaa

namespace Go.Proofs.Ytcjjglaimfhofaa

/-- Goes the one entry ahead of the other? -/
def lessB (k1 s1 k2 s2 : Int) : Bool := decide (k1 < k2) || (k1 == k2 && decide (s1 < s2))
theorem lessB_same (k s1 s2 : Int) : lessB k s1 k s2 = decide (s1 < s2) := by simp [lessB]
theorem lessB_other {k1 k2 : Int} (h : ¬ k1 = k2) (s1 s2 : Int) : lessB k1 s1 k2 s2 = decide (k1 < k2) := by simp [lessB, h]
theorem lessB_self (k s : Int) : lessB k s k s = false := by simp [lessB]

/-- A slot: in which heap it is (0: in none), and its entry. -/
structure CellD where
  home : Nat
  key : Int
  seq : Int
def CellD.off : CellD := ⟨0, 0, 0⟩
/-- Which heaps there are (place 0 is nobody's), and the slots. -/
structure WS where
  heaps : List Bool
  cells : List CellD
def hasW (W : WS) (h : Int) : Bool := decide (1 ≤ h ∧ h < W.heaps.length) && W.heaps.getD h.toNat false
def slotW (W : WS) (x : Int) : Bool := decide (0 ≤ x ∧ x < W.cells.length)
def cellW (W : WS) (x : Int) : CellD := if slotW W x then W.cells.getD x.toNat .off else .off
def inW (W : WS) (x : Int) : Bool := (cellW W x).home != 0
def lenW (W : WS) (h : Int) : Nat := if 0 < h then W.cells.countP (fun c => (c.home : Int) == h) else 0
/-- Is one entry, with its slot, ahead of another one? -/
def aheadC (c d : CellD) (a b : Int) : Bool := lessB c.key c.seq d.key d.seq || ((c.key == d.key && c.seq == d.seq) && decide (a < b))
def aheadW (W : WS) (a b : Int) : Bool := (inW W a && inW W b) && aheadC (cellW W a) (cellW W b) a b

def newW (n : Nat) : WS := ⟨[false], List.replicate n .off⟩
def canMakeW (W : WS) : Bool := decide (W.heaps.length ≤ 65536)
def madeW (W : WS) : Int := if canMakeW W then W.heaps.length else 0
def makeW (W : WS) : WS := if canMakeW W then ⟨W.heaps ++ [true], W.cells⟩ else W
def putB (W : WS) (h x : Int) : Bool := hasW W h && (slotW W x && !inW W x)
def putW (W : WS) (h x k s : Int) : WS := if putB W h x then ⟨W.heaps, W.cells.set x.toNat ⟨h.toNat, k, s⟩⟩ else W
def dropW (W : WS) (x : Int) : WS := if inW W x then ⟨W.heaps, W.cells.set x.toNat .off⟩ else W
def lowerB (W : WS) (x k s : Int) : Bool := inW W x && !lessB (cellW W x).key (cellW W x).seq k s
def lowerW (W : WS) (x k s : Int) : WS := if lowerB W x k s then ⟨W.heaps, W.cells.set x.toNat ⟨(cellW W x).home, k, s⟩⟩ else W
def joinBW (W : WS) (a b : Int) : Bool := hasW W a && (hasW W b && decide (a ≠ b))
def joinW (W : WS) (a b : Int) : WS := if joinBW W a b then ⟨W.heaps.set b.toNat false, W.cells.map fun c => if c.home = b.toNat then ⟨a.toNat, c.key, c.seq⟩ else c⟩ else W

theorem has_nat {W : WS} {h : Int} (hh : hasW W h = true) : ∃ i : Nat, h = i ∧ 1 ≤ i ∧ i < W.heaps.length ∧ W.heaps.getD i false = true := by
  simp only [hasW, Bool.and_eq_true, decide_eq_true_eq] at hh
  exact ⟨h.toNat, by omega, by omega, by omega, hh.2⟩
theorem slot_nat {W : WS} {x : Int} (hx : slotW W x = true) : ∃ i : Nat, x = i ∧ i < W.cells.length := by
  simp only [slotW, decide_eq_true_eq] at hx
  exact ⟨x.toNat, by omega, by omega⟩
theorem cell_nat (W : WS) (i : Nat) (hi : i < W.cells.length) : cellW W i = W.cells.getD i .off := by
  have : slotW W i = true := by simp [slotW]; omega
  simp [cellW, this]
theorem cell_off {W : WS} {x : Int} (h : slotW W x = false) : cellW W x = .off := by simp [cellW, h]
theorem in_slot {W : WS} {x : Int} (h : inW W x = true) : slotW W x = true := by
  cases hs : slotW W x
  · simp [inW, cell_off hs, CellD.off] at h
  · rfl
theorem in_nat {W : WS} {x : Int} (h : inW W x = true) : ∃ i : Nat, x = i ∧ i < W.cells.length ∧ (W.cells.getD i .off).home ≠ 0 := by
  obtain ⟨i, rfl, hi⟩ := slot_nat (in_slot h)
  refine ⟨i, rfl, hi, ?_⟩
  simpa [inW, cell_nat W i hi] using h

/-- What always holds of a nest. -/
structure WS.Fit (W : WS) : Prop where
  pos : 1 ≤ W.heaps.length
  len : W.heaps.length ≤ 65537
  zero : W.heaps.getD 0 false = false
  cap : W.cells.length ≤ 65536
  home : ∀ i, i < W.cells.length → (W.cells.getD i .off).home = 0 ∨ hasW W (W.cells.getD i .off).home = true
  off : ∀ i, i < W.cells.length → (W.cells.getD i .off).home = 0 → W.cells.getD i .off = .off
theorem WS.Fit.cellOff {W : WS} (h : W.Fit) {x : Int} (hx : inW W x = false) : cellW W x = .off := by
  cases hs : slotW W x
  · exact cell_off hs
  · obtain ⟨i, rfl, hi⟩ := slot_nat hs
    rw [cell_nat W i hi]
    refine h.off i hi ?_
    simpa [inW, cell_nat W i hi] using hx

theorem countP_set {α : Type} (p : α → Bool) (d c : α) (l : List α) (i : Nat) (hi : i < l.length) : (l.set i c).countP p + (if p (l.getD i d) then 1 else 0) = l.countP p + (if p c then 1 else 0) := by
  induction l generalizing i with
  | nil => simp at hi
  | cons a r ih =>
    cases i with
    | zero => simp only [List.set_cons_zero, List.countP_cons, List.getD_cons_zero]; omega
    | succ i =>
      have := ih i (by simpa using hi)
      simp only [List.set_cons_succ, List.countP_cons, List.getD_cons_succ]
      omega
theorem len_le (W : WS) (h : Int) : lenW W h ≤ W.cells.length := by
  unfold lenW
  split
  · exact List.countP_le_length
  · exact Nat.zero_le _
theorem len_none {W : WS} (hW : W.Fit) {h : Int} (hh : hasW W h = false) : lenW W h = 0 := by
  unfold lenW
  split
  · rename_i hp
    rw [List.countP_eq_zero]
    intro c hc hce
    obtain ⟨i, hi, rfl⟩ := List.getElem_of_mem hc
    have e : W.cells.getD i .off = W.cells[i] := by simp [List.getD_eq_getElem?_getD, hi]
    have h1 := hW.home i hi
    rw [e] at h1
    simp only [beq_iff_eq] at hce
    rcases h1 with h1 | h1
    · omega
    · rw [hce] at h1; rw [h1] at hh; cases hh
  · rfl
/-- How many are in each heap, behind a call. -/
theorem len_put {W : WS} {h : Nat} {x : Nat} {k s : Int} (hh : 1 ≤ h) (hx : x < W.cells.length) (ho : (W.cells.getD x .off).home = 0) (y : Int) : (lenW ⟨W.heaps, W.cells.set x ⟨h, k, s⟩⟩ y : Int) = if y = h then (lenW W h : Int) + 1 else lenW W y := by
  by_cases hy : 0 < y
  · have := countP_set (fun c : CellD => (c.home : Int) == y) .off ⟨h, k, s⟩ W.cells x hx
    simp only [ho] at this
    have e0 : ((0 : Nat) : Int) ≠ y := by omega
    by_cases e : y = h
    · subst e
      simp only [lenW, hy, if_true]
      simp at this
      have e1 : ¬ ((0 : Int) = (h : Int)) := by omega
      simp [e1] at this
      omega
    · have e1 : ¬ ((h : Int) = y) := fun e' => e e'.symm
      have e2 : ¬ ((0 : Int) = y) := by omega
      simp [e1, e2] at this
      simp only [lenW, hy, if_true, if_neg e]
      omega
  · have e : y ≠ h := by omega
    simp [lenW, hy, e]
theorem len_drop {W : WS} {x : Nat} (hx : x < W.cells.length) (ho : (W.cells.getD x .off).home ≠ 0) (y : Int) : (lenW ⟨W.heaps, W.cells.set x .off⟩ y : Int) = if y = (W.cells.getD x .off).home then (lenW W (W.cells.getD x .off).home : Int) - 1 else lenW W y := by
  have hp : ∀ h, (W.cells.getD x .off).home = h → 0 < h := by intro h e; omega
  generalize hq : (W.cells.getD x .off).home = h at *
  have hh := hp h rfl
  by_cases hy : 0 < y
  · have := countP_set (fun c : CellD => (c.home : Int) == y) .off .off W.cells x hx
    simp only [hq, show CellD.off.home = 0 from rfl] at this
    have e2 : ¬ ((0 : Int) = y) := by omega
    by_cases e : y = h
    · subst e
      have e3 : ¬ ((0 : Int) = (h : Int)) := by omega
      simp [e3] at this
      simp only [lenW, hy, if_true]
      omega
    · have e1 : ¬ ((h : Int) = y) := fun e' => e e'.symm
      simp [e1, e2] at this
      simp only [lenW, hy, if_true, if_neg e]
      omega
  · have e : y ≠ h := by omega
    simp [lenW, hy, e]
theorem len_lower {W : WS} {x : Nat} {k s : Int} (hx : x < W.cells.length) (y : Int) : lenW ⟨W.heaps, W.cells.set x ⟨(W.cells.getD x .off).home, k, s⟩⟩ y = lenW W y := by
  unfold lenW
  split
  · have := countP_set (fun c : CellD => (c.home : Int) == y) .off ⟨(W.cells.getD x .off).home, k, s⟩ W.cells x hx
    simp only at this ⊢
    omega
  · rfl
theorem count_join (l : List CellD) (a b : Nat) (hab : a ≠ b) (y : Int) (hy : 0 < y) : ((l.map fun c : CellD => if c.home = b then (⟨a, c.key, c.seq⟩ : CellD) else c).countP (fun c => (c.home : Int) == y) : Int)
    = if y = a then (l.countP (fun c => (c.home : Int) == a) : Int) + l.countP (fun c => (c.home : Int) == b) else if y = b then 0 else l.countP (fun c => (c.home : Int) == y) := by
  induction l with
  | nil => simp
  | cons c r ih =>
    simp only [List.map_cons, List.countP_cons, Int.natCast_add]
    rw [ih]
    by_cases h1 : c.home = b
    · rw [if_pos h1]
      by_cases ya : y = a
      · subst ya
        have hne : ¬ (b : Int) = a := by omega
        simp [h1, hne]; omega
      · have ya' : ¬ (a : Int) = y := fun e => ya e.symm
        by_cases yb : y = b
        · subst yb
          simp [ya, ya']
        · have yb' : ¬ (b : Int) = y := fun e => yb e.symm
          simp [ya, ya', yb, yb', h1]
    · rw [if_neg h1]
      have hb : ¬ (c.home : Int) = b := by omega
      by_cases ya : y = a
      · subst ya
        simp [hb]; omega
      · by_cases yb : y = b
        · subst yb
          have ya' : ¬ (b : Int) = a := ya
          simp [ya', hb]
        · simp [ya, yb]
theorem len_join {W : WS} {a b : Nat} (ha : 1 ≤ a) (hb : 1 ≤ b) (hab : a ≠ b) (H : List Bool) (y : Int) : (lenW ⟨H, W.cells.map fun c => if c.home = b then ⟨a, c.key, c.seq⟩ else c⟩ y : Int) = if y = a then (lenW W a : Int) + lenW W b else if y = b then 0 else lenW W y := by
  have ea : (0 : Int) < a := by omega
  have eb : (0 : Int) < b := by omega
  by_cases hy : 0 < y
  · have := count_join W.cells a b hab y hy
    simp only [lenW, hy, ea, eb, if_true]
    exact this
  · have e1 : y ≠ a := by omega
    have e2 : y ≠ b := by omega
    simp [lenW, hy, e1, e2]

/-! ### a nest stays one -/
theorem new_fitW {n : Nat} (h : n ≤ 65536) : (newW n).Fit := by
  refine ⟨by simp [newW], by simp [newW], rfl, by simpa [newW] using h, fun i hi => Or.inl ?_, fun i hi _ => ?_⟩
  · simp only [newW, List.length_replicate] at hi
    simp [newW, List.getD_eq_getElem?_getD, hi, CellD.off]
  · simp only [newW, List.length_replicate] at hi
    simp [newW, List.getD_eq_getElem?_getD, hi]
end Go.Proofs.Ytcjjglaimfhofaa
