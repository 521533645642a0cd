/- Merged of SiftMath, SiftRunsMath. -/
import Derived.Test.YtlbbgdpdaelcdaaSiftHeap
namespace Go.Proofs.Ytlbbgdpdaelcdaa

/-- Has x the lesser key, or as great a one, and the lesser number? -/
def ltK (ks : Int → Int) (x y : Int) : Bool := decide (ks x < ks y) || (ks x == ks y && decide (x < y))
theorem ltK_iff {ks : Int → Int} {x y : Int} : ltK ks x y = true ↔ ks x < ks y ∨ ks x = ks y ∧ x < y := by simp [ltK]
theorem ltK_not {ks : Int → Int} {x y : Int} : ltK ks x y = false ↔ ¬ (ks x < ks y ∨ ks x = ks y ∧ x < y) := by
  rw [← ltK_iff]; simp
theorem rat_get {l : List Int} {i : Nat} (h : i < l.length) : l[i]? = some (rat l i) := by
  simp [rat, List.getD_eq_getElem?_getD, h]
theorem rat_mem {l : List Int} {i : Nat} (h : i < l.length) : rat l i ∈ l := List.mem_of_getElem? (rat_get h)
theorem mem_rat {l : List Int} {x : Int} (h : x ∈ l) : ∃ i, i < l.length ∧ rat l i = x := by
  obtain ⟨i, hi, e⟩ := List.getElem_of_mem h
  exact ⟨i, hi, by rw [← e]; simp [rat, List.getD_eq_getElem?_getD, hi]⟩
theorem rat_inj {l : List Int} (hn : l.Nodup) {i j : Nat} (hi : i < l.length) (hj : j < l.length) (e : rat l i = rat l j) : i = j := by
  have h1 := rat_get hi
  have h2 := rat_get hj
  rw [e, ← h2] at h1
  exact (List.getElem?_inj hi hn).1 h1
theorem strict_keys {l : List Int} (ks : Int → Int) (hn : l.Nodup) : Strict (ltK ks) l := by
  refine ⟨fun i _ => ltK_not.2 (by omega), fun i j k _ _ _ h1 h2 => ?_, fun i j hi hj hij h => ?_⟩
  · rw [ltK_iff] at *; omega
  · have h3 : rat l i ≠ rat l j := fun e => hij (rat_inj hn hi hj e)
    rw [ltK_not] at h; rw [ltK_iff]; omega
theorem ltK_irr (ks : Int → Int) (x : Int) : ltK ks x x = false := ltK_not.2 (by omega)
theorem ltK_total {ks : Int → Int} {x y : Int} (h : x ≠ y) (e : ltK ks x y = false) : ltK ks y x = true := by
  rw [ltK_not] at e; rw [ltK_iff]; omega
/-- The things of a row, by an order that no two of them are alike in, are unlike. -/
theorem strict_nodup {lt : Int → Int → Bool} {l : List Int} (s : Strict lt l) {i j : Nat} (hi : i < l.length) (hj : j < l.length) (hij : i ≠ j) : rat l i ≠ rat l j := by
  intro e
  have h1 := s.irr i hi
  have h2 : lt (rat l i) (rat l j) = false := by rw [← e]; exact h1
  have h3 := s.total i j hi hj hij h2
  rw [← e, h1] at h3
  cases h3
section
variable {d : Nat} {lt lt' : Int → Int → Bool} {l l' : List Int}
/-- What is left of a row, in whatever order, is in a strict order, too. -/
theorem strict_sub (s : Strict lt l) (f : Nat → Nat) (hf : ∀ k, k < l'.length → f k < l.length ∧ rat l' k = rat l (f k)) (hi : ∀ j k, j < l'.length → k < l'.length → j ≠ k → f j ≠ f k) : Strict lt l' := by
  refine ⟨fun i h => ?_, fun i j k h1 h2 h3 a b => ?_, fun i j h1 h2 hne h => ?_⟩
  · rw [(hf i h).2]; exact s.irr _ (hf i h).1
  · rw [(hf i h1).2, (hf j h2).2, (hf k h3).2] at *; exact s.trans _ _ _ (hf i h1).1 (hf j h2).1 (hf k h3).1 a b
  · rw [(hf i h1).2, (hf j h2).2] at *; exact s.total _ _ (hf i h1).1 (hf j h2).1 (hi i j h1 h2 hne) h
/-- The last one is put into the hole at i. -/
def fillL (l : List Int) (i : Nat) : List Int := (l.take (l.length - 1)).set i (rat l (l.length - 1))
theorem fill_len (l : List Int) (i : Nat) : (fillL l i).length = l.length - 1 := by simp [fillL]
theorem rat_take {n k : Nat} (h : k < n) : rat (l.take n) k = rat l k := by
  simp [rat, List.getD_eq_getElem?_getD, h]
theorem rat_fill {i k : Nat} (hi : i < l.length - 1) (hk : k < l.length - 1) : rat (fillL l i) k = if i = k then rat l (l.length - 1) else rat l k := by
  unfold fillL
  rw [rat_set _ _ _ _ (by simp; omega), rat_take hk]
theorem fill_strict {i : Nat} (hi : i < l.length - 1) (s : Strict lt l) : Strict lt (fillL l i) := by
  refine strict_sub s (fun k => if i = k then l.length - 1 else k) (fun k hk => ?_) (fun j k hj hk hne => ?_)
  · rw [fill_len] at hk
    rw [rat_fill hi hk]
    split
    · exact ⟨by omega, rfl⟩
    · exact ⟨by omega, rfl⟩
  · rw [fill_len] at hj hk
    repeat' split
    all_goals omega
/-- What fills the hole is ahead of that above it: it may go up. -/
theorem fill_up {i : Nat} (hd : 1 ≤ d) (s : Strict lt l) (H : Heap d lt l) (hi : i < l.length - 1) (h0 : 0 < i) (h : lt (rat l (l.length - 1)) (rat l (par d i)) = true) : UpInv d lt (fillL l i) i := by
  have hp := par_lt hd h0
  refine ⟨by rw [fill_len]; exact hi, fun k hk0 hk hne => ?_, fun _ k hk0 hk hpk => ?_⟩
  · rw [fill_len] at hk
    have hpk := par_lt hd hk0
    rw [rat_fill hi hk, rat_fill hi (by omega), if_neg (fun e => hne e.symm)]
    have hb := H k hk0 (by omega)
    by_cases e : i = par d k
    · rw [if_pos e]
      rw [← e] at hb
      have h1 := s.le_trans (i := k) (j := i) (k := par d i) (by omega) (by omega) (by omega) hb (H i h0 (by omega))
      have h2 := s.asymm (i := l.length - 1) (j := par d i) (by omega) (by omega) h
      exact s.le_trans (i := k) (j := par d i) (k := l.length - 1) (by omega) (by omega) (by omega) h1 h2
    · rw [if_neg e]; exact hb
  · rw [fill_len] at hk
    have hpk' := par_lt hd hk0
    rw [rat_fill hi hk, rat_fill hi (by omega), if_neg (by omega), if_neg (by omega)]
    have hb := H k hk0 (by omega)
    rw [hpk] at hb
    exact s.le_trans (i := k) (j := i) (k := par d i) (by omega) (by omega) (by omega) hb (H i h0 (by omega))
/-- It isn't: it may go down. -/
theorem fill_down {i : Nat} (hd : 1 ≤ d) (s : Strict lt l) (H : Heap d lt l) (hi : i < l.length - 1) (h : 0 < i → lt (rat l (l.length - 1)) (rat l (par d i)) = false) : DownInv d lt (fillL l i) i := by
  refine ⟨fun k hk0 hk hne => ?_, fun h0 k hk0 hk hpk => ?_⟩
  · rw [fill_len] at hk
    have hpk := par_lt hd hk0
    rw [rat_fill hi hk, rat_fill hi (by omega), if_neg (fun e : i = par d k => hne e.symm)]
    by_cases e : i = k
    · subst e; rw [if_pos rfl]; exact h hk0
    · rw [if_neg e]; exact H k hk0 (by omega)
  · rw [fill_len] at hk
    have hpk' := par_lt hd hk0
    have hp := par_lt hd h0
    rw [rat_fill hi hk, rat_fill hi (by omega), if_neg (by omega), if_neg (by omega)]
    have hb := H k hk0 (by omega)
    rw [hpk] at hb
    exact s.le_trans (i := k) (j := i) (k := par d i) (by omega) (by omega) (by omega) hb (H i h0 (by omega))
/-- One has come to be ahead of more: it may go up. -/
theorem raise_up {i : Nat} (hd : 1 ≤ d) (s : Strict lt l) (s' : Strict lt' l) (H : Heap d lt l) (hi : i < l.length)
    (same : ∀ a b, a ≠ rat l i → b ≠ rat l i → lt' a b = lt a b) (more : ∀ b, b ≠ rat l i → lt (rat l i) b = true → lt' (rat l i) b = true) : UpInv d lt' l i := by
  refine ⟨hi, fun k hk0 hk hne => ?_, fun h0 k hk0 hk hpk => ?_⟩
  · have hb := H k hk0 hk
    have hpk := par_lt hd hk0
    have hki := strict_nodup s hk hi hne
    by_cases e : par d k = i
    · rw [e] at hb ⊢
      exact s'.asymm hi hk (more _ hki (s.total k i hk hi hne hb))
    · rw [same _ _ hki (strict_nodup s (by omega) hi e)]; exact hb
  · have hp := par_lt hd h0
    have hpk' := par_lt hd hk0
    have hb := H k hk0 hk
    rw [hpk] at hb
    rw [same _ _ (strict_nodup s hk hi (by omega)) (strict_nodup s (by omega) hi (by omega))]
    exact s.le_trans (i := k) (j := i) (k := par d i) (by omega) (by omega) (by omega) hb (H i h0 (by omega))
end
/-- A key that isn't greater. -/
theorem lower_same {ks ks' : Int → Int} {x : Int} (h : ∀ y, y ≠ x → ks' y = ks y) (a b : Int) (ha : a ≠ x) (hb : b ≠ x) : ltK ks' a b = ltK ks a b := by
  unfold ltK; rw [h a ha, h b hb]
theorem lower_more {ks ks' : Int → Int} {x : Int} (h : ∀ y, y ≠ x → ks' y = ks y) (hx : ks' x ≤ ks x) (b : Int) (hb : b ≠ x) (e : ltK ks x b = true) : ltK ks' x b = true := by
  rw [ltK_iff] at *; rw [h b hb]; omega

/-! ### the document's numbers -/
def rightD (d : Int) : Bool := decide (2 ≤ d) && decide (d ≤ 16)
def parD (d i : Int) : Int × Bool := if rightD d = true ∧ 1 ≤ i then ((i - 1) / d, true) else (0, false)
def childD (d i k : Int) : Int × Bool := if rightD d = true ∧ 0 ≤ i ∧ i ≤ 1099511627776 ∧ 1 ≤ k ∧ k ≤ d then (i * d + k, true) else (0, false)
def depthD (d n : Int) : Int := if rightD d = true ∧ 2 ≤ n ∧ n ≤ 1099511627776 then depthI d.toNat (n - 1).toNat else 0
theorem rightD_iff {d : Int} : rightD d = true ↔ 2 ≤ d ∧ d ≤ 16 := by simp [rightD]
theorem parD_nat {d i : Nat} (hd : 2 ≤ d) (hd2 : d ≤ 16) (hi : 0 < i) : parD d i = (((par d i : Nat) : Int), true) := by
  have : rightD (d : Int) = true := rightD_iff.2 (by omega)
  rw [parD, if_pos ⟨this, by omega⟩]
  unfold par
  rw [Int.natCast_ediv, show ((i - 1 : Nat) : Int) = (i : Int) - 1 by omega]
theorem depthD_nat {d n : Nat} (hd : 2 ≤ d) (hd2 : d ≤ 16) (hn : n ≤ 1099511627776) : depthD d n = (depthI d (n - 1) : Nat) := by
  have : rightD (d : Int) = true := rightD_iff.2 (by omega)
  unfold depthD
  by_cases h : 2 ≤ n
  · rw [if_pos ⟨this, by omega, by omega⟩]
    congr 2 <;> omega
  · rw [if_neg (by omega), show n - 1 = 0 by omega, depth_zero]; rfl
/-- So deep is a place at most. -/
theorem depth_log {d : Nat} (hd : 2 ≤ d) : ∀ (b i : Nat), i + 1 < 2 ^ (b + 1) → depthI d i ≤ b
  | 0, i, h => by
    obtain rfl : i = 0 := by simp at h; omega
    exact Nat.le_refl _
  | b + 1, i, h => by
    by_cases h0 : i = 0
    · subst h0; exact Nat.zero_le _
    · rw [depth_par (by omega) (Nat.pos_of_ne_zero h0)]
      have h1 : 2 ^ (b + 1 + 1) = 2 * 2 ^ (b + 1) := by rw [Nat.pow_succ]; omega
      have h2 : par d i ≤ (i - 1) / 2 := Nat.div_le_div_left hd (by omega)
      have := depth_log hd b (par d i) (by omega)
      omega
/-- Below a place all is deeper by one. -/
theorem depth_child {d i k : Nat} (hd : 1 ≤ d) (hk : 1 ≤ k) (hk2 : k ≤ d) : depthI d (i * d + k) = depthI d i + 1 := by
  have h0 : 0 < i * d + k := by omega
  rw [depth_par hd h0, (par_eq (i := i) hd h0).2 (by rw [Nat.mul_comm d i]; omega)]

/-! ### what is there -/
def hasL (l : List Int) (x : Int) : Bool := l.contains x
def withoutL (l : List Int) (x : Int) : List Int := l.filter fun y => x != y
theorem hasL_iff {l : List Int} {x : Int} : hasL l x = true ↔ x ∈ l := by simp [hasL]
theorem hasL_not {l : List Int} {x : Int} : hasL l x = false ↔ x ∉ l := by rw [← hasL_iff]; simp
theorem fill_perm {l : List Int} {i : Nat} (hi : i < l.length) : (rat l i :: fillL l i).Perm l := by
  have hc : ∀ x, (rat l i :: fillL l i).count x = l.count x := fun x => by
    have cs : ∀ (m : List Int) (k : Nat) (y : Int), k < m.length → (m.set k y).count x + (if m.getD k 0 = x then 1 else 0) = m.count x + (if y = x then 1 else 0) := by
      intro m
      induction m with
      | nil => intro k y hk; simp at hk
      | cons a r ih =>
        intro k y hk
        cases k with
        | zero => simp only [List.set_cons_zero, List.count_cons, List.getD_cons_zero, beq_iff_eq]; omega
        | succ k =>
          have := ih k y (by simpa using hk)
          simp only [List.set_cons_succ, List.count_cons, List.getD_cons_succ]
          omega
    have hl : l = l.take (l.length - 1) ++ [rat l (l.length - 1)] := by
      have h1 : l.length - 1 < l.length := by omega
      have h2 := List.take_append_drop (l.length - 1) l
      have h3 : l.drop (l.length - 1) = [rat l (l.length - 1)] := by
        rw [List.drop_eq_getElem_cons h1, List.drop_eq_nil_of_le (by omega)]
        simp [rat, List.getD_eq_getElem?_getD, h1]
      rw [h3] at h2; exact h2.symm
    have hcl : l.count x = (l.take (l.length - 1)).count x + (if rat l (l.length - 1) = x then 1 else 0) := by
      conv => lhs; rw [hl]
      simp only [List.count_append, List.count_cons, List.count_nil, beq_iff_eq]
      omega
    by_cases h : i < l.length - 1
    · have h1 := cs (l.take (l.length - 1)) i (rat l (l.length - 1)) (by simp; omega)
      have h4 : (l.take (l.length - 1)).getD i 0 = rat l i := rat_take h
      rw [h4] at h1
      simp only [List.count_cons, fillL, beq_iff_eq]
      omega
    · have e : i = l.length - 1 := by omega
      have e2 : fillL l i = l.take (l.length - 1) := by
        unfold fillL
        exact List.set_eq_of_length_le (by simp; omega)
      simp only [List.count_cons, e2, beq_iff_eq]
      rw [hcl, e]
  exact List.perm_iff_count.2 hc
end Go.Proofs.Ytlbbgdpdaelcdaa

namespace Go.Proofs.Ytlbbgdpdaelcdaa

theorem heap_congr {d : Nat} {lt lt' : Int → Int → Bool} {l : List Int} (hd : 1 ≤ d) (h : ∀ a ∈ l, ∀ b ∈ l, lt' a b = lt a b) (H : Heap d lt l) : Heap d lt' l := by
  intro i h0 hi
  have hp := par_lt hd h0
  rw [h _ (rat_mem hi) _ (rat_mem (Nat.lt_trans hp hi))]
  exact H i h0 hi
theorem strict_congr {lt lt' : Int → Int → Bool} {l : List Int} (h : ∀ a ∈ l, ∀ b ∈ l, lt' a b = lt a b) (s : Strict lt l) : Strict lt' l := by
  refine ⟨fun i hi => ?_, fun i j k hi hj hk h1 h2 => ?_, fun i j hi hj hne h1 => ?_⟩
  · rw [h _ (rat_mem hi) _ (rat_mem hi)]; exact s.irr i hi
  · rw [h _ (rat_mem hi) _ (rat_mem hj)] at h1
    rw [h _ (rat_mem hj) _ (rat_mem hk)] at h2
    rw [h _ (rat_mem hi) _ (rat_mem hk)]; exact s.trans i j k hi hj hk h1 h2
  · rw [h _ (rat_mem hi) _ (rat_mem hj)] at h1
    rw [h _ (rat_mem hj) _ (rat_mem hi)]; exact s.total i j hi hj hne h1
/-- The order is the same among others. -/
theorem ltK_else {ks ks' : Int → Int} {x : Int} (h : ∀ y, y ≠ x → ks' y = ks y) {l : List Int} (hx : x ∉ l) : ∀ a ∈ l, ∀ b ∈ l, ltK ks' a b = ltK ks a b := fun a ha b hb =>
  lower_same h a b (fun e => hx (e ▸ ha)) (fun e => hx (e ▸ hb))
theorem without_perm {l m : List Int} {x : Int} (hn : l.Nodup) (h : (x :: m).Perm l) : m.Perm (withoutL l x) := by
  have hx : x ∈ l := h.mem_iff.1 (by simp)
  have h1 : (withoutL l x) = l.erase x := by
    rw [hn.erase_eq_filter]
    unfold withoutL
    apply List.filter_congr
    intro y _
    by_cases e : x = y
    · subst e; simp
    · have e2 : y ≠ x := fun h => e h.symm
      rw [show (x != y) = true from bne_iff_ne.2 e, show (y != x) = true from bne_iff_ne.2 e2]
  rw [h1]
  exact (h.trans (List.perm_cons_erase hx)).cons_inv
theorem without_nodup {l : List Int} {x : Int} (hn : l.Nodup) : (withoutL l x).Nodup := hn.filter _
theorem mem_without {l : List Int} {x y : Int} : y ∈ withoutL l x ↔ y ∈ l ∧ y ≠ x := by
  simp only [withoutL, List.mem_filter, bne_iff_ne, ne_eq]
  exact ⟨fun ⟨h1, h2⟩ => ⟨h1, fun e => h2 e.symm⟩, fun ⟨h1, h2⟩ => ⟨h1, fun e => h2 e.symm⟩⟩
theorem has_perm {l m : List Int} (h : l.Perm m) (x : Int) : hasL l x = hasL m x := by
  cases e : hasL m x
  · rw [hasL_not] at e ⊢; exact fun hx => e (h.mem_iff.1 hx)
  · rw [hasL_iff] at e ⊢; exact h.mem_iff.2 e
theorem has_add (l : List Int) (x : Int) : hasL (l ++ [x]) x = true := by rw [hasL_iff]; simp
theorem has_without (l : List Int) (x : Int) : hasL (withoutL l x) x = false := by rw [hasL_not, mem_without]; simp
theorem nodup_add {l : List Int} {x : Int} (hn : l.Nodup) (hx : hasL l x = false) : (l ++ [x]).Nodup := by
  rw [hasL_not] at hx
  rw [List.nodup_append]
  refine ⟨hn, by simp, fun a ha b hb e => hx ?_⟩
  simp only [List.mem_singleton] at hb
  subst hb; subst e; exact ha
theorem fill_nodup {l : List Int} {i : Nat} (hn : l.Nodup) (hi : i < l.length) : (fillL l i).Nodup := by
  have h := (fill_perm hi).nodup_iff.2 hn
  exact (List.nodup_cons.1 h).2
/-- Where a thing is in a row, if it is there. -/
def placeL (l : List Int) (x : Int) : Option Int := if x ∈ l then some ((l.idxOf x : Nat) : Int) else none
theorem place_rat {l : List Int} (hn : l.Nodup) {i : Nat} (hi : i < l.length) : placeL l (rat l i) = some ((i : Nat) : Int) := by
  have hm := rat_mem hi
  rw [placeL, if_pos hm]
  have h1 : l.idxOf (rat l i) < l.length := List.idxOf_lt_length_of_mem hm
  have h2 : rat l (l.idxOf (rat l i)) = rat l i := by
    have e := rat_get h1
    rw [List.getElem?_eq_getElem h1, List.getElem_idxOf h1] at e
    injection e with e
    exact e.symm
  rw [rat_inj hn h1 hi h2]
theorem place_none {l : List Int} {x : Int} (h : x ∉ l) : placeL l x = none := by rw [placeL, if_neg h]
theorem place_some {l : List Int} (hn : l.Nodup) {x : Int} (h : x ∈ l) : ∃ i, i < l.length ∧ rat l i = x ∧ placeL l x = some ((i : Nat) : Int) := by
  obtain ⟨i, hi, rfl⟩ := mem_rat h
  exact ⟨i, hi, rfl, place_rat hn hi⟩
theorem place_isSome (l : List Int) (x : Int) : (placeL l x).isSome = hasL l x := by
  unfold placeL
  by_cases h : x ∈ l
  · rw [if_pos h, hasL_iff.2 h]; rfl
  · rw [if_neg h, hasL_not.2 h]; rfl
/-- Places are told by what stands where. -/
theorem place_ext {l : List Int} (hn : l.Nodup) {f : Int → Option Int} (h1 : ∀ i, i < l.length → f (rat l i) = some ((i : Nat) : Int)) (h2 : ∀ x, x ∉ l → f x = none) : f = placeL l := by
  funext x
  by_cases hx : x ∈ l
  · obtain ⟨i, hi, rfl, e⟩ := place_some hn hx
    rw [h1 i hi, e]
  · rw [h2 x hx, place_none hx]
/-- The row behind the loop that takes the first one again and again: each is ahead of the next one. -/
theorem top_least {d : Nat} {ks : Int → Int} {l : List Int} (hd : 1 ≤ d) (hn : l.Nodup) (H : Heap d (ltK ks) l) {y : Int} (hy : y ∈ l) (hne : y ≠ rat l 0) : ltK ks (rat l 0) y = true := by
  obtain ⟨i, hi, rfl⟩ := mem_rat hy
  exact ltK_total hne (heap_top hd (strict_keys ks hn) H i hi)
end Go.Proofs.Ytlbbgdpdaelcdaa
