/- Merged of FbForest, SiftHeap. -/
import Derived.Test.YtcjjglaimfhofaaFibMath
import GoSem.ClaimData
namespace Go.Proofs.Ytcjjglaimfhofaa

def inB (n : Nat) (x : Int) : Prop := 0 ≤ x ∧ x < n
/-- Each thing hangs once, and none below itself. -/
structure FbInv (n : Nat) (K : Int → List Int) : Prop where
  rng : ∀ p x, x ∈ K p → inB n p ∧ inB n x
  one : ∀ p q x, x ∈ K p → x ∈ K q → p = q
  nodup : ∀ p, (K p).Nodup
  low : ∃ m : Int → Nat, ∀ p x, x ∈ K p → m x < m p
def fbTop (K : Int → List Int) (x : Int) : Prop := ∀ p, x ∉ K p
/-- y is x, or anywhere below it. -/
inductive Des (K : Int → List Int) (x : Int) : Int → Prop
  | refl : Des K x x
  | step {p y : Int} : Des K x p → y ∈ K p → Des K x y
section
variable {n : Nat} {K : Int → List Int}
theorem Des.trans {x y z : Int} (h1 : Des K x y) (h2 : Des K y z) : Des K x z := by
  induction h2 with
  | refl => exact h1
  | step _ hy ih => exact .step ih hy
theorem Des.kid {x c : Int} (h : c ∈ K x) : Des K x c := .step .refl h
/-- From above: by a child. -/
theorem Des.down {x y : Int} (h : Des K x y) : y = x ∨ ∃ c ∈ K x, Des K c y := by
  induction h with
  | refl => exact Or.inl rfl
  | @step p y hp hy ih =>
    rcases ih with e | ⟨c, hc, h2⟩
    · subst e; exact Or.inr ⟨y, hy, .refl⟩
    · exact Or.inr ⟨c, hc, .step h2 hy⟩
theorem Des.up {x y : Int} (h : Des K x y) : y = x ∨ ∃ p, Des K x p ∧ y ∈ K p := by
  cases h with
  | refl => exact Or.inl rfl
  | step h1 h2 => exact Or.inr ⟨_, h1, h2⟩
theorem Des.low {m : Int → Nat} (hm : ∀ p x, x ∈ K p → m x < m p) {x y : Int} (h : Des K x y) : y = x ∨ m y < m x := by
  induction h with
  | refl => exact Or.inl rfl
  | @step p y _ hy ih =>
    have := hm p y hy
    rcases ih with e | e
    · subst e; exact Or.inr this
    · exact Or.inr (Nat.lt_trans this e)
theorem Des.anti (I : FbInv n K) {x y : Int} (h1 : Des K x y) (h2 : Des K y x) : x = y := by
  obtain ⟨m, hm⟩ := I.low
  rcases h1.low hm with e | e
  · exact e.symm
  · rcases h2.low hm with e2 | e2
    · exact e2
    · omega
theorem Des.not_kid (I : FbInv n K) {x c : Int} (hc : c ∈ K x) : ¬ Des K c x := fun h => by
  obtain ⟨m, hm⟩ := I.low
  have h1 := hm x c hc
  rcases h.low hm with e | e
  · subst e; omega
  · omega
/-- What is below two is below one of them. -/
theorem Des.nest (I : FbInv n K) {a b y : Int} (ha : Des K a y) (hb : Des K b y) : Des K a b ∨ Des K b a := by
  induction ha with
  | refl => exact Or.inr hb
  | @step p y hp hy ih =>
    rcases hb.up with e | ⟨q, h1, h2⟩
    · subst e; exact Or.inl (.step hp hy)
    · rw [← I.one p q y hy h2] at h1
      exact ih h1
theorem Des.top {a b : Int} (ht : fbTop K b) (h : Des K a b) : b = a := by
  rcases h.up with e | ⟨p, _, h2⟩
  · exact e
  · exact absurd h2 (ht p)
theorem Des.apart (I : FbInv n K) {a b y : Int} (ta : fbTop K a) (tb : fbTop K b) (h1 : Des K a y) (h2 : Des K b y) : a = b := by
  rcases h1.nest I h2 with h | h
  · exact (Des.top tb h).symm
  · exact Des.top ta h
theorem Des.inn (I : FbInv n K) {x y : Int} (hx : inB n x) (h : Des K x y) : inB n y := by
  cases h with
  | refl => exact hx
  | step _ h2 => exact (I.rng _ _ h2).2
/-- Above each thing there is a topmost one. -/
theorem Des.root (I : FbInv n K) (y : Int) : ∃ r, fbTop K r ∧ Des K r y := by
  obtain ⟨m, hm⟩ := I.low
  -- so far up there is room
  have hb : ∃ b, ∀ p x, x ∈ K p → m p ≤ b := by
    refine ⟨((List.range n).map fun i : Nat => m (i : Int)).sum, fun p x h => ?_⟩
    have hp := (I.rng p x h).1
    have hmem : m p ∈ (List.range n).map fun i : Nat => m (i : Int) := List.mem_map.2 ⟨p.toNat, List.mem_range.2 (by have := hp.2; have := hp.1; omega), by rw [show ((p.toNat : Nat) : Int) = p by have := hp.1; omega]⟩
    generalize (List.range n).map (fun i : Nat => m (i : Int)) = l at hmem ⊢
    induction l with
    | nil => cases hmem
    | cons a l ih =>
      rw [List.sum_cons]
      rcases List.mem_cons.1 hmem with e | e
      · omega
      · have := ih e; omega
  obtain ⟨b, hb⟩ := hb
  have hgo : ∀ (k : Nat) (y : Int), b + 1 - m y ≤ k → ∃ r, fbTop K r ∧ Des K r y := by
    intro k
    induction k with
    | zero =>
      intro y hk
      refine ⟨y, fun p hp => ?_, .refl⟩
      have := hb p y hp
      have := hm p y hp
      omega
    | succ k ih =>
      intro y hk
      by_cases h : ∃ p, y ∈ K p
      · obtain ⟨p, hp⟩ := h
        have h1 := hb p y hp
        have h2 := hm p y hp
        obtain ⟨r, hr, h3⟩ := ih p (by omega)
        exact ⟨r, hr, .step h3 hp⟩
      · exact ⟨y, fun p hp => h ⟨p, hp⟩, .refl⟩
  exact hgo _ y (Nat.le_refl _)
/-- What holds of all children, holds. -/
theorem FbInv.ind (I : FbInv n K) {P : Int → Prop} (h : ∀ x, (∀ c ∈ K x, P c) → P x) (x : Int) : P x := by
  obtain ⟨m, hm⟩ := I.low
  have hgo : ∀ (k : Nat) (x : Int), m x ≤ k → P x := by
    intro k
    induction k with
    | zero => intro x hx; exact h x fun c hc => absurd (hm x c hc) (by omega)
    | succ k ih => intro x hx; exact h x fun c hc => ih c (by have := hm x c hc; omega)
  exact hgo _ x (Nat.le_refl _)
/-! ### all that is below a thing, as a list -/
noncomputable def desL (n : Nat) (K : Int → List Int) (x : Int) : List Int := ((List.range n).map fun i : Nat => (i : Int)).filter fun y => @decide (Des K x y) (Classical.propDecidable _)
theorem ints_nodup (n : Nat) : ((List.range n).map fun i : Nat => (i : Int)).Nodup := by
  rw [List.nodup_iff_pairwise_ne, List.pairwise_map]
  exact List.nodup_range.imp fun h e => h (by omega)
theorem desL_nodup (x : Int) : (desL n K x).Nodup := (ints_nodup n).filter _
theorem mem_ints {n : Nat} {y : Int} : y ∈ (List.range n).map (fun i : Nat => (i : Int)) ↔ inB n y := by
  rw [List.mem_map]
  constructor
  · rintro ⟨i, hi, rfl⟩; rw [List.mem_range] at hi; exact ⟨by omega, by omega⟩
  · rintro ⟨h1, h2⟩; exact ⟨y.toNat, List.mem_range.2 (by omega), by omega⟩
theorem mem_desL {x y : Int} : y ∈ desL n K x ↔ inB n y ∧ Des K x y := by
  unfold desL
  rw [List.mem_filter, mem_ints]
  exact and_congr_right fun _ => @decide_eq_true_iff _ (Classical.propDecidable _)
theorem desL_kids (I : FbInv n K) {x : Int} (hx : inB n x) : (desL n K x).Perm (x :: (K x).flatMap (desL n K)) := by
  have hkid : ∀ c ∈ K x, ∀ y ∈ desL n K c, Des K c y := fun c _ y hy => (mem_desL.1 hy).2
  have hsame : ∀ c ∈ K x, ∀ d ∈ K x, ∀ y, Des K c y → Des K d y → c = d := fun c hc d hd y h1 h2 => by
    rcases h1.nest I h2 with h | h
    · rcases h.up with e | ⟨p, h3, h4⟩
      · exact e.symm
      · rw [← I.one x p d hd h4] at h3; exact absurd h3 (Des.not_kid I hc)
    · rcases h.up with e | ⟨p, h3, h4⟩
      · exact e
      · rw [← I.one x p c hc h4] at h3; exact absurd h3 (Des.not_kid I hd)
  refine (List.perm_ext_iff_of_nodup (desL_nodup x) ?_).2 fun y => ?_
  · rw [List.nodup_cons]
    refine ⟨fun h => ?_, ?_⟩
    · obtain ⟨c, hc, hy⟩ := List.mem_flatMap.1 h
      exact Des.not_kid I hc (mem_desL.1 hy).2
    · have hnd := I.nodup x
      generalize K x = l at hnd hkid hsame
      clear hkid
      induction l with
      | nil => exact List.nodup_nil
      | cons c l ih =>
        obtain ⟨h1, h2⟩ := List.nodup_cons.1 hnd
        rw [List.flatMap_cons, List.nodup_append]
        refine ⟨desL_nodup c, ih h2 fun a ha b hb => hsame a (by simp [ha]) b (by simp [hb]), fun a ha b hb e => ?_⟩
        subst e
        obtain ⟨d, hd, hb⟩ := List.mem_flatMap.1 hb
        have := hsame c (by simp) d (by simp [hd]) a (mem_desL.1 ha).2 (mem_desL.1 hb).2
        subst this
        exact h1 hd
  · rw [List.mem_cons, List.mem_flatMap, mem_desL]
    constructor
    · rintro ⟨h1, h2⟩
      rcases h2.down with e | ⟨c, hc, h3⟩
      · exact Or.inl e
      · exact Or.inr ⟨c, hc, mem_desL.2 ⟨h1, h3⟩⟩
    · rintro (rfl | ⟨c, hc, hy⟩)
      · exact ⟨hx, .refl⟩
      · obtain ⟨h1, h2⟩ := mem_desL.1 hy
        exact ⟨h1, (Des.kid hc).trans h2⟩
theorem desL_size (I : FbInv n K) {x : Int} (hx : inB n x) : (desL n K x).length = 1 + ((K x).map fun c => (desL n K c).length).sum := by
  rw [(desL_kids I hx).length_eq, List.length_cons, List.length_flatMap]
  omega
/-- Whatever lost one child at most, below whatever it hangs: a thing of degree d has at least as many below it as the d-th number says. -/
theorem fb_size (I : FbInv n K) (had : Int → Nat) (hs : ∀ p, SparseE ((K p).map had)) (hh : ∀ p x, x ∈ K p → had x ≤ (K x).length + 1) : ∀ x, inB n x → fibN ((K x).length + 2) ≤ (desL n K x).length := by
  intro x
  refine I.ind (P := fun x => inB n x → fibN ((K x).length + 2) ≤ (desL n K x).length) (fun x ih hx => ?_) x
  rw [desL_size I hx]
  have h1 := sparse_of (K x) (fun c => (K c).length) (fun c => (desL n K c).length) had (hs x) (hh x)
  have h2 := kids_size (K x).length ((K x).map fun c => ((K c).length, (desL n K c).length)) (by simp) h1 (fun c hc => by
    obtain ⟨d, hd, rfl⟩ := List.mem_map.1 hc
    exact ih d hd (I.rng x d hd).2)
  rw [List.map_map] at h2
  exact h2
/-- No more children than twice the digits of whatever holds all that is below. -/
theorem fb_deg (I : FbInv n K) (had : Int → Nat) (hs : ∀ p, SparseE ((K p).map had)) (hh : ∀ p x, x ∈ K p → had x ≤ (K x).length + 1) {x : Int} (hx : inB n x) {l : List Int} (hl : ∀ y, Des K x y → y ∈ l) {b : Nat} (hb : l.length < 2 ^ b) : (K x).length ≤ 2 * b := by
  refine deg_bits (fb_size I had hs hh x hx) (Nat.lt_of_le_of_lt ?_ hb)
  have hsub : ∀ (m l : List Int), m.Nodup → (∀ y ∈ m, y ∈ l) → m.length ≤ l.length := fun m => by
    induction m with
    | nil => intro l _ _; simp
    | cons a m ih =>
      intro l hd hs
      obtain ⟨h1, h2⟩ := List.nodup_cons.1 hd
      have ha := hs a (by simp)
      have := ih (l.erase a) h2 fun y hy => (List.mem_erase_of_ne (show y ≠ a from fun e => h1 (by rw [← e]; exact hy))).2 (hs y (by simp [hy]))
      rw [List.length_erase_of_mem ha] at this
      have := List.length_pos_of_mem ha
      simp only [List.length_cons]
      omega
  exact hsub _ l (desL_nodup x) fun y hy => hl y (mem_desL.1 hy).2
/-! ### what is hung, cut, and comes off -/
def fbHang (K : Int → List Int) (a : Int) (l : List Int) : Int → List Int := fun z => if z = a then l else K z
theorem hang_inv (I : FbInv n K) {a b : Int} {l : List Int} (ha : inB n a) (hb : inB n b) (ta : fbTop K a) (tb : fbTop K b) (hne : a ≠ b) (hl : l.Perm (b :: K a)) : FbInv n (fbHang K a l) := by
  have hm : ∀ p x, x ∈ fbHang K a l p ↔ x ∈ K p ∨ p = a ∧ x = b := fun p x => by
    unfold fbHang
    by_cases e : p = a
    · subst e; rw [if_pos rfl, hl.mem_iff, List.mem_cons]
      constructor
      · rintro (h | h)
        · exact Or.inr ⟨rfl, h⟩
        · exact Or.inl h
      · rintro (h | ⟨_, h⟩)
        · exact Or.inr h
        · exact Or.inl h
    · rw [if_neg e]; simp [e]
  refine ⟨fun p x h => ?_, fun p q x h1 h2 => ?_, fun p => ?_, ?_⟩
  · rcases (hm p x).1 h with h | ⟨rfl, rfl⟩
    · exact I.rng p x h
    · exact ⟨ha, hb⟩
  · rcases (hm p x).1 h1 with h1 | ⟨rfl, rfl⟩
    · rcases (hm q x).1 h2 with h2 | ⟨_, e⟩
      · exact I.one p q x h1 h2
      · exact absurd (e ▸ h1) (tb p)
    · rcases (hm q _).1 h2 with h2 | ⟨e, _⟩
      · exact absurd h2 (tb q)
      · exact e.symm
  · unfold fbHang; split
    · rw [hl.nodup_iff]; exact List.nodup_cons.2 ⟨tb a, I.nodup a⟩
    · exact I.nodup p
  · obtain ⟨m, hm2⟩ := I.low
    refine ⟨fun z => if z = a then m a + m b + 1 else m z, fun p x h => ?_⟩
    rcases (hm p x).1 h with h | ⟨rfl, rfl⟩
    · have h1 := hm2 p x h
      have hxa : x ≠ a := fun e => ta p (e ▸ h)
      show (if x = a then _ else m x) < (if p = a then _ else m p)
      rw [if_neg hxa]
      split
      · rename_i e; subst e; omega
      · exact h1
    · show (if x = p then _ else m x) < (if p = p then _ else m p)
      rw [if_pos rfl, if_neg (fun e => hne e.symm)]
      omega
/-- Less hangs than did. -/
theorem less_inv {K' : Int → List Int} (I : FbInv n K) (h : ∀ p x, x ∈ K' p → x ∈ K p) (hnd : ∀ p, (K' p).Nodup) : FbInv n K' := by
  obtain ⟨m, hm⟩ := I.low
  exact ⟨fun p x hx => I.rng p x (h p x hx), fun p q x h1 h2 => I.one p q x (h p x h1) (h q x h2), hnd, m, fun p x hx => hm p x (h p x hx)⟩
theorem Des.mono {K' : Int → List Int} (h : ∀ p x, x ∈ K' p → x ∈ K p) {x y : Int} (hd : Des K' x y) : Des K x y := by
  induction hd with
  | refl => exact .refl
  | step _ hy ih => exact .step ih (h _ _ hy)
end
end Go.Proofs.Ytcjjglaimfhofaa

namespace Go.Proofs.Ytcjjglaimfhofaa

def rat (l : List Int) (i : Nat) : Int := l.getD i 0
def par (d i : Nat) : Nat := (i - 1) / d
def swapL (l : List Int) (i j : Nat) : List Int := (l.set i (rat l j)).set j (rat l i)
theorem rat_set (l : List Int) (i j : Nat) (x : Int) (hi : i < l.length) : rat (l.set i x) j = if i = j then x else rat l j := by
  simp only [rat, List.getD_eq_getElem?_getD, List.getElem?_set]
  by_cases h : i = j
  · subst h; simp [hi]
  · simp [h]
theorem swap_len (l : List Int) (i j : Nat) : (swapL l i j).length = l.length := by simp [swapL]
theorem rat_swap {l : List Int} {i j : Nat} (hi : i < l.length) (hj : j < l.length) (k : Nat) : rat (swapL l i j) k = if k = j then rat l i else if k = i then rat l j else rat l k := by
  unfold swapL
  rw [rat_set _ _ _ _ (by simpa using hj), rat_set _ _ _ _ hi]
  by_cases e : k = j
  · rw [if_pos e, if_pos e.symm]
  · rw [if_neg e, if_neg (fun x => e x.symm)]
    by_cases e2 : k = i
    · rw [if_pos e2, if_pos e2.symm]
    · rw [if_neg e2, if_neg (fun x => e2 x.symm)]
theorem swap_self (l : List Int) (i : Nat) : swapL l i i = l := by
  unfold swapL
  rw [List.set_set]
  apply List.ext_getElem?
  intro k
  rw [List.getElem?_set]
  by_cases e : i = k
  · subst e
    by_cases h : i < l.length
    · simp [rat, List.getD_eq_getElem?_getD, h]
    · simp [h]
  · simp [e]
theorem par_lt {d i : Nat} (_hd : 1 ≤ d) (hi : 0 < i) : par d i < i := by
  unfold par
  have := Nat.div_le_self (i - 1) d
  omega
theorem par_eq {d : Nat} (hd : 1 ≤ d) {k i : Nat} (hk : 0 < k) : par d k = i ↔ d * i + 1 ≤ k ∧ k ≤ d * i + d := by
  unfold par
  constructor
  · intro e
    have h1 := Nat.div_mul_le_self (k - 1) d
    have h2 := Nat.lt_div_mul_add (a := k - 1) (b := d) (by omega)
    rw [e, Nat.mul_comm] at h1 h2
    omega
  · rintro ⟨h1, h2⟩
    have : k - 1 = d * i + (k - 1 - d * i) := by omega
    rw [this, Nat.mul_add_div (by omega), Nat.div_eq_of_lt (by omega)]
    omega

section
variable {d : Nat} {lt : Int → Int → Bool}
/-- A strict order of the things of a row. -/
structure Strict (lt : Int → Int → Bool) (l : List Int) : Prop where
  irr : ∀ i, i < l.length → lt (rat l i) (rat l i) = false
  trans : ∀ i j k, i < l.length → j < l.length → k < l.length → lt (rat l i) (rat l j) = true → lt (rat l j) (rat l k) = true → lt (rat l i) (rat l k) = true
  total : ∀ i j, i < l.length → j < l.length → i ≠ j → lt (rat l i) (rat l j) = false → lt (rat l j) (rat l i) = true
/-- No thing is ahead of that above it. -/
def Heap (d : Nat) (lt : Int → Int → Bool) (l : List Int) : Prop := ∀ i, 0 < i → i < l.length → lt (rat l i) (rat l (par d i)) = false
theorem heap_nil : Heap d lt [] := fun i _ h => by simp at h
theorem Strict.asymm {l : List Int} (s : Strict lt l) {i j : Nat} (hi : i < l.length) (hj : j < l.length) (h : lt (rat l i) (rat l j) = true) : lt (rat l j) (rat l i) = false := by
  cases e : lt (rat l j) (rat l i)
  · rfl
  · have h1 := s.trans i j i hi hj hi h e
    rw [s.irr i hi] at h1
    cases h1
/-- Not ahead of one that is ahead, or the same, of another one. -/
theorem Strict.le_trans {l : List Int} (s : Strict lt l) {i j k : Nat} (hi : i < l.length) (hj : j < l.length) (hk : k < l.length) (h1 : lt (rat l i) (rat l j) = false) (h2 : lt (rat l j) (rat l k) = false) : lt (rat l i) (rat l k) = false := by
  by_cases e : j = k
  · subst e; exact h1
  · have h3 := s.total j k hj hk e h2
    cases e2 : lt (rat l i) (rat l k)
    · rfl
    · by_cases e3 : i = j
      · subst e3; rw [h2] at e2; cases e2
      · have h4 := s.total i j hi hj e3 h1
        have h5 := s.asymm hk hj h3
        have h6 := s.trans j i k hj hi hk h4 e2
        rw [h2] at h6
        cases h6
theorem swap_strict {l : List Int} {i j : Nat} (hi : i < l.length) (hj : j < l.length) (s : Strict lt l) : Strict lt (swapL l i j) := by
  -- a place's thing is the thing of another place
  let f : Nat → Nat := fun k => if k = j then i else if k = i then j else k
  have hf : ∀ k, rat (swapL l i j) k = rat l (f k) := fun k => by
    rw [rat_swap hi hj]
    simp only [f]
    split
    · rfl
    · split <;> rfl
  have hl : ∀ k, k < l.length → f k < l.length := fun k hk => by
    simp only [f]
    split
    · exact hi
    · split
      · exact hj
      · exact hk
  have hn : ∀ k m, k ≠ m → f k ≠ f m := fun k m hkm => by
    simp only [f]
    repeat' split
    all_goals omega
  refine ⟨fun k hk => ?_, fun a b c ha hb hc h1 h2 => ?_, fun a b ha hb hab h => ?_⟩
  · rw [swap_len] at hk; rw [hf]; exact s.irr _ (hl k hk)
  · rw [swap_len] at ha hb hc; rw [hf, hf] at *; exact s.trans _ _ _ (hl a ha) (hl b hb) (hl c hc) h1 h2
  · rw [swap_len] at ha hb; rw [hf, hf] at *; exact s.total _ _ (hl a ha) (hl b hb) (hn a b hab) h

/-- All is in order, but j may be ahead of that above it. -/
structure UpInv (d : Nat) (lt : Int → Int → Bool) (l : List Int) (j : Nat) : Prop where
  jlt : j < l.length
  rest : ∀ i, 0 < i → i < l.length → i ≠ j → lt (rat l i) (rat l (par d i)) = false
  over : 0 < j → ∀ i, 0 < i → i < l.length → par d i = j → lt (rat l i) (rat l (par d j)) = false
theorem up_stop {l : List Int} {j : Nat} (U : UpInv d lt l j) (h : j = 0 ∨ lt (rat l j) (rat l (par d j)) = false) : Heap d lt l := by
  intro i h0 hi
  by_cases e : i = j
  · subst e
    rcases h with h | h
    · omega
    · exact h
  · exact U.rest i h0 hi e
theorem up_step {l : List Int} {j : Nat} (hd : 1 ≤ d) (s : Strict lt l) (U : UpInv d lt l j) (hj : 0 < j) (h : lt (rat l j) (rat l (par d j)) = true) : UpInv d lt (swapL l j (par d j)) (par d j) := by
  have hp := par_lt hd hj
  have hpl : par d j < l.length := Nat.lt_trans hp U.jlt
  have hr := fun k => rat_swap U.jlt hpl k
  refine ⟨by rw [swap_len]; exact hpl, fun i h0 hi hne => ?_, fun hp0 i h0 hi hpi => ?_⟩
  · rw [swap_len] at hi
    have hpi := par_lt hd h0
    have hpil : par d i < l.length := Nat.lt_trans hpi hi
    rw [hr i, hr (par d i), if_neg hne]
    by_cases e1 : i = j
    · subst e1
      rw [if_pos rfl, if_pos rfl]
      exact s.asymm U.jlt hpl h
    · rw [if_neg e1]
      have hb := U.rest i h0 hi e1
      by_cases e2 : par d i = par d j
      · rw [if_pos e2]
        rw [e2] at hb
        exact s.le_trans hi hpl U.jlt hb (s.asymm U.jlt hpl h)
      · rw [if_neg e2]
        by_cases e3 : par d i = j
        · rw [if_pos e3]
          exact U.over hj i h0 hi e3
        · rw [if_neg e3]; exact hb
  · rw [swap_len] at hi
    have hpp := par_lt hd hp0
    have hppl : par d (par d j) < l.length := Nat.lt_trans hpp hpl
    have hq := U.rest (par d j) hp0 hpl (by omega)
    rw [hr i, hr (par d (par d j)), if_neg (by omega : ¬ par d (par d j) = par d j), if_neg (by omega : ¬ par d (par d j) = j)]
    have hne : i ≠ par d j := by
      intro e
      have h9 := par_lt hd h0
      omega
    rw [if_neg hne]
    by_cases e1 : i = j
    · subst e1; rw [if_pos rfl]; exact hq
    · rw [if_neg e1]
      have hb := U.rest i h0 hi e1
      rw [hpi] at hb
      exact s.le_trans hi hpl hppl hb hq

/-- All is in order, but some below i may be ahead of it. -/
structure DownInv (d : Nat) (lt : Int → Int → Bool) (l : List Int) (i : Nat) : Prop where
  rest : ∀ k, 0 < k → k < l.length → par d k ≠ i → lt (rat l k) (rat l (par d k)) = false
  over : 0 < i → ∀ k, 0 < k → k < l.length → par d k = i → lt (rat l k) (rat l (par d i)) = false
theorem down_stop {l : List Int} {i : Nat} (D : DownInv d lt l i) (h : ∀ k, 0 < k → k < l.length → par d k = i → lt (rat l k) (rat l i) = false) : Heap d lt l := by
  intro k h0 hk
  by_cases e : par d k = i
  · rw [e]; exact h k h0 hk e
  · exact D.rest k h0 hk e
theorem down_step {l : List Int} {i c : Nat} (hd : 1 ≤ d) (s : Strict lt l) (D : DownInv d lt l i) (hc0 : 0 < c) (hc : c < l.length) (hci : par d c = i) (h : lt (rat l c) (rat l i) = true) (hmin : ∀ k, 0 < k → k < l.length → par d k = i → lt (rat l k) (rat l c) = false) : DownInv d lt (swapL l i c) c := by
  have hic := par_lt hd hc0
  rw [hci] at hic
  have hil : i < l.length := Nat.lt_trans hic hc
  have hr := fun k => rat_swap hil hc k
  refine ⟨fun k h0 hk hne => ?_, fun _ k h0 hk hpk => ?_⟩
  · rw [swap_len] at hk
    rw [hr k, hr (par d k), if_neg hne]
    have hpk := par_lt hd h0
    by_cases e1 : k = c
    · subst e1
      rw [if_pos rfl, if_pos hci]
      exact s.asymm hc hil h
    · rw [if_neg e1]
      by_cases e2 : k = i
      · subst e2
        rw [if_pos rfl, if_neg (by omega)]
        exact D.over h0 c hc0 hc hci
      · rw [if_neg e2]
        by_cases e3 : par d k = i
        · rw [if_pos e3]
          exact hmin k h0 hk e3
        · rw [if_neg e3]
          exact D.rest k h0 hk e3
  · rw [swap_len] at hk
    have hkc := par_lt hd h0
    rw [hpk] at hkc
    have hb := D.rest k h0 hk (by omega)
    rw [hpk] at hb
    rw [hr k, hci, hr i, if_neg (by omega), if_neg (by omega), if_neg (by omega), if_pos rfl]
    exact hb
/-- The topmost one is ahead of none, and none of it. -/
theorem heap_top {l : List Int} (hd : 1 ≤ d) (s : Strict lt l) (H : Heap d lt l) : ∀ i, i < l.length → lt (rat l i) (rat l 0) = false := by
  intro i
  induction i using Nat.strongRecOn with
  | ind i ih =>
    intro hi
    by_cases h0 : i = 0
    · subst h0; exact s.irr 0 hi
    · have hp := par_lt hd (Nat.pos_of_ne_zero h0)
      exact s.le_trans hi (Nat.lt_trans hp hi) (by omega) (H i (Nat.pos_of_ne_zero h0) hi) (ih _ hp (Nat.lt_trans hp hi))
/-- One more, at the end. -/
theorem heap_push {l : List Int} (hd : 1 ≤ d) (H : Heap d lt l) (x : Int) : UpInv d lt (l ++ [x]) l.length := by
  have hr : ∀ k, k < l.length → rat (l ++ [x]) k = rat l k := fun k hk => by
    simp [rat, List.getD_eq_getElem?_getD, List.getElem?_append_left hk]
  refine ⟨by simp, fun i h0 hi hne => ?_, fun h0 i hi0 hi hp => ?_⟩
  · simp only [List.length_append, List.length_singleton] at hi
    have hp := par_lt hd h0
    rw [hr i (by omega), hr _ (by omega)]
    exact H i h0 (by omega)
  · simp only [List.length_append, List.length_singleton] at hi
    have := par_lt hd hi0
    omega
/-- The last one is left out. -/
theorem heap_pop {l : List Int} (hd : 1 ≤ d) (H : Heap d lt l) (n : Nat) : Heap d lt (l.take n) := by
  intro i h0 hi
  have hp := par_lt hd h0
  simp only [List.length_take] at hi
  have hr : ∀ k, k < n → rat (l.take n) k = rat l k := fun k hk => by
    simp [rat, List.getD_eq_getElem?_getD, hk]
  rw [hr i (by omega), hr _ (by omega)]
  exact H i h0 (by omega)
end

/-! ### how many exchanges -/
/-- How many are above a place. -/
def depthN (d : Nat) : Nat → Nat → Nat
  | 0, _ => 0
  | f + 1, i => if i = 0 then 0 else depthN d f (par d i) + 1
theorem depth_fuel {d : Nat} (hd : 1 ≤ d) : ∀ (f g i : Nat), i ≤ f → i ≤ g → depthN d f i = depthN d g i
  | 0, g, i, hi, _ => by
    obtain rfl : i = 0 := by omega
    cases g <;> rfl
  | f + 1, 0, i, _, hi => by
    obtain rfl : i = 0 := by omega
    rfl
  | f + 1, g + 1, i, h1, h2 => by
    unfold depthN
    by_cases e : i = 0
    · rw [if_pos e, if_pos e]
    · have := par_lt hd (Nat.pos_of_ne_zero e)
      rw [if_neg e, if_neg e, depth_fuel hd f g (par d i) (by omega) (by omega)]
def depthI (d i : Nat) : Nat := depthN d i i
theorem depth_zero (d : Nat) : depthI d 0 = 0 := rfl
theorem depth_par {d : Nat} (hd : 1 ≤ d) {i : Nat} (hi : 0 < i) : depthI d i = depthI d (par d i) + 1 := by
  obtain ⟨j, rfl⟩ : ∃ j, i = j + 1 := ⟨i - 1, by omega⟩
  have := par_lt hd hi
  unfold depthI
  rw [depthN, if_neg (by omega), depth_fuel hd j (par d (j + 1)) _ (by omega) (Nat.le_refl _)]
theorem depth_mono {d : Nat} (hd : 1 ≤ d) : ∀ (j i : Nat), i ≤ j → depthI d i ≤ depthI d j := by
  intro j
  induction j using Nat.strongRecOn with
  | ind j ih =>
    intro i hij
    by_cases h0 : i = 0
    · subst h0; exact Nat.zero_le _
    · have hp := par_lt hd (i := j) (by omega)
      rw [depth_par hd (i := i) (by omega), depth_par hd (i := j) (by omega)]
      have : par d i ≤ par d j := Nat.div_le_div_right (by omega)
      have := ih (par d j) hp (par d i) this
      omega
/-- With two below each: so many levels hold so many places. -/
theorem depth2_le : ∀ (b i : Nat), i + 1 < 2 ^ (b + 1) → depthI 2 i ≤ b
  | 0, i, h => by
    obtain rfl : i = 0 := by simp at h; omega
    exact Nat.le_refl _
  | b + 1, i, h => by
    by_cases h0 : i = 0
    · subst h0; exact Nat.zero_le _
    · rw [depth_par (by omega) (Nat.pos_of_ne_zero h0)]
      have : 2 ^ (b + 1 + 1) = 2 * 2 ^ (b + 1) := by rw [Nat.pow_succ]; omega
      have := depth2_le b (par 2 i) (by unfold par; omega)
      omega
/-- An exchange moves nothing in or out. -/
theorem swap_perm {l : List Int} {i j : Nat} (hi : i < l.length) (hj : j < l.length) : (swapL l i j).Perm l := by
  have hc : ∀ x, (swapL l i j).count x = l.count x := fun x => by
    by_cases e : i = j
    · subst e; rw [swap_self]
    · have cs : ∀ (m : List Int) (k : Nat) (y : Int), k < m.length → (m.set k y).count x + (if m.getD k 0 = x then 1 else 0) = m.count x + (if y = x then 1 else 0) := by
        intro m
        induction m with
        | nil => intro k y hk; simp at hk
        | cons a r ih =>
          intro k y hk
          cases k with
          | zero => simp only [List.set_cons_zero, List.count_cons, List.getD_cons_zero, beq_iff_eq]; omega
          | succ k =>
            have := ih k y (by simpa using hk)
            simp only [List.set_cons_succ, List.count_cons, List.getD_cons_succ]
            omega
      have h1 := cs l i (rat l j) hi
      have h2 := cs (l.set i (rat l j)) j (rat l i) (by simpa using hj)
      have h3 : (l.set i (rat l j)).getD j 0 = rat l j := by
        have := rat_set l i j (rat l j) hi
        rw [if_neg e] at this
        exact this
      rw [h3] at h2
      have h4 : l.getD i 0 = rat l i := rfl
      rw [h4] at h1
      unfold swapL
      omega
  exact List.perm_iff_count.2 hc
end Go.Proofs.Ytcjjglaimfhofaa
