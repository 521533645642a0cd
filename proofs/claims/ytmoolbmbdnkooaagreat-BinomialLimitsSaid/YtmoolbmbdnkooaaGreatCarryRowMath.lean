/- Merged of CarryMath, CarryRowMath. -/
import Derived.Lib.Hide
namespace Go.Proofs.YtmoolbmbdnkooaaGreat

def inN (n : Nat) (x : Int) : Prop := 0 ≤ x ∧ x < n
/-- Each thing hangs once, and each is a cube: its i-th child has i children. -/
structure CInv (n : Nat) (K : Int → List Int) : Prop where
  rng : ∀ p x, x ∈ K p → inN n p ∧ inN n x
  one : ∀ p q x, x ∈ K p → x ∈ K q → p = q
  nodup : ∀ p, (K p).Nodup
  cube : ∀ p (i : Nat) k, (K p)[i]? = some k → (K k).length = i
def topK (K : Int → List Int) (x : Int) : Prop := ∀ p, x ∉ K p
/-- All of a tree, so many levels of it. -/
def allK (K : Int → List Int) : Nat → Int → List Int
  | 0, _ => []
  | k + 1, x => x :: (K x).flatMap (allK K k)
section
variable {n : Nat} {K : Int → List Int}
theorem CInv.less (I : CInv n K) {p x : Int} (h : x ∈ K p) : (K x).length < (K p).length := by
  obtain ⟨i, hi, e⟩ := List.getElem_of_mem h
  have := I.cube p i x (by rw [List.getElem?_eq_getElem hi, e])
  omega
theorem all_fuelK (I : CInv n K) : ∀ (k j : Nat) (x : Int), (K x).length < k → (K x).length < j → allK K k x = allK K j x
  | 0, _, _, h, _ => by omega
  | k + 1, 0, _, _, h => by omega
  | k + 1, j + 1, x, h1, h2 => by
    have : (K x).flatMap (allK K k) = (K x).flatMap (allK K j) := by
      unfold List.flatMap
      congr 1
      apply List.map_congr_left
      intro c hc
      have := I.less hc
      exact all_fuelK I k j c (by omega) (by omega)
    rw [allK, allK, this]
def treeK (K : Int → List Int) (x : Int) : List Int := allK K ((K x).length + 1) x
theorem tree_eq (I : CInv n K) (x : Int) : treeK K x = x :: (K x).flatMap (treeK K) := by
  unfold treeK
  rw [allK]
  congr 1
  unfold List.flatMap
  congr 1
  apply List.map_congr_left
  intro c hc
  have := I.less hc
  exact all_fuelK I _ _ c (by omega) (by omega)
theorem all_tree (I : CInv n K) {k : Nat} {x : Int} (h : (K x).length < k) : allK K k x = treeK K x := all_fuelK I _ _ x h (by omega)
/-- By how many children there are: what holds of all children, holds. -/
theorem CInv.ind (I : CInv n K) {P : Int → Prop} (h : ∀ x, (∀ c ∈ K x, P c) → P x) (x : Int) : P x := by
  have hgo : ∀ (k : Nat) (x : Int), (K x).length ≤ k → P x := by
    intro k
    induction k with
    | zero => intro x hx; exact h x fun c hc => by (have e : K x = [] := List.eq_nil_of_length_eq_zero (by omega)); rw [e] at hc; cases hc
    | succ k ih => intro x hx; exact h x fun c hc => ih c (by have := I.less hc; omega)
  exact hgo _ x (Nat.le_refl _)
theorem sum_pow (k : Nat) : ((List.range k).map fun i => 2 ^ i).sum + 1 = 2 ^ k := by
  induction k with
  | zero => rfl
  | succ k ih => rw [List.range_succ, List.map_append, List.sum_append, Nat.pow_succ]; simp; omega
/-- A cube of k children has 2^k things. -/
theorem tree_size (I : CInv n K) (x : Int) : (treeK K x).length = 2 ^ (K x).length := by
  refine I.ind (P := fun x => (treeK K x).length = 2 ^ (K x).length) (fun x ih => ?_) x
  rw [tree_eq I, List.length_cons, List.length_flatMap]
  have e : (K x).map (fun a => (treeK K a).length) = (List.range (K x).length).map fun i => 2 ^ i := by
    apply List.ext_getElem?
    intro i
    rw [List.getElem?_map, List.getElem?_map]
    by_cases hi : i < (K x).length
    · rw [List.getElem?_eq_getElem hi, List.getElem?_range hi]
      simp only [Option.map_some]
      rw [ih _ (List.getElem_mem hi), I.cube x i _ (List.getElem?_eq_getElem hi)]
    · rw [List.getElem?_eq_none (by omega), List.getElem?_eq_none (by simp; omega)]; rfl
  rw [e, sum_pow]
theorem mem_treeK (I : CInv n K) {x y : Int} : y ∈ treeK K x ↔ y = x ∨ ∃ c ∈ K x, y ∈ treeK K c := by
  rw [tree_eq I, List.mem_cons, List.mem_flatMap]
theorem tree_self (I : CInv n K) (x : Int) : x ∈ treeK K x := (mem_treeK I).2 (Or.inl rfl)
/-- What is in a tree, but its top, hangs below something of it. -/
theorem tree_up (I : CInv n K) {x y : Int} (h : y ∈ treeK K x) (hne : y ≠ x) : ∃ p ∈ treeK K x, y ∈ K p := by
  revert h hne
  refine I.ind (P := fun x => y ∈ treeK K x → y ≠ x → ∃ p ∈ treeK K x, y ∈ K p) (fun x ih h hne => ?_) x
  rcases (mem_treeK I).1 h with e | ⟨c, hc, hy⟩
  · exact absurd e hne
  · by_cases e : y = c
    · subst e; exact ⟨x, tree_self I x, hc⟩
    · obtain ⟨p, h1, h2⟩ := ih c hc hy e
      exact ⟨p, (mem_treeK I).2 (Or.inr ⟨c, hc, h1⟩), h2⟩
theorem tree_down (I : CInv n K) {x p y : Int} (h : p ∈ treeK K x) (hy : y ∈ K p) : y ∈ treeK K x := by
  revert h
  refine I.ind (P := fun x => p ∈ treeK K x → y ∈ treeK K x) (fun x ih h => ?_) x
  rcases (mem_treeK I).1 h with e | ⟨c, hc, hp⟩
  · subst e; exact (mem_treeK I).2 (Or.inr ⟨y, hy, tree_self I y⟩)
  · exact (mem_treeK I).2 (Or.inr ⟨c, hc, ih c hc hp⟩)
theorem tree_deg (I : CInv n K) {x y : Int} (h : y ∈ treeK K x) : (K y).length ≤ (K x).length := by
  revert h
  refine I.ind (P := fun x => y ∈ treeK K x → (K y).length ≤ (K x).length) (fun x ih h => ?_) x
  rcases (mem_treeK I).1 h with e | ⟨c, hc, hp⟩
  · rw [e]; exact Nat.le_refl _
  · have := ih c hc hp; have := I.less hc; omega
/-- Two trees that share a thing: one is within the other one. -/
theorem tree_nest (I : CInv n K) {a b y : Int} (ha : y ∈ treeK K a) (hb : y ∈ treeK K b) : a ∈ treeK K b ∨ b ∈ treeK K a := by
  have hgo : ∀ (k : Nat) (y : Int), (K a).length + (K b).length - (K y).length ≤ k → y ∈ treeK K a → y ∈ treeK K b → a ∈ treeK K b ∨ b ∈ treeK K a := by
    intro k
    induction k with
    | zero =>
      intro y hk h1 h2
      have := tree_deg I h1; have := tree_deg I h2
      by_cases e : y = a
      · subst e; exact Or.inl h2
      · obtain ⟨p, hp, hy⟩ := tree_up I h1 e
        have := I.less hy; have := tree_deg I hp; omega
    | succ k ih =>
      intro y hk h1 h2
      by_cases e : y = a
      · subst e; exact Or.inl h2
      · by_cases e2 : y = b
        · subst e2; exact Or.inr h1
        · obtain ⟨p, hp, hy⟩ := tree_up I h1 e
          obtain ⟨q, hq, hy2⟩ := tree_up I h2 e2
          have := I.one p q y hy hy2
          subst this
          have := I.less hy
          have := tree_deg I hp
          exact ih p (by omega) hp hq
  exact hgo _ y (Nat.le_refl _) ha hb
theorem top_in (I : CInv n K) {a b : Int} (ha : topK K a) (h : a ∈ treeK K b) : a = b := by
  by_cases e : a = b
  · exact e
  · obtain ⟨p, _, hp⟩ := tree_up I h e
    exact absurd hp (ha p)
theorem tree_apart (I : CInv n K) {a b y : Int} (ha : topK K a) (hb : topK K b) (h1 : y ∈ treeK K a) (h2 : y ∈ treeK K b) : a = b :=
  (tree_nest I h1 h2).elim (top_in I ha) fun h => (top_in I hb h).symm
theorem anti (I : CInv n K) {a b : Int} (h1 : a ∈ treeK K b) (h2 : b ∈ treeK K a) : a = b := by
  by_cases e : a = b
  · exact e
  · obtain ⟨p, hp, hy⟩ := tree_up I h1 e
    have := I.less hy; have := tree_deg I hp; have := tree_deg I h2; omega
theorem tree_nodup (I : CInv n K) (x : Int) : (treeK K x).Nodup := by
  refine I.ind (P := fun x => (treeK K x).Nodup) (fun x ih => ?_) x
  rw [tree_eq I, List.nodup_cons]
  refine ⟨fun h => ?_, ?_⟩
  · obtain ⟨c, hc, hx⟩ := List.mem_flatMap.1 h
    have := tree_deg I hx; have := I.less hc; omega
  · have hgo : ∀ l : List Int, (∀ c ∈ l, c ∈ K x) → l.Nodup → (l.flatMap (treeK K)).Nodup := by
      intro l
      induction l with
      | nil => intro _ _; exact List.nodup_nil
      | cons c l ih2 =>
        intro h1 h2
        obtain ⟨h3, h4⟩ := List.nodup_cons.1 h2
        rw [List.flatMap_cons, List.nodup_append]
        refine ⟨ih c (h1 c (by simp)), ih2 (fun a ha => h1 a (by simp [ha])) h4, fun a ha b hb e => ?_⟩
        subst e
        obtain ⟨c2, hc2, hb⟩ := List.mem_flatMap.1 hb
        have hne : c ≠ c2 := fun e => h3 (e ▸ hc2)
        rcases tree_nest I ha hb with h | h
        · obtain ⟨q, hq, hy⟩ := tree_up I h hne
          have := I.one x q c (h1 c (by simp)) hy
          subst this
          have := tree_deg I hq; have := I.less (h1 c2 (by simp [hc2])); omega
        · obtain ⟨q, hq, hy⟩ := tree_up I h (fun e => hne e.symm)
          have := I.one x q c2 (h1 c2 (by simp [hc2])) hy
          subst this
          have := tree_deg I hq; have := I.less (h1 c (by simp)); omega
    exact hgo (K x) (fun _ h => h) (I.nodup x)
theorem tree_in (I : CInv n K) {x y : Int} (hx : inN n x) (h : y ∈ treeK K x) : inN n y := by
  by_cases e : y = x
  · subst e; exact hx
  · obtain ⟨p, _, hp⟩ := tree_up I h e
    exact (I.rng p y hp).2
/-- What differs elsewhere alone leaves a tree as it is. -/
theorem tree_congr {K' : Int → List Int} (I : CInv n K) (I' : CInv n K') {x : Int} (h : ∀ y ∈ treeK K x, K' y = K y) : treeK K' x = treeK K x := by
  revert h
  refine I.ind (P := fun x => (∀ y ∈ treeK K x, K' y = K y) → treeK K' x = treeK K x) (fun x ih h => ?_) x
  rw [tree_eq I, tree_eq I', h x (tree_self I x)]
  congr 1
  unfold List.flatMap
  congr 1
  apply List.map_congr_left
  intro c hc
  exact ih c hc fun y hy => h y ((mem_treeK I).2 (Or.inr ⟨c, hc, hy⟩))
/-! ### link -/
def linkK (K : Int → List Int) (a b : Int) : Int → List Int := fun z => if z = a then K a ++ [b] else K z
theorem mem_link {a b p x : Int} : x ∈ linkK K a b p ↔ x ∈ K p ∨ p = a ∧ x = b := by
  unfold linkK
  by_cases h : p = a
  · rw [if_pos h, h]; simp
  · rw [if_neg h]; simp [h]
theorem link_inv (I : CInv n K) {a b : Int} (ha : inN n a) (hb : inN n b) (ta : topK K a) (tb : topK K b) (hne : a ≠ b) (hd : (K a).length = (K b).length) : CInv n (linkK K a b) := by
  refine ⟨fun p x h => ?_, fun p q x h1 h2 => ?_, fun p => ?_, fun p i k h => ?_⟩
  · rcases mem_link.1 h with h | ⟨rfl, rfl⟩
    · exact I.rng p x h
    · exact ⟨ha, hb⟩
  · rcases mem_link.1 h1 with h3 | ⟨e1, e2⟩ <;> rcases mem_link.1 h2 with h4 | ⟨e3, e4⟩
    · exact I.one p q x h3 h4
    · rw [e4] at h3; exact absurd h3 (tb p)
    · rw [e2] at h4; exact absurd h4 (tb q)
    · rw [e1, e3]
  · unfold linkK
    split
    · rw [List.nodup_append]
      exact ⟨I.nodup a, by simp, fun x hx y hy e => tb a (by rw [List.mem_singleton.1 hy] at e; rw [← e]; exact hx)⟩
    · exact I.nodup p
  · have hka : k ≠ a := fun e => by
      subst e
      have := List.mem_of_getElem? h
      rcases mem_link.1 this with h | ⟨_, e⟩
      · exact ta p h
      · exact hne e
    have e1 : linkK K a b k = K k := by unfold linkK; rw [if_neg hka]
    rw [e1]
    unfold linkK at h
    split at h
    · rw [List.getElem?_append] at h
      split at h
      · exact I.cube a i k h
      · rename_i hlt
        have h2 := List.mem_of_getElem? h
        rw [List.mem_singleton] at h2
        have h3 : i - (K a).length < 1 := by
          have := (List.getElem?_eq_some_iff.1 h).1; simpa using this
        subst h2
        omega
    · exact I.cube p i k h
/-- A tree, linked below another one: both together. -/
theorem link_tree (I : CInv n K) {a b : Int} (ha : inN n a) (hb : inN n b) (ta : topK K a) (tb : topK K b) (hne : a ≠ b) (hd : (K a).length = (K b).length) :
    treeK (linkK K a b) a = treeK K a ++ treeK K b ∧ ∀ c, topK K c → c ≠ a → treeK (linkK K a b) c = treeK K c := by
  have I' := link_inv I ha hb ta tb hne hd
  have hoff : ∀ c, a ∉ treeK K c → treeK (linkK K a b) c = treeK K c := fun c hc => tree_congr I I' fun y hy => by
    unfold linkK; rw [if_neg (fun e : y = a => hc (by rw [← e]; exact hy))]
  refine ⟨?_, fun c _ hca => hoff c fun h => hca (top_in I ta h).symm⟩
  rw [tree_eq I', tree_eq I a]
  have e : linkK K a b a = K a ++ [b] := by unfold linkK; rw [if_pos rfl]
  rw [e, List.flatMap_append]
  have e2 : (K a).flatMap (treeK (linkK K a b)) = (K a).flatMap (treeK K) := by
    unfold List.flatMap
    congr 1
    apply List.map_congr_left
    intro c hc
    exact hoff c fun h => by have := tree_deg I h; have := I.less hc; omega
  rw [e2, List.flatMap_cons, List.flatMap_nil, List.append_nil, hoff b (fun h => hne (top_in I ta h))]
  rfl
theorem top_link {a b x : Int} : topK (linkK K a b) x ↔ topK K x ∧ x ≠ b := by
  constructor
  · intro h
    exact ⟨fun p hp => h p (mem_link.2 (Or.inl hp)), fun e => h a (mem_link.2 (Or.inr ⟨rfl, e⟩))⟩
  · rintro ⟨h1, h2⟩ p hp
    rcases mem_link.1 hp with h | ⟨_, e⟩
    · exact h1 p h
    · exact h2 e
/-! ### split -/
def splitK (K : Int → List Int) (x : Int) : Int → List Int := fun z => if z = x then [] else K z
theorem mem_split {x p y : Int} : y ∈ splitK K x p ↔ y ∈ K p ∧ p ≠ x := by
  unfold splitK
  by_cases h : p = x
  · rw [if_pos h]; simp [h]
  · rw [if_neg h]; simp [h]
theorem split_inv (I : CInv n K) {x : Int} (tx : topK K x) : CInv n (splitK K x) := by
  refine ⟨fun p y h => I.rng p y (mem_split.1 h).1, fun p q y h1 h2 => I.one p q y (mem_split.1 h1).1 (mem_split.1 h2).1, fun p => ?_, fun p i k h => ?_⟩
  · unfold splitK; split
    · exact List.nodup_nil
    · exact I.nodup p
  · have hm := List.mem_of_getElem? h
    have hk : k ≠ x := fun e => tx p (e ▸ (mem_split.1 hm).1)
    have e1 : splitK K x k = K k := by unfold splitK; rw [if_neg hk]
    have e2 : splitK K x p = K p := by unfold splitK; rw [if_neg (mem_split.1 hm).2]
    rw [e1]; rw [e2] at h
    exact I.cube p i k h
end
end Go.Proofs.YtmoolbmbdnkooaaGreat

namespace Go.Proofs.YtmoolbmbdnkooaaGreat
/-! ### digits -/
def powSum (l : List Nat) : Nat := (l.map fun x => 2 ^ x).sum
theorem powSum_cons (d : Nat) (l : List Nat) : powSum (d :: l) = 2 ^ d + powSum l := by unfold powSum; rw [List.map_cons, List.sum_cons]
theorem powSum_perm {l m : List Nat} (h : l.Perm m) : powSum l = powSum m := (h.map _).sum_nat
theorem powSum_lt : ∀ (l : List Nat) (d : Nat), l.Pairwise (· > ·) → (∀ x ∈ l, x < d) → powSum l < 2 ^ d
  | [], d, _, _ => Nat.two_pow_pos d
  | e :: l, d, h, hd => by
    obtain ⟨h1, h2⟩ := List.pairwise_cons.1 h
    have i := powSum_lt l e h2 h1
    have he := hd e (by simp)
    have := Nat.pow_le_pow_right (show 0 < 2 by omega) (show e + 1 ≤ d by omega)
    rw [Nat.pow_succ] at this
    rw [powSum_cons]; omega
theorem test_desc : ∀ (l : List Nat), l.Pairwise (· > ·) → ∀ i, (powSum l).testBit i = decide (i ∈ l)
  | [], _, i => by simp [powSum]
  | d :: l, h, i => by
    obtain ⟨h1, h2⟩ := List.pairwise_cons.1 h
    have hlt := powSum_lt l d h2 h1
    have ih := test_desc l h2 i
    rw [powSum_cons]
    rcases Nat.lt_trichotomy i d with hid | hid | hid
    · rw [Nat.testBit_two_pow_add_gt hid, ih]
      simp [show i ≠ d by omega]
    · subst hid
      rw [Nat.testBit_two_pow_add_eq, Nat.testBit_lt_two_pow hlt]
      simp
    · have hni : i ∉ l := fun hm => by have := h1 i hm; omega
      rw [Nat.testBit_lt_two_pow]
      · simp [hni, show i ≠ d by omega]
      · have := Nat.pow_le_pow_right (show 0 < 2 by omega) (show d + 1 ≤ i by omega)
        rw [Nat.pow_succ] at this; omega
/-- A thing is in a strictly rising list where that digit of the sum is a one. -/
theorem test_rise {l : List Nat} (h : l.Pairwise (· < ·)) (i : Nat) : (powSum l).testBit i = decide (i ∈ l) := by
  have hr : l.reverse.Pairwise (· > ·) := List.pairwise_reverse.2 h
  have := test_desc l.reverse hr i
  rw [powSum_perm (List.reverse_perm l)] at this
  simpa using this
theorem rise_ext : ∀ (l m : List Nat), l.Pairwise (· < ·) → m.Pairwise (· < ·) → (∀ x, x ∈ l ↔ x ∈ m) → l = m
  | [], [], _, _, _ => rfl
  | [], y :: m, _, _, h => by have := (h y).2 (by simp); cases this
  | x :: l, [], _, _, h => by have := (h x).1 (by simp); cases this
  | x :: l, y :: m, hl, hm, h => by
    obtain ⟨h1, h2⟩ := List.pairwise_cons.1 hl
    obtain ⟨h3, h4⟩ := List.pairwise_cons.1 hm
    have hxy : x = y := by
      rcases List.mem_cons.1 ((h x).1 (by simp)) with e | e
      · exact e
      · rcases List.mem_cons.1 ((h y).2 (by simp)) with e2 | e2
        · exact e2.symm
        · have := h1 y e2; have := h3 x e; omega
    subst hxy
    congr 1
    refine rise_ext l m h2 h4 fun z => ⟨fun hz => ?_, fun hz => ?_⟩
    · rcases List.mem_cons.1 ((h z).1 (by simp [hz])) with e | e
      · have := h1 z hz; omega
      · exact e
    · rcases List.mem_cons.1 ((h z).2 (by simp [hz])) with e | e
      · have := h3 z hz; omega
      · exact e
theorem range_rise (k : Nat) : (List.range k).Pairwise (· < ·) := List.pairwise_lt_range
/-- A strictly rising list of places is that of the ones among its sum's digits. -/
theorem digits_eq {l : List Nat} (h : l.Pairwise (· < ·)) {k : Nat} (hk : powSum l < 2 ^ k) : l = (List.range k).filter fun i => (powSum l).testBit i := by
  refine rise_ext _ _ h ((range_rise k).filter _) fun x => ?_
  rw [List.mem_filter, test_rise h, List.mem_range]
  simp only [decide_eq_true_eq]
  refine ⟨fun hx => ⟨?_, hx⟩, fun hx => hx.2⟩
  by_cases hlt : x < k
  · exact hlt
  · have hb := test_rise h x
    rw [Nat.testBit_lt_two_pow (Nat.lt_of_lt_of_le hk (Nat.pow_le_pow_right (by omega) (by omega)))] at hb
    simp [hx] at hb
theorem digits_len {l : List Nat} (h : l.Pairwise (· < ·)) {k : Nat} (hk : powSum l < 2 ^ k) : l.length ≤ k := by
  rw [digits_eq h hk]
  exact Nat.le_trans (List.length_filter_le _ _) (by rw [List.length_range]; omega)
/-- So far: the places of the ones, one after another, as a walk from place 0 on finds them. -/
theorem digits_step (n b : Nat) : (List.range (b + 1)).filter (fun i => n.testBit i) = (List.range b).filter (fun i => n.testBit i) ++ (if n.testBit b then [b] else []) := by
  rw [List.range_succ, List.filter_append]
  congr 1
  by_cases h : n.testBit b <;> simp [h]
/-! ### rows of roots -/
section
variable {n : Nat} {K : Int → List Int}
def allR (K : Int → List Int) (l : List Int) : List Int := l.flatMap (treeK K)
theorem allR_perm {K : Int → List Int} {l m : List Int} (h : l.Perm m) : (allR K l).Perm (allR K m) := h.flatMap_right _
theorem allR_size (I : CInv n K) : ∀ (l : List Int), (allR K l).length = powSum (l.map fun x => (K x).length)
  | [] => rfl
  | x :: l => by
    have := allR_size I l
    unfold allR at this ⊢
    rw [List.flatMap_cons, List.length_append, tree_size I, this, List.map_cons, powSum_cons]
/-- Things above which there is none, each once. -/
structure Roots (n : Nat) (K : Int → List Int) (l : List Int) : Prop where
  inn : ∀ x ∈ l, inN n x
  top : ∀ x ∈ l, topK K x
  nodup : l.Nodup
theorem Roots.perm {l m : List Int} (h : Roots n K l) (p : l.Perm m) : Roots n K m :=
  ⟨fun x hx => h.inn x (p.mem_iff.2 hx), fun x hx => h.top x (p.mem_iff.2 hx), p.nodup_iff.1 h.nodup⟩
/-- A row of roots: of rising degrees. -/
structure RowK (n : Nat) (K : Int → List Int) (l : List Int) : Prop where
  inn : ∀ x ∈ l, inN n x
  top : ∀ x ∈ l, topK K x
  rise : l.Pairwise fun x y => (K x).length < (K y).length
theorem RowK.roots {l : List Int} (h : RowK n K l) : Roots n K l :=
  ⟨h.inn, h.top, h.rise.imp fun hlt e => by subst e; omega⟩
/-- Its degrees are the digits of how many things there are. -/
theorem RowK.digits (I : CInv n K) {l : List Int} (h : RowK n K l) {k : Nat} (hk : (allR K l).length < 2 ^ k) :
    (l.map fun x => (K x).length) = (List.range k).filter fun i => (allR K l).length.testBit i := by
  have hr : (l.map fun x => (K x).length).Pairwise (· < ·) := List.pairwise_map.2 h.rise
  rw [allR_size I] at hk ⊢
  exact digits_eq hr hk
theorem RowK.len (I : CInv n K) {l : List Int} (h : RowK n K l) {k : Nat} (hk : (allR K l).length < 2 ^ k) : l.length ≤ k := by
  have hr : (l.map fun x => (K x).length).Pairwise (· < ·) := List.pairwise_map.2 h.rise
  rw [allR_size I] at hk
  have := digits_len hr hk
  simpa using this
theorem mem_le_sum : ∀ {l : List Nat} {x : Nat}, x ∈ l → x ≤ l.sum
  | y :: l, x, h => by
    rw [List.sum_cons]
    rcases List.mem_cons.1 h with e | e
    · omega
    · have := mem_le_sum e; omega
theorem deg_lt (I : CInv n K) {l : List Int} {x : Int} (hx : x ∈ l) {k : Nat} (hk : (allR K l).length < 2 ^ k) : (K x).length < k := by
  have h1 : (treeK K x).length ≤ (allR K l).length := by
    unfold allR
    rw [List.length_flatMap]
    exact mem_le_sum (List.mem_map.2 ⟨x, hx, rfl⟩)
  rw [tree_size I] at h1
  exact (Nat.pow_lt_pow_iff_right (by omega : 1 < 2)).1 (Nat.lt_of_le_of_lt h1 hk)
theorem mem_allR {l : List Int} {y : Int} : y ∈ allR K l ↔ ∃ x ∈ l, y ∈ treeK K x := List.mem_flatMap
theorem allR_nodup (I : CInv n K) : ∀ {l : List Int}, Roots n K l → (allR K l).Nodup
  | [], _ => List.nodup_nil
  | x :: l, h => by
    obtain ⟨h1, h2⟩ := List.nodup_cons.1 h.nodup
    unfold allR
    rw [List.flatMap_cons, List.nodup_append]
    refine ⟨tree_nodup I x, allR_nodup I (l := l) ⟨fun y hy => h.inn y (by simp [hy]), fun y hy => h.top y (by simp [hy]), h2⟩, fun a ha b hb e => ?_⟩
    subst e
    obtain ⟨y, hy, hb⟩ := List.mem_flatMap.1 hb
    have := tree_apart I (h.top x (by simp)) (h.top y (by simp [hy])) ha hb
    subst this
    exact h1 hy
/-! ### links, one after another -/
/-- From K, with the roots l, by k links to K', with the roots l'; what comes below is not ahead. -/
inductive Links (n : Nat) (ahead : Int → Int → Prop) (K : Int → List Int) (l : List Int) : Nat → (Int → List Int) → List Int → Prop
  | start {m} : l.Perm m → Links n ahead K l 0 K m
  | link {k K' m a b r} : Links n ahead K l k K' m → m.Perm (a :: b :: r) → (K' a).length = (K' b).length → ¬ ahead b a → Links n ahead K l (k + 1) (linkK K' a b) (a :: r)
theorem Links.all {ahead : Int → Int → Prop} (I : CInv n K) {l : List Int} (hl : Roots n K l) {k : Nat} {K' : Int → List Int} {m : List Int} (h : Links n ahead K l k K' m) :
    CInv n K' ∧ Roots n K' m ∧ (allR K' m).Perm (allR K l) ∧ l.length = m.length + k ∧ (∀ p x, x ∈ K' p → x ∈ K p ∨ ¬ ahead x p ∧ p ∈ allR K l ∧ x ∈ l) ∧ (∀ p x, x ∈ K p → x ∈ K' p) ∧
    (∀ x, x ∉ l → K' x = K x) ∧ (∀ x, x ∉ l → (topK K' x ↔ topK K x)) ∧ (∀ c, topK K c → c ∉ l → treeK K' c = treeK K c) ∧ (∀ x ∈ m, x ∈ l) := by
  induction h with
  | start p =>
    exact ⟨I, hl.perm p, (allR_perm p).symm, by rw [p.length_eq, Nat.add_zero], fun p x h => Or.inl h, fun _ _ h => h, fun _ _ => rfl, fun _ _ => Iff.rfl, fun _ _ _ => rfl, fun x hx => p.mem_iff.2 hx⟩
  | @link k K' m a b r h p hd ha ih =>
    obtain ⟨I', hm, hp, hlen, hk, hk2, hoff, htop, htree, hin⟩ := ih
    have hm2 := hm.perm p
    have hia := hm2.inn a (by simp)
    have hib := hm2.inn b (by simp)
    have hta := hm2.top a (by simp)
    have htb := hm2.top b (by simp)
    obtain ⟨n1, n2⟩ := List.nodup_cons.1 hm2.nodup
    obtain ⟨n3, n4⟩ := List.nodup_cons.1 n2
    have hne : a ≠ b := fun e => n1 (by simp [e])
    have hal : a ∈ l := hin a (p.mem_iff.2 (by simp))
    have hbl : b ∈ l := hin b (p.mem_iff.2 (by simp))
    obtain ⟨t1, t2⟩ := link_tree I' hia hib hta htb hne hd
    refine ⟨link_inv I' hia hib hta htb hne hd, ⟨fun x hx => hm2.inn x ?_, fun x hx => top_link.2 ⟨hm2.top x ?_, ?_⟩, ?_⟩, ?_, ?_, fun q x hx => ?_, fun q x hx => mem_link.2 (Or.inl (hk2 q x hx)), fun x hx => ?_, fun x hx => ?_, fun c hc hcl => ?_, fun x hx => ?_⟩
    · rcases List.mem_cons.1 hx with e | e <;> simp [e]
    · rcases List.mem_cons.1 hx with e | e <;> simp [e]
    · rintro rfl
      rcases List.mem_cons.1 hx with e | e
      · exact hne e.symm
      · exact n3 e
    · exact List.nodup_cons.2 ⟨fun h => n1 (by simp [h]), n4⟩
    · refine List.Perm.trans ?_ hp
      refine List.Perm.trans ?_ (allR_perm p).symm
      unfold allR
      rw [List.flatMap_cons, List.flatMap_cons, List.flatMap_cons, t1]
      have e : r.flatMap (treeK (linkK K' a b)) = r.flatMap (treeK K') := by
        unfold List.flatMap
        congr 1
        apply List.map_congr_left
        intro c hc
        exact t2 c (hm2.top c (by simp [hc])) fun e => n1 (by simp [← e, hc])
      rw [e, List.append_assoc]
    · have := p.length_eq
      simp only [List.length_cons] at this ⊢
      omega
    · rcases mem_link.1 hx with h | ⟨rfl, rfl⟩
      · exact hk q x h
      · exact Or.inr ⟨ha, mem_allR.2 ⟨q, hal, tree_self I q⟩, hbl⟩
    · unfold linkK
      rw [if_neg (fun e : x = a => hx (e ▸ hal))]
      exact hoff x hx
    · rw [top_link, htop x hx]
      exact ⟨fun h => h.1, fun h => ⟨h, fun e => hx (e ▸ hbl)⟩⟩
    · rw [t2 c ((htop c hcl).2 hc) (fun e => hcl (e ▸ hal)), htree c hc hcl]
    · rcases List.mem_cons.1 hx with e | e
      · exact e ▸ hal
      · exact hin x (p.mem_iff.2 (by simp [e]))
end
end Go.Proofs.YtmoolbmbdnkooaaGreat
