/- Merged of CarryMath, CarryLiftMath. -/
import Derived.Lib.Hide
namespace Go.Proofs.Ytbllfokagedpeaa

def inN (n : Nat) (x : Int) : Prop := 0 ≤ x ∧ x < n
/-- Each thing hangs once, and each is a cube: its i-th child has i children. -/
structure CInv (n : Nat) (K : Int → List Int) : Prop where
  rng : ∀ p x, x ∈ K p → inN n p ∧ inN n x
  one : ∀ p q x, x ∈ K p → x ∈ K q → p = q
  nodup : ∀ p, (K p).Nodup
  cube : ∀ p (i : Nat) k, (K p)[i]? = some k → (K k).length = i
def topK (K : Int → List Int) (x : Int) : Prop := ∀ p, x ∉ K p
/-- All of a tree, so many levels of it. -/
def allK (K : Int → List Int) : Nat → Int → List Int
  | 0, _ => []
  | k + 1, x => x :: (K x).flatMap (allK K k)
section
variable {n : Nat} {K : Int → List Int}
theorem CInv.less (I : CInv n K) {p x : Int} (h : x ∈ K p) : (K x).length < (K p).length := by
  obtain ⟨i, hi, e⟩ := List.getElem_of_mem h
  have := I.cube p i x (by rw [List.getElem?_eq_getElem hi, e])
  omega
theorem all_fuelK (I : CInv n K) : ∀ (k j : Nat) (x : Int), (K x).length < k → (K x).length < j → allK K k x = allK K j x
  | 0, _, _, h, _ => by omega
  | k + 1, 0, _, _, h => by omega
  | k + 1, j + 1, x, h1, h2 => by
    have : (K x).flatMap (allK K k) = (K x).flatMap (allK K j) := by
      unfold List.flatMap
      congr 1
      apply List.map_congr_left
      intro c hc
      have := I.less hc
      exact all_fuelK I k j c (by omega) (by omega)
    rw [allK, allK, this]
def treeK (K : Int → List Int) (x : Int) : List Int := allK K ((K x).length + 1) x
theorem tree_eq (I : CInv n K) (x : Int) : treeK K x = x :: (K x).flatMap (treeK K) := by
  unfold treeK
  rw [allK]
  congr 1
  unfold List.flatMap
  congr 1
  apply List.map_congr_left
  intro c hc
  have := I.less hc
  exact all_fuelK I _ _ c (by omega) (by omega)
theorem all_tree (I : CInv n K) {k : Nat} {x : Int} (h : (K x).length < k) : allK K k x = treeK K x := all_fuelK I _ _ x h (by omega)
/-- By how many children there are: what holds of all children, holds. -/
theorem CInv.ind (I : CInv n K) {P : Int → Prop} (h : ∀ x, (∀ c ∈ K x, P c) → P x) (x : Int) : P x := by
  have hgo : ∀ (k : Nat) (x : Int), (K x).length ≤ k → P x := by
    intro k
    induction k with
    | zero => intro x hx; exact h x fun c hc => by (have e : K x = [] := List.eq_nil_of_length_eq_zero (by omega)); rw [e] at hc; cases hc
    | succ k ih => intro x hx; exact h x fun c hc => ih c (by have := I.less hc; omega)
  exact hgo _ x (Nat.le_refl _)
theorem sum_pow (k : Nat) : ((List.range k).map fun i => 2 ^ i).sum + 1 = 2 ^ k := by
  induction k with
  | zero => rfl
  | succ k ih => rw [List.range_succ, List.map_append, List.sum_append, Nat.pow_succ]; simp; omega
/-- A cube of k children has 2^k things. -/
theorem tree_size (I : CInv n K) (x : Int) : (treeK K x).length = 2 ^ (K x).length := by
  refine I.ind (P := fun x => (treeK K x).length = 2 ^ (K x).length) (fun x ih => ?_) x
  rw [tree_eq I, List.length_cons, List.length_flatMap]
  have e : (K x).map (fun a => (treeK K a).length) = (List.range (K x).length).map fun i => 2 ^ i := by
    apply List.ext_getElem?
    intro i
    rw [List.getElem?_map, List.getElem?_map]
    by_cases hi : i < (K x).length
    · rw [List.getElem?_eq_getElem hi, List.getElem?_range hi]
      simp only [Option.map_some]
      rw [ih _ (List.getElem_mem hi), I.cube x i _ (List.getElem?_eq_getElem hi)]
    · rw [List.getElem?_eq_none (by omega), List.getElem?_eq_none (by simp; omega)]; rfl
  rw [e, sum_pow]
theorem mem_treeK (I : CInv n K) {x y : Int} : y ∈ treeK K x ↔ y = x ∨ ∃ c ∈ K x, y ∈ treeK K c := by
  rw [tree_eq I, List.mem_cons, List.mem_flatMap]
theorem tree_self (I : CInv n K) (x : Int) : x ∈ treeK K x := (mem_treeK I).2 (Or.inl rfl)
/-- What is in a tree, but its top, hangs below something of it. -/
theorem tree_up (I : CInv n K) {x y : Int} (h : y ∈ treeK K x) (hne : y ≠ x) : ∃ p ∈ treeK K x, y ∈ K p := by
  revert h hne
  refine I.ind (P := fun x => y ∈ treeK K x → y ≠ x → ∃ p ∈ treeK K x, y ∈ K p) (fun x ih h hne => ?_) x
  rcases (mem_treeK I).1 h with e | ⟨c, hc, hy⟩
  · exact absurd e hne
  · by_cases e : y = c
    · subst e; exact ⟨x, tree_self I x, hc⟩
    · obtain ⟨p, h1, h2⟩ := ih c hc hy e
      exact ⟨p, (mem_treeK I).2 (Or.inr ⟨c, hc, h1⟩), h2⟩
theorem tree_down (I : CInv n K) {x p y : Int} (h : p ∈ treeK K x) (hy : y ∈ K p) : y ∈ treeK K x := by
  revert h
  refine I.ind (P := fun x => p ∈ treeK K x → y ∈ treeK K x) (fun x ih h => ?_) x
  rcases (mem_treeK I).1 h with e | ⟨c, hc, hp⟩
  · subst e; exact (mem_treeK I).2 (Or.inr ⟨y, hy, tree_self I y⟩)
  · exact (mem_treeK I).2 (Or.inr ⟨c, hc, ih c hc hp⟩)
theorem tree_deg (I : CInv n K) {x y : Int} (h : y ∈ treeK K x) : (K y).length ≤ (K x).length := by
  revert h
  refine I.ind (P := fun x => y ∈ treeK K x → (K y).length ≤ (K x).length) (fun x ih h => ?_) x
  rcases (mem_treeK I).1 h with e | ⟨c, hc, hp⟩
  · rw [e]; exact Nat.le_refl _
  · have := ih c hc hp; have := I.less hc; omega
/-- Two trees that share a thing: one is within the other one. -/
theorem tree_nest (I : CInv n K) {a b y : Int} (ha : y ∈ treeK K a) (hb : y ∈ treeK K b) : a ∈ treeK K b ∨ b ∈ treeK K a := by
  have hgo : ∀ (k : Nat) (y : Int), (K a).length + (K b).length - (K y).length ≤ k → y ∈ treeK K a → y ∈ treeK K b → a ∈ treeK K b ∨ b ∈ treeK K a := by
    intro k
    induction k with
    | zero =>
      intro y hk h1 h2
      have := tree_deg I h1; have := tree_deg I h2
      by_cases e : y = a
      · subst e; exact Or.inl h2
      · obtain ⟨p, hp, hy⟩ := tree_up I h1 e
        have := I.less hy; have := tree_deg I hp; omega
    | succ k ih =>
      intro y hk h1 h2
      by_cases e : y = a
      · subst e; exact Or.inl h2
      · by_cases e2 : y = b
        · subst e2; exact Or.inr h1
        · obtain ⟨p, hp, hy⟩ := tree_up I h1 e
          obtain ⟨q, hq, hy2⟩ := tree_up I h2 e2
          have := I.one p q y hy hy2
          subst this
          have := I.less hy
          have := tree_deg I hp
          exact ih p (by omega) hp hq
  exact hgo _ y (Nat.le_refl _) ha hb
theorem top_in (I : CInv n K) {a b : Int} (ha : topK K a) (h : a ∈ treeK K b) : a = b := by
  by_cases e : a = b
  · exact e
  · obtain ⟨p, _, hp⟩ := tree_up I h e
    exact absurd hp (ha p)
theorem tree_apart (I : CInv n K) {a b y : Int} (ha : topK K a) (hb : topK K b) (h1 : y ∈ treeK K a) (h2 : y ∈ treeK K b) : a = b :=
  (tree_nest I h1 h2).elim (top_in I ha) fun h => (top_in I hb h).symm
theorem anti (I : CInv n K) {a b : Int} (h1 : a ∈ treeK K b) (h2 : b ∈ treeK K a) : a = b := by
  by_cases e : a = b
  · exact e
  · obtain ⟨p, hp, hy⟩ := tree_up I h1 e
    have := I.less hy; have := tree_deg I hp; have := tree_deg I h2; omega
theorem tree_nodup (I : CInv n K) (x : Int) : (treeK K x).Nodup := by
  refine I.ind (P := fun x => (treeK K x).Nodup) (fun x ih => ?_) x
  rw [tree_eq I, List.nodup_cons]
  refine ⟨fun h => ?_, ?_⟩
  · obtain ⟨c, hc, hx⟩ := List.mem_flatMap.1 h
    have := tree_deg I hx; have := I.less hc; omega
  · have hgo : ∀ l : List Int, (∀ c ∈ l, c ∈ K x) → l.Nodup → (l.flatMap (treeK K)).Nodup := by
      intro l
      induction l with
      | nil => intro _ _; exact List.nodup_nil
      | cons c l ih2 =>
        intro h1 h2
        obtain ⟨h3, h4⟩ := List.nodup_cons.1 h2
        rw [List.flatMap_cons, List.nodup_append]
        refine ⟨ih c (h1 c (by simp)), ih2 (fun a ha => h1 a (by simp [ha])) h4, fun a ha b hb e => ?_⟩
        subst e
        obtain ⟨c2, hc2, hb⟩ := List.mem_flatMap.1 hb
        have hne : c ≠ c2 := fun e => h3 (e ▸ hc2)
        rcases tree_nest I ha hb with h | h
        · obtain ⟨q, hq, hy⟩ := tree_up I h hne
          have := I.one x q c (h1 c (by simp)) hy
          subst this
          have := tree_deg I hq; have := I.less (h1 c2 (by simp [hc2])); omega
        · obtain ⟨q, hq, hy⟩ := tree_up I h (fun e => hne e.symm)
          have := I.one x q c2 (h1 c2 (by simp [hc2])) hy
          subst this
          have := tree_deg I hq; have := I.less (h1 c (by simp)); omega
    exact hgo (K x) (fun _ h => h) (I.nodup x)
theorem tree_in (I : CInv n K) {x y : Int} (hx : inN n x) (h : y ∈ treeK K x) : inN n y := by
  by_cases e : y = x
  · subst e; exact hx
  · obtain ⟨p, _, hp⟩ := tree_up I h e
    exact (I.rng p y hp).2
/-- What differs elsewhere alone leaves a tree as it is. -/
theorem tree_congr {K' : Int → List Int} (I : CInv n K) (I' : CInv n K') {x : Int} (h : ∀ y ∈ treeK K x, K' y = K y) : treeK K' x = treeK K x := by
  revert h
  refine I.ind (P := fun x => (∀ y ∈ treeK K x, K' y = K y) → treeK K' x = treeK K x) (fun x ih h => ?_) x
  rw [tree_eq I, tree_eq I', h x (tree_self I x)]
  congr 1
  unfold List.flatMap
  congr 1
  apply List.map_congr_left
  intro c hc
  exact ih c hc fun y hy => h y ((mem_treeK I).2 (Or.inr ⟨c, hc, hy⟩))
/-! ### link -/
def linkK (K : Int → List Int) (a b : Int) : Int → List Int := fun z => if z = a then K a ++ [b] else K z
theorem mem_link {a b p x : Int} : x ∈ linkK K a b p ↔ x ∈ K p ∨ p = a ∧ x = b := by
  unfold linkK
  by_cases h : p = a
  · rw [if_pos h, h]; simp
  · rw [if_neg h]; simp [h]
theorem link_inv (I : CInv n K) {a b : Int} (ha : inN n a) (hb : inN n b) (ta : topK K a) (tb : topK K b) (hne : a ≠ b) (hd : (K a).length = (K b).length) : CInv n (linkK K a b) := by
  refine ⟨fun p x h => ?_, fun p q x h1 h2 => ?_, fun p => ?_, fun p i k h => ?_⟩
  · rcases mem_link.1 h with h | ⟨rfl, rfl⟩
    · exact I.rng p x h
    · exact ⟨ha, hb⟩
  · rcases mem_link.1 h1 with h3 | ⟨e1, e2⟩ <;> rcases mem_link.1 h2 with h4 | ⟨e3, e4⟩
    · exact I.one p q x h3 h4
    · rw [e4] at h3; exact absurd h3 (tb p)
    · rw [e2] at h4; exact absurd h4 (tb q)
    · rw [e1, e3]
  · unfold linkK
    split
    · rw [List.nodup_append]
      exact ⟨I.nodup a, by simp, fun x hx y hy e => tb a (by rw [List.mem_singleton.1 hy] at e; rw [← e]; exact hx)⟩
    · exact I.nodup p
  · have hka : k ≠ a := fun e => by
      subst e
      have := List.mem_of_getElem? h
      rcases mem_link.1 this with h | ⟨_, e⟩
      · exact ta p h
      · exact hne e
    have e1 : linkK K a b k = K k := by unfold linkK; rw [if_neg hka]
    rw [e1]
    unfold linkK at h
    split at h
    · rw [List.getElem?_append] at h
      split at h
      · exact I.cube a i k h
      · rename_i hlt
        have h2 := List.mem_of_getElem? h
        rw [List.mem_singleton] at h2
        have h3 : i - (K a).length < 1 := by
          have := (List.getElem?_eq_some_iff.1 h).1; simpa using this
        subst h2
        omega
    · exact I.cube p i k h
/-- A tree, linked below another one: both together. -/
theorem link_tree (I : CInv n K) {a b : Int} (ha : inN n a) (hb : inN n b) (ta : topK K a) (tb : topK K b) (hne : a ≠ b) (hd : (K a).length = (K b).length) :
    treeK (linkK K a b) a = treeK K a ++ treeK K b ∧ ∀ c, topK K c → c ≠ a → treeK (linkK K a b) c = treeK K c := by
  have I' := link_inv I ha hb ta tb hne hd
  have hoff : ∀ c, a ∉ treeK K c → treeK (linkK K a b) c = treeK K c := fun c hc => tree_congr I I' fun y hy => by
    unfold linkK; rw [if_neg (fun e : y = a => hc (by rw [← e]; exact hy))]
  refine ⟨?_, fun c _ hca => hoff c fun h => hca (top_in I ta h).symm⟩
  rw [tree_eq I', tree_eq I a]
  have e : linkK K a b a = K a ++ [b] := by unfold linkK; rw [if_pos rfl]
  rw [e, List.flatMap_append]
  have e2 : (K a).flatMap (treeK (linkK K a b)) = (K a).flatMap (treeK K) := by
    unfold List.flatMap
    congr 1
    apply List.map_congr_left
    intro c hc
    exact hoff c fun h => by have := tree_deg I h; have := I.less hc; omega
  rw [e2, List.flatMap_cons, List.flatMap_nil, List.append_nil, hoff b (fun h => hne (top_in I ta h))]
  rfl
theorem top_link {a b x : Int} : topK (linkK K a b) x ↔ topK K x ∧ x ≠ b := by
  constructor
  · intro h
    exact ⟨fun p hp => h p (mem_link.2 (Or.inl hp)), fun e => h a (mem_link.2 (Or.inr ⟨rfl, e⟩))⟩
  · rintro ⟨h1, h2⟩ p hp
    rcases mem_link.1 hp with h | ⟨_, e⟩
    · exact h1 p h
    · exact h2 e
/-! ### split -/
def splitK (K : Int → List Int) (x : Int) : Int → List Int := fun z => if z = x then [] else K z
theorem mem_split {x p y : Int} : y ∈ splitK K x p ↔ y ∈ K p ∧ p ≠ x := by
  unfold splitK
  by_cases h : p = x
  · rw [if_pos h]; simp [h]
  · rw [if_neg h]; simp [h]
theorem split_inv (I : CInv n K) {x : Int} (tx : topK K x) : CInv n (splitK K x) := by
  refine ⟨fun p y h => I.rng p y (mem_split.1 h).1, fun p q y h1 h2 => I.one p q y (mem_split.1 h1).1 (mem_split.1 h2).1, fun p => ?_, fun p i k h => ?_⟩
  · unfold splitK; split
    · exact List.nodup_nil
    · exact I.nodup p
  · have hm := List.mem_of_getElem? h
    have hk : k ≠ x := fun e => tx p (e ▸ (mem_split.1 hm).1)
    have e1 : splitK K x k = K k := by unfold splitK; rw [if_neg hk]
    have e2 : splitK K x p = K p := by unfold splitK; rw [if_neg (mem_split.1 hm).2]
    rw [e1]; rw [e2] at h
    exact I.cube p i k h
end
end Go.Proofs.Ytbllfokagedpeaa

namespace Go.Proofs.Ytbllfokagedpeaa

/-- x and p exchanged. -/
def swK (x p z : Int) : Int := if z = x then p else if z = p then x else z
theorem sw_sw (x p z : Int) : swK x p (swK x p z) = z := by
  unfold swK
  by_cases h1 : z = x
  · subst h1
    rw [if_pos rfl]
    by_cases h2 : p = z
    · rw [if_pos h2, h2]
    · rw [if_neg h2, if_pos rfl]
  · rw [if_neg h1]
    by_cases h2 : z = p
    · subst h2; rw [if_pos rfl, if_pos rfl]
    · rw [if_neg h2, if_neg h1, if_neg h2]
theorem sw_x (x p : Int) : swK x p x = p := by unfold swK; rw [if_pos rfl]
theorem sw_p (x p : Int) : swK x p p = x := by
  unfold swK
  by_cases h : p = x
  · rw [if_pos h, h]
  · rw [if_neg h, if_pos rfl]
theorem sw_else {x p z : Int} (h1 : z ≠ x) (h2 : z ≠ p) : swK x p z = z := by unfold swK; rw [if_neg h1, if_neg h2]
theorem sw_inj {x p a b : Int} (h : swK x p a = swK x p b) : a = b := by rw [← sw_sw x p a, h, sw_sw]
def liftK (K : Int → List Int) (x p : Int) : Int → List Int := fun z => (K (swK x p z)).map (swK x p)
theorem mem_lift {K : Int → List Int} {x p z y : Int} : y ∈ liftK K x p z ↔ swK x p y ∈ K (swK x p z) := by
  unfold liftK
  rw [List.mem_map]
  constructor
  · rintro ⟨a, ha, rfl⟩; rw [sw_sw]; exact ha
  · intro h; exact ⟨_, h, sw_sw x p y⟩
theorem lift_deg (K : Int → List Int) (x p z : Int) : (liftK K x p z).length = (K (swK x p z)).length := by simp [liftK]
theorem sw_in {n : Nat} {x p z : Int} (hx : inN n x) (hp : inN n p) (h : inN n z) : inN n (swK x p z) := by
  unfold swK; split
  · exact hp
  · split
    · exact hx
    · exact h
section
variable {n : Nat} {K : Int → List Int}
theorem lift_inv (I : CInv n K) {x p : Int} (h : x ∈ K p) : CInv n (liftK K x p) := by
  obtain ⟨hp, hx⟩ := I.rng p x h
  refine ⟨fun q y hy => ?_, fun q r y h1 h2 => ?_, fun q => ?_, fun q i k hk => ?_⟩
  · obtain ⟨h1, h2⟩ := I.rng _ _ (mem_lift.1 hy)
    have h3 := sw_in hx hp h1
    have h4 := sw_in hx hp h2
    rw [sw_sw] at h3 h4
    exact ⟨h3, h4⟩
  · exact sw_inj (I.one _ _ _ (mem_lift.1 h1) (mem_lift.1 h2))
  · unfold liftK
    rw [List.nodup_iff_pairwise_ne, List.pairwise_map]
    exact (I.nodup (swK x p q)).imp (fun hne e => hne (sw_inj e))
  · unfold liftK at hk
    rw [List.getElem?_map, Option.map_eq_some_iff] at hk
    obtain ⟨c, hc, rfl⟩ := hk
    rw [lift_deg, sw_sw]
    exact I.cube _ i c hc
theorem lift_top {x p z : Int} : topK (liftK K x p) z ↔ topK K (swK x p z) := by
  constructor
  · intro h q hq
    exact h (swK x p q) (mem_lift.2 (by rw [sw_sw]; exact hq))
  · intro h q hq
    exact h _ (mem_lift.1 hq)
/-- .. as the document has it: one thing in the place of another one. -/
def putL (l : List Int) (x y : Int) : List Int := l.map fun z => if z = x then y else z
theorem put_not {l : List Int} {x y : Int} (h : x ∉ l) : putL l x y = l := by
  unfold putL
  conv => rhs; rw [← List.map_id l]
  apply List.map_congr_left
  intro z hz
  rw [if_neg (fun e : z = x => h (by rw [← e]; exact hz))]; rfl
theorem lift_doc (I : CInv n K) {x p : Int} (h : x ∈ K p) (z : Int) : liftK K x p z = if z = x then putL (K p) x p else if z = p then K x else putL (K z) p x := by
  have hxp := I.less h
  have pp : p ∉ K p := fun e => by have := I.less e; omega
  have px : p ∉ K x := fun e => by have := I.less e; omega
  have xx : x ∉ K x := fun e => by have := I.less e; omega
  have hmap : ∀ l : List Int, p ∉ l → l.map (swK x p) = putL l x p := fun l hl => by
    unfold putL
    apply List.map_congr_left
    intro a ha
    unfold swK
    by_cases e : a = x
    · rw [if_pos e, if_pos e]
    · rw [if_neg e, if_neg e, if_neg (fun e2 : a = p => hl (by rw [← e2]; exact ha))]
  unfold liftK
  by_cases h1 : z = x
  · rw [if_pos h1, h1, sw_x]; exact hmap _ pp
  · rw [if_neg h1]
    by_cases h2 : z = p
    · rw [if_pos h2, h2, sw_p, hmap _ px, put_not xx]
    · rw [if_neg h2, sw_else h1 h2]
      unfold putL
      apply List.map_congr_left
      intro a ha
      have hax : a ≠ x := fun e => h2 (I.one z p x (e ▸ ha) h)
      unfold swK
      rw [if_neg hax]
/-! ### all above a thing -/
def Anc (K : Int → List Int) : Int → List Int → Prop
  | x, [] => topK K x
  | x, p :: l => x ∈ K p ∧ Anc K p l
theorem anc_deg (I : CInv n K) : ∀ {l : List Int} {x : Int}, Anc K x l → ∀ q ∈ l, (K x).length < (K q).length
  | [], _, _, q, hq => by cases hq
  | p :: l, x, h, q, hq => by
    have h1 := I.less h.1
    rcases List.mem_cons.1 hq with e | hq
    · rw [e]; exact h1
    · have := anc_deg I h.2 q hq; omega
theorem anc_len (I : CInv n K) : ∀ {l : List Int} {x : Int}, Anc K x l → (K x).length + l.length ≤ (K ((x :: l).getLast (by simp))).length
  | [], x, _ => Nat.le_refl _
  | p :: l, x, h => by
    have h1 := I.less h.1
    have h2 := anc_len I h.2
    rw [List.getLast_cons (by simp)]
    simp only [List.length_cons]
    omega
theorem anc_top : ∀ {l : List Int} {x : Int}, Anc K x l → topK K ((x :: l).getLast (by simp))
  | [], _, h => h
  | p :: l, x, h => by rw [List.getLast_cons (by simp)]; exact anc_top h.2
/-- There is such a list. -/
theorem anc_ex (I : CInv n K) (x : Int) : ∃ l, Anc K x l := by
  have hb : ∀ y, (K y).length ≤ n := fun y => by
    have h := tree_size I y
    have hgo : ∀ (m : Nat) (l : List Nat), l.Nodup → (∀ x ∈ l, x < m) → l.length ≤ m := fun m => by
      induction m with
      | zero =>
        intro l _ h
        cases l with
        | nil => exact Nat.le_refl _
        | cons a r => exact absurd (h a (by simp)) (by omega)
      | succ m ih =>
        intro l hn h
        have h1 := ih (l.erase m) (hn.erase m) (fun x hx => by
          have h1 := (List.Nodup.mem_erase_iff hn).1 hx
          have h2 := h x h1.2
          have h3 := h1.1
          omega)
        have := List.length_erase (a := m) (l := l)
        split at this <;> omega
    by_cases hy : inN n y
    · have h2 := hgo n ((treeK K y).map Int.toNat) (by
        rw [List.nodup_iff_pairwise_ne, List.pairwise_map]
        refine (tree_nodup I y).imp_of_mem ?_
        intro a b ha hb hne e
        have h1 := tree_in I hy ha
        have h2 := tree_in I hy hb
        unfold inN at h1 h2
        omega) (fun z hz => by
        obtain ⟨a, ha, rfl⟩ := List.mem_map.1 hz
        have := tree_in I hy ha
        unfold inN at this
        omega)
      rw [List.length_map, h] at h2
      have := Nat.lt_two_pow_self (n := (K y).length)
      omega
    · cases e : K y with
      | nil => simp
      | cons a r => exact absurd (I.rng y a (by rw [e]; simp)).1 hy
  have hgo : ∀ (k : Nat) (x : Int), n - (K x).length ≤ k → ∃ l, Anc K x l := by
    intro k
    induction k with
    | zero =>
      intro x hk
      refine ⟨[], fun p hp => ?_⟩
      have := I.less hp; have := hb p; omega
    | succ k ih =>
      intro x hk
      by_cases h : ∃ p, x ∈ K p
      · obtain ⟨p, hp⟩ := h
        have := I.less hp; have := hb p
        obtain ⟨l, hl⟩ := ih p (by omega)
        exact ⟨p :: l, hp, hl⟩
      · exact ⟨[], fun p hp => h ⟨p, hp⟩⟩
  exact hgo _ x (Nat.le_refl _)
/-- What lies above both is as it was. -/
theorem anc_else {x p : Int} : ∀ {l : List Int} {q : Int}, q ≠ x → q ≠ p → (∀ r ∈ l, r ≠ x ∧ r ≠ p) → Anc K q l → Anc (liftK K x p) q l
  | [], q, h1, h2, _, h => lift_top.2 (by rw [sw_else h1 h2]; exact h)
  | r :: l, q, h1, h2, h3, h => by
    obtain ⟨h4, h5⟩ := h3 r (by simp)
    exact ⟨mem_lift.2 (by rw [sw_else h1 h2, sw_else h4 h5]; exact h.1), anc_else h4 h5 (fun a ha => h3 a (by simp [ha])) h.2⟩
/-- Lifted, a thing is where that above it was. -/
theorem anc_lift (I : CInv n K) {x p : Int} {l : List Int} (h : Anc K x (p :: l)) : Anc (liftK K x p) x l := by
  have hd := anc_deg I h.2
  have hxp := I.less h.1
  have hne : ∀ r ∈ l, r ≠ x ∧ r ≠ p := fun r hr => ⟨fun e => by have := hd r hr; rw [e] at this; omega, fun e => by have := hd r hr; rw [e] at this; omega⟩
  cases l with
  | nil => exact lift_top.2 (by rw [sw_x]; exact h.2)
  | cons q l =>
    obtain ⟨h4, h5⟩ := hne q (by simp)
    exact ⟨mem_lift.2 (by rw [sw_x, sw_else h4 h5]; exact h.2.1), anc_else h4 h5 (fun a ha => hne a (by simp [ha])) h.2.2⟩
theorem top_lift (I : CInv n K) {x p : Int} {l : List Int} (h : Anc K x (p :: l)) : (liftK K x p ((x :: l).getLast (by simp))).length = (K ((x :: p :: l).getLast (by simp))).length := by
  rw [lift_deg]
  cases l with
  | nil => rw [List.getLast_singleton, sw_x]; rfl
  | cons q l =>
    have hd := anc_deg I h.2
    have hxp := I.less h.1
    have hm : (q :: l).getLast (by simp) ∈ q :: l := List.getLast_mem _
    have h1 := hd _ hm
    have e1 : (x :: q :: l).getLast (by simp) = (q :: l).getLast (by simp) := List.getLast_cons (by simp)
    have e2 : (x :: p :: q :: l).getLast (by simp) = (q :: l).getLast (by simp) := by rw [List.getLast_cons (by simp), List.getLast_cons (by simp)]
    rw [e1, e2]
    rw [sw_else (fun e => by rw [e] at h1; omega) (fun e => by rw [e] at h1; omega)]
end
end Go.Proofs.Ytbllfokagedpeaa
