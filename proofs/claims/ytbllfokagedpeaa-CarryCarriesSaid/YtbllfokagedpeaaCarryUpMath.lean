/- Merged of CarryRowMath, CarryUpMath. -/
import Derived.Test.YtbllfokagedpeaaCarryLiftMath
namespace Go.Proofs.Ytbllfokagedpeaa
/-! ### digits -/
def powSum (l : List Nat) : Nat := (l.map fun x => 2 ^ x).sum
theorem powSum_cons (d : Nat) (l : List Nat) : powSum (d :: l) = 2 ^ d + powSum l := by unfold powSum; rw [List.map_cons, List.sum_cons]
theorem powSum_perm {l m : List Nat} (h : l.Perm m) : powSum l = powSum m := (h.map _).sum_nat
theorem powSum_lt : ∀ (l : List Nat) (d : Nat), l.Pairwise (· > ·) → (∀ x ∈ l, x < d) → powSum l < 2 ^ d
  | [], d, _, _ => Nat.two_pow_pos d
  | e :: l, d, h, hd => by
    obtain ⟨h1, h2⟩ := List.pairwise_cons.1 h
    have i := powSum_lt l e h2 h1
    have he := hd e (by simp)
    have := Nat.pow_le_pow_right (show 0 < 2 by omega) (show e + 1 ≤ d by omega)
    rw [Nat.pow_succ] at this
    rw [powSum_cons]; omega
theorem test_desc : ∀ (l : List Nat), l.Pairwise (· > ·) → ∀ i, (powSum l).testBit i = decide (i ∈ l)
  | [], _, i => by simp [powSum]
  | d :: l, h, i => by
    obtain ⟨h1, h2⟩ := List.pairwise_cons.1 h
    have hlt := powSum_lt l d h2 h1
    have ih := test_desc l h2 i
    rw [powSum_cons]
    rcases Nat.lt_trichotomy i d with hid | hid | hid
    · rw [Nat.testBit_two_pow_add_gt hid, ih]
      simp [show i ≠ d by omega]
    · subst hid
      rw [Nat.testBit_two_pow_add_eq, Nat.testBit_lt_two_pow hlt]
      simp
    · have hni : i ∉ l := fun hm => by have := h1 i hm; omega
      rw [Nat.testBit_lt_two_pow]
      · simp [hni, show i ≠ d by omega]
      · have := Nat.pow_le_pow_right (show 0 < 2 by omega) (show d + 1 ≤ i by omega)
        rw [Nat.pow_succ] at this; omega
/-- A thing is in a strictly rising list where that digit of the sum is a one. -/
theorem test_rise {l : List Nat} (h : l.Pairwise (· < ·)) (i : Nat) : (powSum l).testBit i = decide (i ∈ l) := by
  have hr : l.reverse.Pairwise (· > ·) := List.pairwise_reverse.2 h
  have := test_desc l.reverse hr i
  rw [powSum_perm (List.reverse_perm l)] at this
  simpa using this
theorem rise_ext : ∀ (l m : List Nat), l.Pairwise (· < ·) → m.Pairwise (· < ·) → (∀ x, x ∈ l ↔ x ∈ m) → l = m
  | [], [], _, _, _ => rfl
  | [], y :: m, _, _, h => by have := (h y).2 (by simp); cases this
  | x :: l, [], _, _, h => by have := (h x).1 (by simp); cases this
  | x :: l, y :: m, hl, hm, h => by
    obtain ⟨h1, h2⟩ := List.pairwise_cons.1 hl
    obtain ⟨h3, h4⟩ := List.pairwise_cons.1 hm
    have hxy : x = y := by
      rcases List.mem_cons.1 ((h x).1 (by simp)) with e | e
      · exact e
      · rcases List.mem_cons.1 ((h y).2 (by simp)) with e2 | e2
        · exact e2.symm
        · have := h1 y e2; have := h3 x e; omega
    subst hxy
    congr 1
    refine rise_ext l m h2 h4 fun z => ⟨fun hz => ?_, fun hz => ?_⟩
    · rcases List.mem_cons.1 ((h z).1 (by simp [hz])) with e | e
      · have := h1 z hz; omega
      · exact e
    · rcases List.mem_cons.1 ((h z).2 (by simp [hz])) with e | e
      · have := h3 z hz; omega
      · exact e
theorem range_rise (k : Nat) : (List.range k).Pairwise (· < ·) := List.pairwise_lt_range
/-- A strictly rising list of places is that of the ones among its sum's digits. -/
theorem digits_eq {l : List Nat} (h : l.Pairwise (· < ·)) {k : Nat} (hk : powSum l < 2 ^ k) : l = (List.range k).filter fun i => (powSum l).testBit i := by
  refine rise_ext _ _ h ((range_rise k).filter _) fun x => ?_
  rw [List.mem_filter, test_rise h, List.mem_range]
  simp only [decide_eq_true_eq]
  refine ⟨fun hx => ⟨?_, hx⟩, fun hx => hx.2⟩
  by_cases hlt : x < k
  · exact hlt
  · have hb := test_rise h x
    rw [Nat.testBit_lt_two_pow (Nat.lt_of_lt_of_le hk (Nat.pow_le_pow_right (by omega) (by omega)))] at hb
    simp [hx] at hb
theorem digits_len {l : List Nat} (h : l.Pairwise (· < ·)) {k : Nat} (hk : powSum l < 2 ^ k) : l.length ≤ k := by
  rw [digits_eq h hk]
  exact Nat.le_trans (List.length_filter_le _ _) (by rw [List.length_range]; omega)
/-- So far: the places of the ones, one after another, as a walk from place 0 on finds them. -/
theorem digits_step (n b : Nat) : (List.range (b + 1)).filter (fun i => n.testBit i) = (List.range b).filter (fun i => n.testBit i) ++ (if n.testBit b then [b] else []) := by
  rw [List.range_succ, List.filter_append]
  congr 1
  by_cases h : n.testBit b <;> simp [h]
/-! ### rows of roots -/
section
variable {n : Nat} {K : Int → List Int}
def allR (K : Int → List Int) (l : List Int) : List Int := l.flatMap (treeK K)
theorem allR_perm {K : Int → List Int} {l m : List Int} (h : l.Perm m) : (allR K l).Perm (allR K m) := h.flatMap_right _
theorem allR_size (I : CInv n K) : ∀ (l : List Int), (allR K l).length = powSum (l.map fun x => (K x).length)
  | [] => rfl
  | x :: l => by
    have := allR_size I l
    unfold allR at this ⊢
    rw [List.flatMap_cons, List.length_append, tree_size I, this, List.map_cons, powSum_cons]
/-- Things above which there is none, each once. -/
structure Roots (n : Nat) (K : Int → List Int) (l : List Int) : Prop where
  inn : ∀ x ∈ l, inN n x
  top : ∀ x ∈ l, topK K x
  nodup : l.Nodup
theorem Roots.perm {l m : List Int} (h : Roots n K l) (p : l.Perm m) : Roots n K m :=
  ⟨fun x hx => h.inn x (p.mem_iff.2 hx), fun x hx => h.top x (p.mem_iff.2 hx), p.nodup_iff.1 h.nodup⟩
/-- A row of roots: of rising degrees. -/
structure RowK (n : Nat) (K : Int → List Int) (l : List Int) : Prop where
  inn : ∀ x ∈ l, inN n x
  top : ∀ x ∈ l, topK K x
  rise : l.Pairwise fun x y => (K x).length < (K y).length
theorem RowK.roots {l : List Int} (h : RowK n K l) : Roots n K l :=
  ⟨h.inn, h.top, h.rise.imp fun hlt e => by subst e; omega⟩
/-- Its degrees are the digits of how many things there are. -/
theorem RowK.digits (I : CInv n K) {l : List Int} (h : RowK n K l) {k : Nat} (hk : (allR K l).length < 2 ^ k) :
    (l.map fun x => (K x).length) = (List.range k).filter fun i => (allR K l).length.testBit i := by
  have hr : (l.map fun x => (K x).length).Pairwise (· < ·) := List.pairwise_map.2 h.rise
  rw [allR_size I] at hk ⊢
  exact digits_eq hr hk
theorem RowK.len (I : CInv n K) {l : List Int} (h : RowK n K l) {k : Nat} (hk : (allR K l).length < 2 ^ k) : l.length ≤ k := by
  have hr : (l.map fun x => (K x).length).Pairwise (· < ·) := List.pairwise_map.2 h.rise
  rw [allR_size I] at hk
  have := digits_len hr hk
  simpa using this
theorem mem_le_sum : ∀ {l : List Nat} {x : Nat}, x ∈ l → x ≤ l.sum
  | y :: l, x, h => by
    rw [List.sum_cons]
    rcases List.mem_cons.1 h with e | e
    · omega
    · have := mem_le_sum e; omega
theorem deg_lt (I : CInv n K) {l : List Int} {x : Int} (hx : x ∈ l) {k : Nat} (hk : (allR K l).length < 2 ^ k) : (K x).length < k := by
  have h1 : (treeK K x).length ≤ (allR K l).length := by
    unfold allR
    rw [List.length_flatMap]
    exact mem_le_sum (List.mem_map.2 ⟨x, hx, rfl⟩)
  rw [tree_size I] at h1
  exact (Nat.pow_lt_pow_iff_right (by omega : 1 < 2)).1 (Nat.lt_of_le_of_lt h1 hk)
theorem mem_allR {l : List Int} {y : Int} : y ∈ allR K l ↔ ∃ x ∈ l, y ∈ treeK K x := List.mem_flatMap
theorem allR_nodup (I : CInv n K) : ∀ {l : List Int}, Roots n K l → (allR K l).Nodup
  | [], _ => List.nodup_nil
  | x :: l, h => by
    obtain ⟨h1, h2⟩ := List.nodup_cons.1 h.nodup
    unfold allR
    rw [List.flatMap_cons, List.nodup_append]
    refine ⟨tree_nodup I x, allR_nodup I (l := l) ⟨fun y hy => h.inn y (by simp [hy]), fun y hy => h.top y (by simp [hy]), h2⟩, fun a ha b hb e => ?_⟩
    subst e
    obtain ⟨y, hy, hb⟩ := List.mem_flatMap.1 hb
    have := tree_apart I (h.top x (by simp)) (h.top y (by simp [hy])) ha hb
    subst this
    exact h1 hy
/-! ### links, one after another -/
/-- From K, with the roots l, by k links to K', with the roots l'; what comes below is not ahead. -/
inductive Links (n : Nat) (ahead : Int → Int → Prop) (K : Int → List Int) (l : List Int) : Nat → (Int → List Int) → List Int → Prop
  | start {m} : l.Perm m → Links n ahead K l 0 K m
  | link {k K' m a b r} : Links n ahead K l k K' m → m.Perm (a :: b :: r) → (K' a).length = (K' b).length → ¬ ahead b a → Links n ahead K l (k + 1) (linkK K' a b) (a :: r)
theorem Links.all {ahead : Int → Int → Prop} (I : CInv n K) {l : List Int} (hl : Roots n K l) {k : Nat} {K' : Int → List Int} {m : List Int} (h : Links n ahead K l k K' m) :
    CInv n K' ∧ Roots n K' m ∧ (allR K' m).Perm (allR K l) ∧ l.length = m.length + k ∧ (∀ p x, x ∈ K' p → x ∈ K p ∨ ¬ ahead x p ∧ p ∈ allR K l ∧ x ∈ l) ∧ (∀ p x, x ∈ K p → x ∈ K' p) ∧
    (∀ x, x ∉ l → K' x = K x) ∧ (∀ x, x ∉ l → (topK K' x ↔ topK K x)) ∧ (∀ c, topK K c → c ∉ l → treeK K' c = treeK K c) ∧ (∀ x ∈ m, x ∈ l) := by
  induction h with
  | start p =>
    exact ⟨I, hl.perm p, (allR_perm p).symm, by rw [p.length_eq, Nat.add_zero], fun p x h => Or.inl h, fun _ _ h => h, fun _ _ => rfl, fun _ _ => Iff.rfl, fun _ _ _ => rfl, fun x hx => p.mem_iff.2 hx⟩
  | @link k K' m a b r h p hd ha ih =>
    obtain ⟨I', hm, hp, hlen, hk, hk2, hoff, htop, htree, hin⟩ := ih
    have hm2 := hm.perm p
    have hia := hm2.inn a (by simp)
    have hib := hm2.inn b (by simp)
    have hta := hm2.top a (by simp)
    have htb := hm2.top b (by simp)
    obtain ⟨n1, n2⟩ := List.nodup_cons.1 hm2.nodup
    obtain ⟨n3, n4⟩ := List.nodup_cons.1 n2
    have hne : a ≠ b := fun e => n1 (by simp [e])
    have hal : a ∈ l := hin a (p.mem_iff.2 (by simp))
    have hbl : b ∈ l := hin b (p.mem_iff.2 (by simp))
    obtain ⟨t1, t2⟩ := link_tree I' hia hib hta htb hne hd
    refine ⟨link_inv I' hia hib hta htb hne hd, ⟨fun x hx => hm2.inn x ?_, fun x hx => top_link.2 ⟨hm2.top x ?_, ?_⟩, ?_⟩, ?_, ?_, fun q x hx => ?_, fun q x hx => mem_link.2 (Or.inl (hk2 q x hx)), fun x hx => ?_, fun x hx => ?_, fun c hc hcl => ?_, fun x hx => ?_⟩
    · rcases List.mem_cons.1 hx with e | e <;> simp [e]
    · rcases List.mem_cons.1 hx with e | e <;> simp [e]
    · rintro rfl
      rcases List.mem_cons.1 hx with e | e
      · exact hne e.symm
      · exact n3 e
    · exact List.nodup_cons.2 ⟨fun h => n1 (by simp [h]), n4⟩
    · refine List.Perm.trans ?_ hp
      refine List.Perm.trans ?_ (allR_perm p).symm
      unfold allR
      rw [List.flatMap_cons, List.flatMap_cons, List.flatMap_cons, t1]
      have e : r.flatMap (treeK (linkK K' a b)) = r.flatMap (treeK K') := by
        unfold List.flatMap
        congr 1
        apply List.map_congr_left
        intro c hc
        exact t2 c (hm2.top c (by simp [hc])) fun e => n1 (by simp [← e, hc])
      rw [e, List.append_assoc]
    · have := p.length_eq
      simp only [List.length_cons] at this ⊢
      omega
    · rcases mem_link.1 hx with h | ⟨rfl, rfl⟩
      · exact hk q x h
      · exact Or.inr ⟨ha, mem_allR.2 ⟨q, hal, tree_self I q⟩, hbl⟩
    · unfold linkK
      rw [if_neg (fun e : x = a => hx (e ▸ hal))]
      exact hoff x hx
    · rw [top_link, htop x hx]
      exact ⟨fun h => h.1, fun h => ⟨h, fun e => hx (e ▸ hbl)⟩⟩
    · rw [t2 c ((htop c hcl).2 hc) (fun e => hcl (e ▸ hal)), htree c hc hcl]
    · rcases List.mem_cons.1 hx with e | e
      · exact e ▸ hal
      · exact hin x (p.mem_iff.2 (by simp [e]))
end
end Go.Proofs.Ytbllfokagedpeaa

namespace Go.Proofs.Ytbllfokagedpeaa

/-- A list of unlike numbers below m. -/
theorem nodupK_len : ∀ (m : Nat) (l : List Nat), l.Nodup → (∀ x ∈ l, x < m) → l.length ≤ m := fun m => by
  induction m with
  | zero =>
    intro l _ h
    cases l with
    | nil => exact Nat.le_refl _
    | cons a r => exact absurd (h a (by simp)) (by omega)
  | succ m ih =>
    intro l hn h
    have h1 := ih (l.erase m) (hn.erase m) (fun x hx => by
      have h1 := (List.Nodup.mem_erase_iff hn).1 hx
      have h2 := h x h1.2
      have h3 := h1.1
      omega)
    have := List.length_erase (a := m) (l := l)
    split at this <;> omega
theorem nodupK_in (n : Nat) (l : List Int) (hd : l.Nodup) (h : ∀ x ∈ l, inN n x) : l.length ≤ n := by
  have := nodupK_len n (l.map Int.toNat) (by
    rw [List.nodup_iff_pairwise_ne, List.pairwise_map]
    refine hd.imp_of_mem ?_
    intro a b ha hb hne e
    have h1 := h a ha
    have h2 := h b hb
    unfold inN at h1 h2
    omega) (fun y hy => by
      obtain ⟨k, hk, rfl⟩ := List.mem_map.1 hy
      have := h k hk
      unfold inN at this
      omega)
  simpa using this
open Classical in
/-- The thing above. -/
noncomputable def upK (K : Int → List Int) (x : Int) : Option Int := if h : ∃ p, x ∈ K p then some (Classical.choose h) else none
/-- .. as a number: -1 is none. -/
def oK (o : Option Int) : Int := o.getD (-1)
section
variable {n : Nat} {K : Int → List Int}
theorem upK_some (I : CInv n K) {x p : Int} : upK K x = some p ↔ x ∈ K p := by
  unfold upK
  split
  · rename_i h
    have hc := Classical.choose_spec h
    constructor
    · intro e; injection e with e; rw [← e]; exact hc
    · intro hp; exact congrArg some (I.one _ _ _ hc hp)
  · rename_i h
    exact ⟨fun e => (by cases e), fun hp => absurd ⟨p, hp⟩ h⟩
theorem upK_none {x : Int} : upK K x = none ↔ topK K x := by
  unfold upK topK
  split
  · rename_i h
    obtain ⟨p, hp⟩ := h
    exact ⟨fun e => (by cases e), fun ht => absurd hp (ht p)⟩
  · rename_i h
    exact ⟨fun _ p hp => h ⟨p, hp⟩, fun _ => rfl⟩
theorem kidsK_out (I : CInv n K) {x : Int} (h : ¬ inN n x) : K x = [] := by
  cases e : K x with
  | nil => rfl
  | cons a r => exact absurd (I.rng x a (by rw [e]; simp)).1 h
theorem topK_out (I : CInv n K) {x : Int} (h : ¬ inN n x) : topK K x := fun p hp => h (I.rng p x hp).2
theorem upK_out (I : CInv n K) {x : Int} (h : ¬ inN n x) : upK K x = none := upK_none.2 (topK_out I h)
theorem upK_rng (I : CInv n K) {x p : Int} (h : upK K x = some p) : inN n x ∧ inN n p := by
  have := I.rng p x ((upK_some I).1 h)
  exact ⟨this.2, this.1⟩
theorem oK_none (I : CInv n K) (x : Int) : (oK (upK K x) == -1) = (upK K x).isNone := by
  cases e : upK K x with
  | none => rfl
  | some y =>
    have := (upK_rng I e).2.1
    simp [oK]; omega
theorem oK_ge (I : CInv n K) (x : Int) : -1 ≤ oK (upK K x) ∧ oK (upK K x) < n := by
  cases e : upK K x with
  | none => exact ⟨Int.le_refl _, by show (-1 : Int) < n; omega⟩
  | some y =>
    have := (upK_rng I e).2
    exact ⟨by have := this.1; show (-1 : Int) ≤ y; omega, this.2⟩
theorem tree_le (I : CInv n K) {x : Int} (hx : inN n x) : (treeK K x).length ≤ n := nodupK_in n _ (tree_nodup I x) fun _ h => tree_in I hx h
theorem pow_le (I : CInv n K) {x : Int} (hx : inN n x) : 2 ^ (K x).length ≤ n := by rw [← tree_size I]; exact tree_le I hx
theorem deg_16 (I : CInv n K) (hn : n ≤ 65536) (x : Int) : (K x).length ≤ 16 := by
  by_cases hx : inN n x
  · have h1 := pow_le I hx
    have h2 : 2 ^ (K x).length < 2 ^ 17 := Nat.lt_of_le_of_lt (Nat.le_trans h1 hn) (by decide)
    have := (Nat.pow_lt_pow_iff_right (by omega : 1 < 2)).1 h2
    omega
  · rw [kidsK_out I hx]; exact Nat.zero_le _
theorem deg_lt_n (I : CInv n K) {x : Int} (hx : inN n x) : (K x).length < n := Nat.lt_of_lt_of_le Nat.lt_two_pow_self (pow_le I hx)
/-- A child stands at the place that is its degree. -/
theorem kid_place (I : CInv n K) {x p : Int} (h : x ∈ K p) : (K p)[(K x).length]? = some x := by
  obtain ⟨i, hi, e⟩ := List.getElem_of_mem h
  have e2 : (K p)[i]? = some x := by rw [List.getElem?_eq_getElem hi, e]
  rw [I.cube p i x e2]; exact e2
theorem put_place (I : CInv n K) {x p : Int} (h : x ∈ K p) (y : Int) : putL (K p) x y = (K p).set (K x).length y := by
  have hp := kid_place I h
  have hd := I.nodup p
  unfold putL
  apply List.ext_getElem?
  intro i
  rw [List.getElem?_map, List.getElem?_set]
  by_cases e : (K x).length = i
  · rw [← e, hp, if_pos rfl, if_pos (I.less h)]
    simp
  · rw [if_neg e]
    cases e2 : (K p)[i]? with
    | none => rfl
    | some z =>
      have hz : z ≠ x := fun e3 => e (by rw [← I.cube p i z e2, e3])
      simp [hz]
/-! ### links -/
theorem up_link (I : CInv n K) {a b : Int} (ha : inN n a) (hb : inN n b) (ta : topK K a) (tb : topK K b) (hne : a ≠ b) (hd : (K a).length = (K b).length) (x : Int) :
    upK (linkK K a b) x = if x = b then some a else upK K x := by
  have I' := link_inv I ha hb ta tb hne hd
  split
  · rename_i e
    exact (upK_some I').2 (mem_link.2 (Or.inr ⟨rfl, e⟩))
  · rename_i e
    cases e2 : upK K x with
    | none => exact upK_none.2 (top_link.2 ⟨upK_none.1 e2, e⟩)
    | some p => exact (upK_some I').2 (mem_link.2 (Or.inl ((upK_some I).1 e2)))
theorem up_split (I : CInv n K) {x : Int} (tx : topK K x) (y : Int) [Decidable (y ∈ K x)] : upK (splitK K x) y = if y ∈ K x then none else upK K y := by
  have I' := split_inv I tx
  split
  · rename_i h
    refine upK_none.2 fun p hp => ?_
    obtain ⟨h1, h2⟩ := mem_split.1 hp
    exact h2 (I.one _ _ _ h1 h)
  · rename_i h
    cases e2 : upK K y with
    | none => exact upK_none.2 fun p hp => upK_none.1 e2 p (mem_split.1 hp).1
    | some p => exact (upK_some I').2 (mem_split.2 ⟨(upK_some I).1 e2, fun e => h (e ▸ (upK_some I).1 e2)⟩)
theorem lift_kids_x (I : CInv n K) {x p : Int} (h : x ∈ K p) : liftK K x p x = putL (K p) x p := by rw [lift_doc I h, if_pos rfl]
theorem lift_kids_p (I : CInv n K) {x p : Int} (h : x ∈ K p) : liftK K x p p = K x := by
  have := I.less h
  rw [lift_doc I h, if_neg (fun e : p = x => by rw [e] at this; omega), if_pos rfl]
theorem lift_kids_else (I : CInv n K) {x p z : Int} (h : x ∈ K p) (h1 : z ≠ x) (h2 : z ≠ p) : liftK K x p z = putL (K z) p x := by
  rw [lift_doc I h, if_neg h1, if_neg h2]
theorem up_lift (I : CInv n K) {x p : Int} (h : x ∈ K p) (z : Int) [Decidable (z ∈ K x)] [Decidable (z ∈ putL (K p) x p)] :
    upK (liftK K x p) z = if z ∈ K x then some p else if z ∈ putL (K p) x p then some x else if z = x then upK K p else upK K z := by
  have I' := lift_inv I h
  split
  · rename_i hz
    exact (upK_some I').2 (by rw [lift_kids_p I h]; exact hz)
  · rename_i hz
    split
    · rename_i hz2
      exact (upK_some I').2 (by rw [lift_kids_x I h]; exact hz2)
    · rename_i hz2
      split
      · rename_i e
        subst e
        cases e2 : upK K p with
        | none => exact upK_none.2 (lift_top.2 (by rw [sw_x]; exact upK_none.1 e2))
        | some q =>
          have hq := (upK_some I).1 e2
          have h1 := I.less h
          have h2 := I.less hq
          exact (upK_some I').2 (mem_lift.2 (by rw [sw_x, sw_else (fun e => by rw [e] at h2; omega) (fun e => by rw [e] at h2; omega)]; exact hq))
      · rename_i e
        have e1 : z ≠ p := fun e1 => hz2 (by rw [e1]; unfold putL; exact List.mem_map.2 ⟨x, h, by rw [if_pos rfl]⟩)
        cases e2 : upK K z with
        | none => exact upK_none.2 (lift_top.2 (by rw [sw_else e e1]; exact upK_none.1 e2))
        | some q =>
          have hq := (upK_some I).1 e2
          have q1 : q ≠ x := fun e3 => hz (e3 ▸ hq)
          have q2 : q ≠ p := fun e3 => hz2 (by
            unfold putL
            exact List.mem_map.2 ⟨z, e3 ▸ hq, by rw [if_neg e]⟩)
          exact (upK_some I').2 (mem_lift.2 (by rw [sw_else e e1, sw_else q1 q2]; exact hq))
/-! ### rows of roots -/
def hasK (n : Nat) (x : Int) : Bool := decide (0 ≤ x ∧ x < n)
theorem hasK_in {n : Nat} {x : Int} : hasK n x = true ↔ inN n x := by simp [hasK, inN]
theorem hasK_no {n : Nat} {x : Int} (h : ¬ inN n x) : hasK n x = false := Bool.eq_false_iff.2 fun e => h (hasK_in.1 e)
noncomputable def rootB (n : Nat) (K : Int → List Int) (x : Int) : Bool := hasK n x && (upK K x).isNone
theorem rootB_iff {x : Int} : rootB n K x = true ↔ inN n x ∧ topK K x := by
  unfold rootB
  rw [Bool.and_eq_true, hasK_in, Option.isNone_iff_eq_none, upK_none]
noncomputable def linkB (n : Nat) (K : Int → List Int) (a b : Int) : Bool := !(a == b) && rootB n K a && rootB n K b && ((K a).length == (K b).length)
noncomputable def linkF (n : Nat) (K : Int → List Int) (a b : Int) : Int → List Int := if linkB n K a b then linkK K a b else K
theorem linkB_iff {a b : Int} : linkB n K a b = true ↔ a ≠ b ∧ (inN n a ∧ topK K a) ∧ (inN n b ∧ topK K b) ∧ (K a).length = (K b).length := by
  unfold linkB
  rw [Bool.and_eq_true, Bool.and_eq_true, Bool.and_eq_true, rootB_iff, rootB_iff, beq_iff_eq, Bool.not_eq_true', beq_eq_false_iff_ne, and_assoc, and_assoc]
theorem linkF_inv (I : CInv n K) (a b : Int) : CInv n (linkF n K a b) := by
  unfold linkF
  split
  · rename_i h
    obtain ⟨h1, h2, h3, h4⟩ := linkB_iff.1 h
    exact link_inv I h2.1 h3.1 h2.2 h3.2 h1 h4
  · exact I
noncomputable def splitF (n : Nat) (K : Int → List Int) (x : Int) : Int → List Int := if rootB n K x then splitK K x else K
noncomputable def splitL (n : Nat) (K : Int → List Int) (x : Int) : List Int := if rootB n K x then K x else []
theorem splitF_inv (I : CInv n K) (x : Int) : CInv n (splitF n K x) := by
  unfold splitF
  split
  · rename_i h
    exact split_inv I (rootB_iff.1 h).2
  · exact I
noncomputable def liftF (K : Int → List Int) (x : Int) : Int → List Int := match upK K x with
  | none => K
  | some p => liftK K x p
theorem liftF_inv (I : CInv n K) (x : Int) : CInv n (liftF K x) := by
  unfold liftF
  cases e : upK K x with
  | none => exact I
  | some p => exact lift_inv I ((upK_some I).1 e)
/-- What an act makes of all. -/
noncomputable def actF (n : Nat) (K : Int → List Int) (k a b : Int) : Int → List Int := if k = 0 then linkF n K a b else if k = 1 then splitF n K a else if k = 2 then liftF K a else K
theorem actF_inv (I : CInv n K) (k a b : Int) : CInv n (actF n K k a b) := by
  unfold actF
  split
  · exact linkF_inv I a b
  split
  · exact splitF_inv I a
  split
  · exact liftF_inv I a
  exact I
/-- Is it a row of roots, from one place on? -/
def lessO (o : Option Nat) (d : Nat) : Bool := match o with
  | none => true
  | some c => decide (c < d)
noncomputable def rowB (n : Nat) (K : Int → List Int) : Option Nat → List Int → Bool
  | _, [] => true
  | o, x :: l => rootB n K x && lessO o (K x).length && rowB n K (some (K x).length) l
theorem rowB_cons (n : Nat) (K : Int → List Int) (o : Option Nat) (x : Int) (l : List Int) : rowB n K o (x :: l) = (rootB n K x && lessO o (K x).length && rowB n K (some (K x).length) l) := by cases o <;> rfl
theorem rowB_iff : ∀ (l : List Int) (o : Option Nat), rowB n K o l = true ↔ RowK n K l ∧ ∀ d, o = some d → ∀ x ∈ l, d < (K x).length
  | [], o => by
    constructor
    · intro _
      exact ⟨⟨fun x h => (by cases h), fun x h => (by cases h), List.Pairwise.nil⟩, fun d _ x h => (by cases h)⟩
    · intro _; rfl
  | x :: l, o => by
    rw [rowB_cons, Bool.and_eq_true, Bool.and_eq_true, rowB_iff l, rootB_iff]
    constructor
    · rintro ⟨⟨⟨h1, h2⟩, h3⟩, h4, h5⟩
      have h6 := h5 _ rfl
      refine ⟨⟨fun y hy => ?_, fun y hy => ?_, List.pairwise_cons.2 ⟨h6, h4.rise⟩⟩, fun d e y hy => ?_⟩
      · rcases List.mem_cons.1 hy with e | e
        · rw [e]; exact h1
        · exact h4.inn y e
      · rcases List.mem_cons.1 hy with e | e
        · rw [e]; exact h2
        · exact h4.top y e
      · subst e
        have h7 := of_decide_eq_true h3
        rcases List.mem_cons.1 hy with e | e
        · rw [e]; exact h7
        · exact Nat.lt_trans h7 (h6 y e)
    · rintro ⟨h1, h2⟩
      obtain ⟨h3, h4⟩ := List.pairwise_cons.1 h1.rise
      refine ⟨⟨⟨h1.inn x (by simp), h1.top x (by simp)⟩, ?_⟩, ⟨fun y hy => h1.inn y (by simp [hy]), fun y hy => h1.top y (by simp [hy]), h4⟩, fun d e y hy => ?_⟩
      · cases o with
        | none => rfl
        | some d => exact decide_eq_true (h2 d rfl x (by simp))
      · injection e with e
        rw [← e]; exact h3 y hy
noncomputable def isRow (n : Nat) (K : Int → List Int) (l : List Int) : Bool := rowB n K none l
theorem isRow_iff {l : List Int} : isRow n K l = true ↔ RowK n K l := by
  unfold isRow
  rw [rowB_iff]
  exact ⟨fun h => h.1, fun h => ⟨h, fun d e => (by cases e)⟩⟩
/-- What a root of the row is compared with: the one before. -/
def lastD (K : Int → List Int) (l : List Int) (j : Nat) : Option Nat := if j = 0 then none else some (K (l.getD (j - 1) 0)).length
theorem rowB_at (l : List Int) (j : Nat) (hj : j < l.length) : rowB n K (lastD K l j) (l.drop j) = (rootB n K (l.getD j 0) && (decide (j = 0) || decide ((K (l.getD (j - 1) 0)).length < (K (l.getD j 0)).length)) && rowB n K (lastD K l (j + 1)) (l.drop (j + 1))) := by
  have e : l.drop j = l.getD j 0 :: l.drop (j + 1) := by
    rw [List.drop_eq_getElem_cons hj]; simp [List.getD_eq_getElem?_getD, hj]
  rw [e, rowB_cons]
  unfold lastD lessO
  by_cases h : j = 0
  · subst h; simp
  · simp [h]
end
end Go.Proofs.Ytbllfokagedpeaa
