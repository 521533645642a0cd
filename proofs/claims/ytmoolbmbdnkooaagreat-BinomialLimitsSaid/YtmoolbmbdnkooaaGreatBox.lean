/- Merged of BinStepMath, CarryUpMath, BinLiftMath, Own, Box. -/
import Derived.Test.YtmoolbmbdnkooaaGreatBinInv
import Derived.Test.YtmoolbmbdnkooaaGreatCarryLiftMath
import Derived.Test.YtmoolbmbdnkooaaGreatCarryRowMath
import Derived.Test.YtmoolbmbdnkooaaGreatLaw
import Derived.Laws.OwnMore
import Derived.WalkSmall
namespace Go.Proofs.YtmoolbmbdnkooaaGreat

section
variable {W : WS}
/-- b is one of l, and none of l is ahead of it. -/
def BestOf (W : WS) (l : List Int) (b : Int) : Prop := b ∈ l ∧ ∀ y ∈ l, aheadW W y b = false
theorem best_one (W : WS) (x : Int) : BestOf W [x] x := ⟨by simp, fun y hy => by rw [List.mem_singleton.1 hy]; exact dahead_irr W x⟩
theorem best_more {l : List Int} {b x : Int} (hl : ∀ y ∈ l, inW W y = true) (_hx : inW W x = true) (h : BestOf W l b) : BestOf W (l ++ [x]) (if aheadW W x b = true then x else b) := by
  have hb := hl b h.1
  split
  · rename_i e
    refine ⟨by simp, fun y hy => ?_⟩
    rcases List.mem_append.1 hy with h2 | h2
    · exact hm_neg (hl y h2) hb (h.2 y h2) (hm_asym e)
    · rw [List.mem_singleton.1 h2]; exact dahead_irr W x
  · rename_i e
    refine ⟨by simp [h.1], fun y hy => ?_⟩
    rcases List.mem_append.1 hy with h2 | h2
    · exact h.2 y h2
    · rw [List.mem_singleton.1 h2]; simpa using e
end
/-- The places of the ones below b: they are all, where nothing is left. -/
theorem ones_end (N b k : Nat) (h0 : N >>> b = 0) (hk : N < 2 ^ k) : (List.range b).filter (fun i => N.testBit i) = (List.range k).filter (fun i => N.testBit i) := by
  have hb : N < 2 ^ b := by
    rw [Nat.shiftRight_eq_div_pow] at h0
    exact (Nat.div_eq_zero_iff_lt (Nat.two_pow_pos b)).1 h0
  have hone : ∀ (c m : Nat), N < 2 ^ c → c ≤ m → (List.range m).filter (fun i => N.testBit i) = (List.range c).filter (fun i => N.testBit i) := fun c m hc hm => by
    induction hm with
    | refl => rfl
    | @step m hcm ih =>
      rw [List.range_succ, List.filter_append, ih]
      have : N.testBit m = false := Nat.testBit_lt_two_pow (Nat.lt_of_lt_of_le hc (Nat.pow_le_pow_right (by omega) hcm))
      simp [this]
  rcases Nat.le_total b k with h | h
  · exact (hone b k hb h).symm
  · exact hone k b hk h
theorem shift_half (N b : Nat) : (N >>> b) / 2 = N >>> (b + 1) := by
  rw [Nat.shiftRight_succ]
theorem shift_odd (N b : Nat) : (N >>> b) % 2 = if N.testBit b then 1 else 0 := by
  rw [Nat.testBit_eq_decide_div_mod_eq, Nat.shiftRight_eq_div_pow]
  have := Nat.mod_lt (N / 2 ^ b) (show 0 < 2 by omega)
  by_cases h : N / 2 ^ b % 2 = 1
  · simp [h]
  · simp [h]; omega
end Go.Proofs.YtmoolbmbdnkooaaGreat

namespace Go.Proofs.YtmoolbmbdnkooaaGreat

/-- A list of unlike numbers below m. -/
theorem nodupK_len : ∀ (m : Nat) (l : List Nat), l.Nodup → (∀ x ∈ l, x < m) → l.length ≤ m := fun m => by
  induction m with
  | zero =>
    intro l _ h
    cases l with
    | nil => exact Nat.le_refl _
    | cons a r => exact absurd (h a (by simp)) (by omega)
  | succ m ih =>
    intro l hn h
    have h1 := ih (l.erase m) (hn.erase m) (fun x hx => by
      have h1 := (List.Nodup.mem_erase_iff hn).1 hx
      have h2 := h x h1.2
      have h3 := h1.1
      omega)
    have := List.length_erase (a := m) (l := l)
    split at this <;> omega
theorem nodupK_in (n : Nat) (l : List Int) (hd : l.Nodup) (h : ∀ x ∈ l, inN n x) : l.length ≤ n := by
  have := nodupK_len n (l.map Int.toNat) (by
    rw [List.nodup_iff_pairwise_ne, List.pairwise_map]
    refine hd.imp_of_mem ?_
    intro a b ha hb hne e
    have h1 := h a ha
    have h2 := h b hb
    unfold inN at h1 h2
    omega) (fun y hy => by
      obtain ⟨k, hk, rfl⟩ := List.mem_map.1 hy
      have := h k hk
      unfold inN at this
      omega)
  simpa using this
open Classical in
/-- The thing above. -/
noncomputable def upK (K : Int → List Int) (x : Int) : Option Int := if h : ∃ p, x ∈ K p then some (Classical.choose h) else none
/-- .. as a number: -1 is none. -/
def oK (o : Option Int) : Int := o.getD (-1)
section
variable {n : Nat} {K : Int → List Int}
theorem upK_some (I : CInv n K) {x p : Int} : upK K x = some p ↔ x ∈ K p := by
  unfold upK
  split
  · rename_i h
    have hc := Classical.choose_spec h
    constructor
    · intro e; injection e with e; rw [← e]; exact hc
    · intro hp; exact congrArg some (I.one _ _ _ hc hp)
  · rename_i h
    exact ⟨fun e => (by cases e), fun hp => absurd ⟨p, hp⟩ h⟩
theorem upK_none {x : Int} : upK K x = none ↔ topK K x := by
  unfold upK topK
  split
  · rename_i h
    obtain ⟨p, hp⟩ := h
    exact ⟨fun e => (by cases e), fun ht => absurd hp (ht p)⟩
  · rename_i h
    exact ⟨fun _ p hp => h ⟨p, hp⟩, fun _ => rfl⟩
theorem kidsK_out (I : CInv n K) {x : Int} (h : ¬ inN n x) : K x = [] := by
  cases e : K x with
  | nil => rfl
  | cons a r => exact absurd (I.rng x a (by rw [e]; simp)).1 h
theorem topK_out (I : CInv n K) {x : Int} (h : ¬ inN n x) : topK K x := fun p hp => h (I.rng p x hp).2
theorem upK_out (I : CInv n K) {x : Int} (h : ¬ inN n x) : upK K x = none := upK_none.2 (topK_out I h)
theorem upK_rng (I : CInv n K) {x p : Int} (h : upK K x = some p) : inN n x ∧ inN n p := by
  have := I.rng p x ((upK_some I).1 h)
  exact ⟨this.2, this.1⟩
theorem oK_none (I : CInv n K) (x : Int) : (oK (upK K x) == -1) = (upK K x).isNone := by
  cases e : upK K x with
  | none => rfl
  | some y =>
    have := (upK_rng I e).2.1
    simp [oK]; omega
theorem oK_ge (I : CInv n K) (x : Int) : -1 ≤ oK (upK K x) ∧ oK (upK K x) < n := by
  cases e : upK K x with
  | none => exact ⟨Int.le_refl _, by show (-1 : Int) < n; omega⟩
  | some y =>
    have := (upK_rng I e).2
    exact ⟨by have := this.1; show (-1 : Int) ≤ y; omega, this.2⟩
theorem tree_le (I : CInv n K) {x : Int} (hx : inN n x) : (treeK K x).length ≤ n := nodupK_in n _ (tree_nodup I x) fun _ h => tree_in I hx h
theorem pow_le (I : CInv n K) {x : Int} (hx : inN n x) : 2 ^ (K x).length ≤ n := by rw [← tree_size I]; exact tree_le I hx
theorem deg_16 (I : CInv n K) (hn : n ≤ 65536) (x : Int) : (K x).length ≤ 16 := by
  by_cases hx : inN n x
  · have h1 := pow_le I hx
    have h2 : 2 ^ (K x).length < 2 ^ 17 := Nat.lt_of_le_of_lt (Nat.le_trans h1 hn) (by decide)
    have := (Nat.pow_lt_pow_iff_right (by omega : 1 < 2)).1 h2
    omega
  · rw [kidsK_out I hx]; exact Nat.zero_le _
theorem deg_lt_n (I : CInv n K) {x : Int} (hx : inN n x) : (K x).length < n := Nat.lt_of_lt_of_le Nat.lt_two_pow_self (pow_le I hx)
/-- A child stands at the place that is its degree. -/
theorem kid_place (I : CInv n K) {x p : Int} (h : x ∈ K p) : (K p)[(K x).length]? = some x := by
  obtain ⟨i, hi, e⟩ := List.getElem_of_mem h
  have e2 : (K p)[i]? = some x := by rw [List.getElem?_eq_getElem hi, e]
  rw [I.cube p i x e2]; exact e2
theorem put_place (I : CInv n K) {x p : Int} (h : x ∈ K p) (y : Int) : putL (K p) x y = (K p).set (K x).length y := by
  have hp := kid_place I h
  have hd := I.nodup p
  unfold putL
  apply List.ext_getElem?
  intro i
  rw [List.getElem?_map, List.getElem?_set]
  by_cases e : (K x).length = i
  · rw [← e, hp, if_pos rfl, if_pos (I.less h)]
    simp
  · rw [if_neg e]
    cases e2 : (K p)[i]? with
    | none => rfl
    | some z =>
      have hz : z ≠ x := fun e3 => e (by rw [← I.cube p i z e2, e3])
      simp [hz]
/-! ### links -/
theorem up_link (I : CInv n K) {a b : Int} (ha : inN n a) (hb : inN n b) (ta : topK K a) (tb : topK K b) (hne : a ≠ b) (hd : (K a).length = (K b).length) (x : Int) :
    upK (linkK K a b) x = if x = b then some a else upK K x := by
  have I' := link_inv I ha hb ta tb hne hd
  split
  · rename_i e
    exact (upK_some I').2 (mem_link.2 (Or.inr ⟨rfl, e⟩))
  · rename_i e
    cases e2 : upK K x with
    | none => exact upK_none.2 (top_link.2 ⟨upK_none.1 e2, e⟩)
    | some p => exact (upK_some I').2 (mem_link.2 (Or.inl ((upK_some I).1 e2)))
theorem up_split (I : CInv n K) {x : Int} (tx : topK K x) (y : Int) [Decidable (y ∈ K x)] : upK (splitK K x) y = if y ∈ K x then none else upK K y := by
  have I' := split_inv I tx
  split
  · rename_i h
    refine upK_none.2 fun p hp => ?_
    obtain ⟨h1, h2⟩ := mem_split.1 hp
    exact h2 (I.one _ _ _ h1 h)
  · rename_i h
    cases e2 : upK K y with
    | none => exact upK_none.2 fun p hp => upK_none.1 e2 p (mem_split.1 hp).1
    | some p => exact (upK_some I').2 (mem_split.2 ⟨(upK_some I).1 e2, fun e => h (e ▸ (upK_some I).1 e2)⟩)
theorem lift_kids_x (I : CInv n K) {x p : Int} (h : x ∈ K p) : liftK K x p x = putL (K p) x p := by rw [lift_doc I h, if_pos rfl]
theorem lift_kids_p (I : CInv n K) {x p : Int} (h : x ∈ K p) : liftK K x p p = K x := by
  have := I.less h
  rw [lift_doc I h, if_neg (fun e : p = x => by rw [e] at this; omega), if_pos rfl]
theorem lift_kids_else (I : CInv n K) {x p z : Int} (h : x ∈ K p) (h1 : z ≠ x) (h2 : z ≠ p) : liftK K x p z = putL (K z) p x := by
  rw [lift_doc I h, if_neg h1, if_neg h2]
theorem up_lift (I : CInv n K) {x p : Int} (h : x ∈ K p) (z : Int) [Decidable (z ∈ K x)] [Decidable (z ∈ putL (K p) x p)] :
    upK (liftK K x p) z = if z ∈ K x then some p else if z ∈ putL (K p) x p then some x else if z = x then upK K p else upK K z := by
  have I' := lift_inv I h
  split
  · rename_i hz
    exact (upK_some I').2 (by rw [lift_kids_p I h]; exact hz)
  · rename_i hz
    split
    · rename_i hz2
      exact (upK_some I').2 (by rw [lift_kids_x I h]; exact hz2)
    · rename_i hz2
      split
      · rename_i e
        subst e
        cases e2 : upK K p with
        | none => exact upK_none.2 (lift_top.2 (by rw [sw_x]; exact upK_none.1 e2))
        | some q =>
          have hq := (upK_some I).1 e2
          have h1 := I.less h
          have h2 := I.less hq
          exact (upK_some I').2 (mem_lift.2 (by rw [sw_x, sw_else (fun e => by rw [e] at h2; omega) (fun e => by rw [e] at h2; omega)]; exact hq))
      · rename_i e
        have e1 : z ≠ p := fun e1 => hz2 (by rw [e1]; unfold putL; exact List.mem_map.2 ⟨x, h, by rw [if_pos rfl]⟩)
        cases e2 : upK K z with
        | none => exact upK_none.2 (lift_top.2 (by rw [sw_else e e1]; exact upK_none.1 e2))
        | some q =>
          have hq := (upK_some I).1 e2
          have q1 : q ≠ x := fun e3 => hz (e3 ▸ hq)
          have q2 : q ≠ p := fun e3 => hz2 (by
            unfold putL
            exact List.mem_map.2 ⟨z, e3 ▸ hq, by rw [if_neg e]⟩)
          exact (upK_some I').2 (mem_lift.2 (by rw [sw_else e e1, sw_else q1 q2]; exact hq))
/-! ### rows of roots -/
def hasK (n : Nat) (x : Int) : Bool := decide (0 ≤ x ∧ x < n)
theorem hasK_in {n : Nat} {x : Int} : hasK n x = true ↔ inN n x := by simp [hasK, inN]
theorem hasK_no {n : Nat} {x : Int} (h : ¬ inN n x) : hasK n x = false := Bool.eq_false_iff.2 fun e => h (hasK_in.1 e)
noncomputable def rootB (n : Nat) (K : Int → List Int) (x : Int) : Bool := hasK n x && (upK K x).isNone
theorem rootB_iff {x : Int} : rootB n K x = true ↔ inN n x ∧ topK K x := by
  unfold rootB
  rw [Bool.and_eq_true, hasK_in, Option.isNone_iff_eq_none, upK_none]
noncomputable def linkB (n : Nat) (K : Int → List Int) (a b : Int) : Bool := !(a == b) && rootB n K a && rootB n K b && ((K a).length == (K b).length)
noncomputable def linkF (n : Nat) (K : Int → List Int) (a b : Int) : Int → List Int := if linkB n K a b then linkK K a b else K
theorem linkB_iff {a b : Int} : linkB n K a b = true ↔ a ≠ b ∧ (inN n a ∧ topK K a) ∧ (inN n b ∧ topK K b) ∧ (K a).length = (K b).length := by
  unfold linkB
  rw [Bool.and_eq_true, Bool.and_eq_true, Bool.and_eq_true, rootB_iff, rootB_iff, beq_iff_eq, Bool.not_eq_true', beq_eq_false_iff_ne, and_assoc, and_assoc]
theorem linkF_inv (I : CInv n K) (a b : Int) : CInv n (linkF n K a b) := by
  unfold linkF
  split
  · rename_i h
    obtain ⟨h1, h2, h3, h4⟩ := linkB_iff.1 h
    exact link_inv I h2.1 h3.1 h2.2 h3.2 h1 h4
  · exact I
noncomputable def splitF (n : Nat) (K : Int → List Int) (x : Int) : Int → List Int := if rootB n K x then splitK K x else K
noncomputable def splitL (n : Nat) (K : Int → List Int) (x : Int) : List Int := if rootB n K x then K x else []
theorem splitF_inv (I : CInv n K) (x : Int) : CInv n (splitF n K x) := by
  unfold splitF
  split
  · rename_i h
    exact split_inv I (rootB_iff.1 h).2
  · exact I
noncomputable def liftF (K : Int → List Int) (x : Int) : Int → List Int := match upK K x with
  | none => K
  | some p => liftK K x p
theorem liftF_inv (I : CInv n K) (x : Int) : CInv n (liftF K x) := by
  unfold liftF
  cases e : upK K x with
  | none => exact I
  | some p => exact lift_inv I ((upK_some I).1 e)
/-- What an act makes of all. -/
noncomputable def actF (n : Nat) (K : Int → List Int) (k a b : Int) : Int → List Int := if k = 0 then linkF n K a b else if k = 1 then splitF n K a else if k = 2 then liftF K a else K
theorem actF_inv (I : CInv n K) (k a b : Int) : CInv n (actF n K k a b) := by
  unfold actF
  split
  · exact linkF_inv I a b
  split
  · exact splitF_inv I a
  split
  · exact liftF_inv I a
  exact I
/-- Is it a row of roots, from one place on? -/
def lessO (o : Option Nat) (d : Nat) : Bool := match o with
  | none => true
  | some c => decide (c < d)
noncomputable def rowB (n : Nat) (K : Int → List Int) : Option Nat → List Int → Bool
  | _, [] => true
  | o, x :: l => rootB n K x && lessO o (K x).length && rowB n K (some (K x).length) l
theorem rowB_cons (n : Nat) (K : Int → List Int) (o : Option Nat) (x : Int) (l : List Int) : rowB n K o (x :: l) = (rootB n K x && lessO o (K x).length && rowB n K (some (K x).length) l) := by cases o <;> rfl
theorem rowB_iff : ∀ (l : List Int) (o : Option Nat), rowB n K o l = true ↔ RowK n K l ∧ ∀ d, o = some d → ∀ x ∈ l, d < (K x).length
  | [], o => by
    constructor
    · intro _
      exact ⟨⟨fun x h => (by cases h), fun x h => (by cases h), List.Pairwise.nil⟩, fun d _ x h => (by cases h)⟩
    · intro _; rfl
  | x :: l, o => by
    rw [rowB_cons, Bool.and_eq_true, Bool.and_eq_true, rowB_iff l, rootB_iff]
    constructor
    · rintro ⟨⟨⟨h1, h2⟩, h3⟩, h4, h5⟩
      have h6 := h5 _ rfl
      refine ⟨⟨fun y hy => ?_, fun y hy => ?_, List.pairwise_cons.2 ⟨h6, h4.rise⟩⟩, fun d e y hy => ?_⟩
      · rcases List.mem_cons.1 hy with e | e
        · rw [e]; exact h1
        · exact h4.inn y e
      · rcases List.mem_cons.1 hy with e | e
        · rw [e]; exact h2
        · exact h4.top y e
      · subst e
        have h7 := of_decide_eq_true h3
        rcases List.mem_cons.1 hy with e | e
        · rw [e]; exact h7
        · exact Nat.lt_trans h7 (h6 y e)
    · rintro ⟨h1, h2⟩
      obtain ⟨h3, h4⟩ := List.pairwise_cons.1 h1.rise
      refine ⟨⟨⟨h1.inn x (by simp), h1.top x (by simp)⟩, ?_⟩, ⟨fun y hy => h1.inn y (by simp [hy]), fun y hy => h1.top y (by simp [hy]), h4⟩, fun d e y hy => ?_⟩
      · cases o with
        | none => rfl
        | some d => exact decide_eq_true (h2 d rfl x (by simp))
      · injection e with e
        rw [← e]; exact h3 y hy
noncomputable def isRow (n : Nat) (K : Int → List Int) (l : List Int) : Bool := rowB n K none l
theorem isRow_iff {l : List Int} : isRow n K l = true ↔ RowK n K l := by
  unfold isRow
  rw [rowB_iff]
  exact ⟨fun h => h.1, fun h => ⟨h, fun d e => (by cases e)⟩⟩
/-- What a root of the row is compared with: the one before. -/
def lastD (K : Int → List Int) (l : List Int) (j : Nat) : Option Nat := if j = 0 then none else some (K (l.getD (j - 1) 0)).length
theorem rowB_at (l : List Int) (j : Nat) (hj : j < l.length) : rowB n K (lastD K l j) (l.drop j) = (rootB n K (l.getD j 0) && (decide (j = 0) || decide ((K (l.getD (j - 1) 0)).length < (K (l.getD j 0)).length)) && rowB n K (lastD K l (j + 1)) (l.drop (j + 1))) := by
  have e : l.drop j = l.getD j 0 :: l.drop (j + 1) := by
    rw [List.drop_eq_getElem_cons hj]; simp [List.getD_eq_getElem?_getD, hj]
  rw [e, rowB_cons]
  unfold lastD lessO
  by_cases h : j = 0
  · subst h; simp
  · simp [h]
end
end Go.Proofs.YtmoolbmbdnkooaaGreat

namespace Go.Proofs.YtmoolbmbdnkooaaGreat

/-- How far x has come up: A is what is still above it, of A0 at the beginning; l is its heap's row. -/
structure LiftJ (W : WS) (n : Nat) (R : Nat → List Int) (h : Nat) (x : Int) (A0 : List Int) (K : Int → List Int) (l A : List Int) : Prop where
  inv : CInv n K
  home : BHome W n K (updI R h l)
  hole : BHole W K x
  rows : ∀ g, RowK n K (updI R h l g)
  anc : Anc K x A
  suf : ∃ pre, A0 = pre ++ A
section
variable {W : WS} {n : Nat} {K : Int → List Int} {R : Nat → List Int} {h : Nat} {x : Int} {A0 A l : List Int}
theorem LiftJ.up (J : LiftJ W n R h x A0 K l A) : upK K x = A.head? := by
  have ha := J.anc
  cases A with
  | nil => exact upK_none.2 ha
  | cons p r => exact (upK_some J.inv).2 ha.1
theorem LiftJ.start (I : CInv n K) (B : BHome W n K R) (H : BHole W K x) (hr : ∀ g, RowK n K (R g)) (ha : Anc K x A0) : LiftJ W n R h x A0 K (R h) A0 :=
  ⟨I, by rw [updI_self]; exact B, H, fun g => by rw [updI_self]; exact hr g, ha, [], rfl⟩
/-- The next place. -/
theorem LiftJ.step {p : Int} {r : List Int} (J : LiftJ W n R h x A0 K l (p :: r)) (hx : (cellW W x).home = h) : x ∈ K p ∧ liftF K x = liftK K x p ∧ LiftJ W n R h x A0 (liftF K x) (putL l p x) r := by
  obtain ⟨I, B, H, hr, ha, pre, hp⟩ := J
  have hxp : x ∈ K p := ha.1
  have hu : upK K x = some p := (upK_some I).2 hxp
  have e : liftF K x = liftK K x p := by unfold liftF; rw [hu]
  obtain ⟨I', B', hr', hn⟩ := bin_lift I B hxp
  have eR : (fun g => putL (updI R h l g) p x) = updI R h (putL l p x) := by
    funext g
    by_cases eg : g = h
    · rw [eg, updI_at, updI_at]
    · rw [updI_ne _ _ eg]
      rw [updI_ne _ _ eg]
      have hng : p ∉ R g := fun hm => by
        have h1 : p ∈ updI R h l g := by rw [updI_ne _ _ eg]; exact hm
        have h2 := (B.rootIn I h1).2.1
        have h3 := B.kidHome I hxp
        rw [h2, hx] at h3
        exact eg h3.symm
      exact put_not hng
  rw [e]
  refine ⟨hxp, rfl, I', by rw [← eR]; exact B', hole_lift I B H hxp, fun g => ?_, anc_lift I ha, pre ++ [p], by rw [hp, List.append_assoc]; rfl⟩
  have := hr' g (hr g)
  rw [← eR]
  exact this
/-- How far there still is to go, by what was above it at the beginning. -/
def lifted (K0 : Int → List Int) (ok : Bool) (p : Int) : Nat := if ok then 20 - (K0 p).length else 0
theorem lifted_less {K0 : Int → List Int} (I : CInv n K0) (hn : n ≤ 65536) (h0 : Anc K0 x A0) {p : Int} {r : List Int} (hs : ∃ pre, A0 = pre ++ p :: r) : lifted K0 r.head?.isSome (r.head?.getD 0) < lifted K0 true p := by
  have hd := deg_16 I hn p
  cases r with
  | nil => simp [lifted]; omega
  | cons q r =>
    obtain ⟨pre, e⟩ := hs
    have hq : p ∈ K0 q := by
      clear hd
      subst e
      induction pre generalizing x with
      | nil => exact h0.2.1
      | cons a pre ih => exact ih h0.2
    have hl := I.less hq
    have hd2 := deg_16 I hn q
    simp only [lifted, List.head?_cons, Option.isSome_some, Option.getD_some, if_true]
    omega
/-- What is above a slot is no more than its heap's size has digits. -/
theorem anc_few (I : CInv n K) (B : BHome W n K R) (hr : ∀ g, RowK n K (R g)) (hx : inW W x = true) (ha : Anc K x A) {k : Nat} (hk : lenW W (cellW W x).home < 2 ^ k) : A.length < k := by
  have h1 := anc_len I ha
  have ht := anc_top ha
  have hin : ∀ {l : List Int} {y : Int}, inW W y = true → Anc K y l → (cellW W ((y :: l).getLast (by simp))).home = (cellW W y).home ∧ inW W ((y :: l).getLast (by simp)) = true := fun {l} => by
    induction l with
    | nil => intro y hy _; exact ⟨rfl, hy⟩
    | cons p l ih =>
      intro y hy h
      rw [List.getLast_cons (by simp)]
      obtain ⟨g1, g2⟩ := ih (B.hung h.1).1 h.2
      exact ⟨g1.trans (B.kidHome I h.1).symm, g2⟩
  obtain ⟨h2, h3⟩ := hin hx ha
  have h4 := B.isRoot I h3 ht
  rw [h2] at h4
  have h5 := (B.rows I (B.up hx).1 (hr _) hk).2.1 _ h4
  omega
end
end Go.Proofs.YtmoolbmbdnkooaaGreat

namespace Go.Proofs.YtmoolbmbdnkooaaGreat
open Go.RowKit Go.Sort

/-- A call on an object whose blocks are F: nothing else that was there has turned; its blocks are now F', old ones of its own or new. -/
structure Moved (F F' : Nat → Prop) (w w' : World) : Prop where
  keeps : Keeps F w w'
  grow : ∀ k, F' k → F k ∨ w.heap.size ≤ k
theorem Moved.refl (F : Nat → Prop) (w : World) : Moved F F w w := ⟨Keeps.refl _ _, fun _ h => Or.inl h⟩
theorem Moved.trans {F G H : Nat → Prop} {a b c : World} (h : Moved F G a b) (k : Moved G H b c) : Moved F H a c :=
  ⟨h.keeps.trans k.keeps (fun i hi hg => by rcases h.grow i hg with h1 | h1; exact h1; omega),
   fun i hi => by
    rcases k.grow i hi with h1 | h1
    · exact h.grow i h1
    · exact Or.inr (Nat.le_trans h.keeps.size h1)⟩
theorem Moved.of_below {F : Nat → Prop} {a b : World} (h : Below a.heap.size a b) : Moved F F a b := ⟨Keeps.of_below_all h F, fun _ h => Or.inl h⟩
/-- What lies below all of an object's blocks is as it was. -/
theorem Moved.below {F F' : Nat → Prop} {w w' : World} (h : Moved F F' w w') {B : Nat} (hB : B ≤ w.heap.size) (hF : ∀ k, F k → B ≤ k) : Below B w w' := h.keeps.below hB hF
/-- Two objects that share no block share none behind a call on one of them. -/
theorem Moved.apart {F F' G : Nat → Prop} {w w' : World} (h : Moved F F' w w') (hG : ∀ k, G k → k < w.heap.size) (hd : ∀ k, F k → ¬ G k) : ∀ k, F' k → ¬ G k := by
  intro k hk hg
  rcases h.grow k hk with h1 | h1
  · exact hd k h1 hg
  · have := hG k hg; omega

/-- The blocks of a row. -/
def rowF (v : Value) : Nat → Prop := fun k => v.ownBlock = some k
/-- An owned row under a call that has turned other blocks alone. -/
theorem owns_keeps {F : Nat → Prop} {w w' : World} {base : Nat} {e : TypeId} {size : Nat} {v : Value} {n : Nat} {xs : List Value} (h : w.ownsRow base e size v n xs) (k : Keeps F w w') (hn : ∀ b, rowF v b → ¬ F b) : w'.ownsRow base e size v n xs := owns_keep h k hn
theorem owns_same {w w' : World} (hh : w'.heap = w.heap) {base : Nat} {e : TypeId} {size : Nat} {v : Value} {n : Nat} {xs : List Value} (h : w.ownsRow base e size v n xs) : w'.ownsRow base e size v n xs := by
  unfold World.ownsRow at *; rw [hh]; exact h
theorem owns_set_other {w : World} {base : Nat} {e : TypeId} {size : Nat} {v : Value} {n : Nat} {xs : List Value} (h : w.ownsRow base e size v n xs) {a : Addr} (ha : v.ownBlock ≠ some a.block) (u : Value) : (w.setCell a u).ownsRow base e size v n xs :=
  owns_keep h (Keeps.setCell (Keeps.refl (· = a.block) w) a (Or.inl rfl) u) (fun b hb e => ha (by rw [hb, e]))
/-- A row's value is a slice of that length. -/
theorem owns_form {w : World} {base : Nat} {e : TypeId} {size : Nat} {v : Value} {n : Nat} {xs : List Value} (h : w.ownsRow base e size v n xs) : ∃ a cap, v = .slice a n cap ∧ n ≤ cap ∧ cap ≤ maxLen := by
  obtain ⟨_, ⟨rfl, rfl⟩ | ⟨g, cap, cur, hv, hg, hh, hle, hmax, _⟩⟩ := h
  · exact ⟨none, 0, rfl, Nat.le_refl _, by decide⟩
  · exact ⟨_, cap, hv, hle, hmax⟩
theorem grown_keeps {w w' : World} {v : Value} (h : w.grownBy w' v.ownBlock) : Keeps (rowF v) w w' := ⟨h.os, h.tape, h.output, h.size, fun k hk hn => h.block k hk (fun e => hn e.symm)⟩
theorem new_cells' (w : World) (c : Array Value) (t : TypeId) (news : List Value) (H : Nat) (hH : w.heap.size = H) (h : news = c.toList) : ∀ j u, news[j]? = some u → (w.alloc (.cells c t)).cell? ((⟨H, 0, none⟩ : Addr).add j) = some u := by
  subst hH; exact new_cells w c t news h
theorem size_alloc (w : World) (o : Obj) : (w.alloc o).heap.size = w.heap.size + 1 := by show (w.heap.push _).size = _; simp
end Go.Proofs.YtmoolbmbdnkooaaGreat

namespace Go.Proofs.YtmoolbmbdnkooaaGreat
open Go.RowKit Go.Sort

/-- A block that is known whole and is none of an object's. -/
structure Box (F : Nat → Prop) (w : World) (b : Nat) (c : Array Value) (t : TypeId) : Prop where
  blk : Blk w b c t
  off : ¬ F b
theorem Box.moved {F F' : Nat → Prop} {w w' : World} {b : Nat} {c : Array Value} {t : TypeId} (h : Box F w b c t) (m : Moved F F' w w') : Box F' w' b c t :=
  ⟨m.keeps.blk h.blk h.off, fun hf => by
    rcases m.grow b hf with h1 | h1
    · exact h.off h1
    · have := blk_lt h.blk; omega⟩
theorem Box.later {F : Nat → Prop} {w w' : World} {b : Nat} {c : Array Value} {t : TypeId} (h : Box F w b c t) (hb : Below w.heap.size w w') : Box F w' b c t := ⟨later_blk hb h.blk, h.off⟩
theorem Box.alloc {F : Nat → Prop} {w : World} {b : Nat} {c : Array Value} {t : TypeId} (h : Box F w b c t) (o : Obj) : Box F (w.alloc o) b c t := ⟨blk_alloc h.blk o, h.off⟩
theorem Box.new {F : Nat → Prop} {w : World} (hF : ∀ k, F k → k < w.heap.size) (c : Array Value) (t : TypeId) : Box F (w.alloc (.cells c t)) w.heap.size c t :=
  ⟨blk_new w c t, fun hf => by have := hF _ hf; omega⟩
theorem Box.cell {F : Nat → Prop} {w : World} {b : Nat} {c : Array Value} {t : TypeId} (h : Box F w b c t) {o : Nat} {v : Value} (hv : c[o]? = some v) : w.cell? ⟨b, o, none⟩ = some v := blk_cell h.blk hv
theorem Moved.alloc {F F' : Nat → Prop} {a b : World} (h : Moved F F' a b) (o : Obj) : Moved F F' a (b.alloc o) := ⟨h.keeps.alloc o, h.grow⟩
theorem Moved.below_old {F F' : Nat → Prop} {B : Nat} {w w' : World} (h : Moved F F' w w') (hF : ∀ k, F k → B ≤ k ∧ k < w.heap.size) (hB : B ≤ w.heap.size) : Below B w w' := h.keeps.below hB (fun k hk => (hF k hk).1)
end Go.Proofs.YtmoolbmbdnkooaaGreat
