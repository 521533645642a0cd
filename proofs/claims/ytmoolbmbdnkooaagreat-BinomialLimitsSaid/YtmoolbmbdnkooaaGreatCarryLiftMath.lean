/- A thing that changes places with that above it, as plain data: two names are exchanged. No program is named here. -/
import Derived.Test.YtmoolbmbdnkooaaGreatCarryRowMath
namespace Go.Proofs.YtmoolbmbdnkooaaGreat

/-- x and p exchanged. -/
def swK (x p z : Int) : Int := if z = x then p else if z = p then x else z
theorem sw_sw (x p z : Int) : swK x p (swK x p z) = z := by
  unfold swK
  by_cases h1 : z = x
  · subst h1
    rw [if_pos rfl]
    by_cases h2 : p = z
    · rw [if_pos h2, h2]
    · rw [if_neg h2, if_pos rfl]
  · rw [if_neg h1]
    by_cases h2 : z = p
    · subst h2; rw [if_pos rfl, if_pos rfl]
    · rw [if_neg h2, if_neg h1, if_neg h2]
theorem sw_x (x p : Int) : swK x p x = p := by unfold swK; rw [if_pos rfl]
theorem sw_p (x p : Int) : swK x p p = x := by
  unfold swK
  by_cases h : p = x
  · rw [if_pos h, h]
  · rw [if_neg h, if_pos rfl]
theorem sw_else {x p z : Int} (h1 : z ≠ x) (h2 : z ≠ p) : swK x p z = z := by unfold swK; rw [if_neg h1, if_neg h2]
theorem sw_inj {x p a b : Int} (h : swK x p a = swK x p b) : a = b := by rw [← sw_sw x p a, h, sw_sw]
def liftK (K : Int → List Int) (x p : Int) : Int → List Int := fun z => (K (swK x p z)).map (swK x p)
theorem mem_lift {K : Int → List Int} {x p z y : Int} : y ∈ liftK K x p z ↔ swK x p y ∈ K (swK x p z) := by
  unfold liftK
  rw [List.mem_map]
  constructor
  · rintro ⟨a, ha, rfl⟩; rw [sw_sw]; exact ha
  · intro h; exact ⟨_, h, sw_sw x p y⟩
theorem lift_deg (K : Int → List Int) (x p z : Int) : (liftK K x p z).length = (K (swK x p z)).length := by simp [liftK]
theorem sw_in {n : Nat} {x p z : Int} (hx : inN n x) (hp : inN n p) (h : inN n z) : inN n (swK x p z) := by
  unfold swK; split
  · exact hp
  · split
    · exact hx
    · exact h
section
variable {n : Nat} {K : Int → List Int}
theorem lift_inv (I : CInv n K) {x p : Int} (h : x ∈ K p) : CInv n (liftK K x p) := by
  obtain ⟨hp, hx⟩ := I.rng p x h
  refine ⟨fun q y hy => ?_, fun q r y h1 h2 => ?_, fun q => ?_, fun q i k hk => ?_⟩
  · obtain ⟨h1, h2⟩ := I.rng _ _ (mem_lift.1 hy)
    have h3 := sw_in hx hp h1
    have h4 := sw_in hx hp h2
    rw [sw_sw] at h3 h4
    exact ⟨h3, h4⟩
  · exact sw_inj (I.one _ _ _ (mem_lift.1 h1) (mem_lift.1 h2))
  · unfold liftK
    rw [List.nodup_iff_pairwise_ne, List.pairwise_map]
    exact (I.nodup (swK x p q)).imp (fun hne e => hne (sw_inj e))
  · unfold liftK at hk
    rw [List.getElem?_map, Option.map_eq_some_iff] at hk
    obtain ⟨c, hc, rfl⟩ := hk
    rw [lift_deg, sw_sw]
    exact I.cube _ i c hc
theorem lift_top {x p z : Int} : topK (liftK K x p) z ↔ topK K (swK x p z) := by
  constructor
  · intro h q hq
    exact h (swK x p q) (mem_lift.2 (by rw [sw_sw]; exact hq))
  · intro h q hq
    exact h _ (mem_lift.1 hq)
/-- .. as the document has it: one thing in the place of another one. -/
def putL (l : List Int) (x y : Int) : List Int := l.map fun z => if z = x then y else z
theorem put_not {l : List Int} {x y : Int} (h : x ∉ l) : putL l x y = l := by
  unfold putL
  conv => rhs; rw [← List.map_id l]
  apply List.map_congr_left
  intro z hz
  rw [if_neg (fun e : z = x => h (by rw [← e]; exact hz))]; rfl
theorem lift_doc (I : CInv n K) {x p : Int} (h : x ∈ K p) (z : Int) : liftK K x p z = if z = x then putL (K p) x p else if z = p then K x else putL (K z) p x := by
  have hxp := I.less h
  have pp : p ∉ K p := fun e => by have := I.less e; omega
  have px : p ∉ K x := fun e => by have := I.less e; omega
  have xx : x ∉ K x := fun e => by have := I.less e; omega
  have hmap : ∀ l : List Int, p ∉ l → l.map (swK x p) = putL l x p := fun l hl => by
    unfold putL
    apply List.map_congr_left
    intro a ha
    unfold swK
    by_cases e : a = x
    · rw [if_pos e, if_pos e]
    · rw [if_neg e, if_neg e, if_neg (fun e2 : a = p => hl (by rw [← e2]; exact ha))]
  unfold liftK
  by_cases h1 : z = x
  · rw [if_pos h1, h1, sw_x]; exact hmap _ pp
  · rw [if_neg h1]
    by_cases h2 : z = p
    · rw [if_pos h2, h2, sw_p, hmap _ px, put_not xx]
    · rw [if_neg h2, sw_else h1 h2]
      unfold putL
      apply List.map_congr_left
      intro a ha
      have hax : a ≠ x := fun e => h2 (I.one z p x (e ▸ ha) h)
      unfold swK
      rw [if_neg hax]
/-! ### all above a thing -/
def Anc (K : Int → List Int) : Int → List Int → Prop
  | x, [] => topK K x
  | x, p :: l => x ∈ K p ∧ Anc K p l
theorem anc_deg (I : CInv n K) : ∀ {l : List Int} {x : Int}, Anc K x l → ∀ q ∈ l, (K x).length < (K q).length
  | [], _, _, q, hq => by cases hq
  | p :: l, x, h, q, hq => by
    have h1 := I.less h.1
    rcases List.mem_cons.1 hq with e | hq
    · rw [e]; exact h1
    · have := anc_deg I h.2 q hq; omega
theorem anc_len (I : CInv n K) : ∀ {l : List Int} {x : Int}, Anc K x l → (K x).length + l.length ≤ (K ((x :: l).getLast (by simp))).length
  | [], x, _ => Nat.le_refl _
  | p :: l, x, h => by
    have h1 := I.less h.1
    have h2 := anc_len I h.2
    rw [List.getLast_cons (by simp)]
    simp only [List.length_cons]
    omega
theorem anc_top : ∀ {l : List Int} {x : Int}, Anc K x l → topK K ((x :: l).getLast (by simp))
  | [], _, h => h
  | p :: l, x, h => by rw [List.getLast_cons (by simp)]; exact anc_top h.2
/-- There is such a list. -/
theorem anc_ex (I : CInv n K) (x : Int) : ∃ l, Anc K x l := by
  have hb : ∀ y, (K y).length ≤ n := fun y => by
    have h := tree_size I y
    have hgo : ∀ (m : Nat) (l : List Nat), l.Nodup → (∀ x ∈ l, x < m) → l.length ≤ m := fun m => by
      induction m with
      | zero =>
        intro l _ h
        cases l with
        | nil => exact Nat.le_refl _
        | cons a r => exact absurd (h a (by simp)) (by omega)
      | succ m ih =>
        intro l hn h
        have h1 := ih (l.erase m) (hn.erase m) (fun x hx => by
          have h1 := (List.Nodup.mem_erase_iff hn).1 hx
          have h2 := h x h1.2
          have h3 := h1.1
          omega)
        have := List.length_erase (a := m) (l := l)
        split at this <;> omega
    by_cases hy : inN n y
    · have h2 := hgo n ((treeK K y).map Int.toNat) (by
        rw [List.nodup_iff_pairwise_ne, List.pairwise_map]
        refine (tree_nodup I y).imp_of_mem ?_
        intro a b ha hb hne e
        have h1 := tree_in I hy ha
        have h2 := tree_in I hy hb
        unfold inN at h1 h2
        omega) (fun z hz => by
        obtain ⟨a, ha, rfl⟩ := List.mem_map.1 hz
        have := tree_in I hy ha
        unfold inN at this
        omega)
      rw [List.length_map, h] at h2
      have := Nat.lt_two_pow_self (n := (K y).length)
      omega
    · cases e : K y with
      | nil => simp
      | cons a r => exact absurd (I.rng y a (by rw [e]; simp)).1 hy
  have hgo : ∀ (k : Nat) (x : Int), n - (K x).length ≤ k → ∃ l, Anc K x l := by
    intro k
    induction k with
    | zero =>
      intro x hk
      refine ⟨[], fun p hp => ?_⟩
      have := I.less hp; have := hb p; omega
    | succ k ih =>
      intro x hk
      by_cases h : ∃ p, x ∈ K p
      · obtain ⟨p, hp⟩ := h
        have := I.less hp; have := hb p
        obtain ⟨l, hl⟩ := ih p (by omega)
        exact ⟨p :: l, hp, hl⟩
      · exact ⟨[], fun p hp => h ⟨p, hp⟩⟩
  exact hgo _ x (Nat.le_refl _)
/-- What lies above both is as it was. -/
theorem anc_else {x p : Int} : ∀ {l : List Int} {q : Int}, q ≠ x → q ≠ p → (∀ r ∈ l, r ≠ x ∧ r ≠ p) → Anc K q l → Anc (liftK K x p) q l
  | [], q, h1, h2, _, h => lift_top.2 (by rw [sw_else h1 h2]; exact h)
  | r :: l, q, h1, h2, h3, h => by
    obtain ⟨h4, h5⟩ := h3 r (by simp)
    exact ⟨mem_lift.2 (by rw [sw_else h1 h2, sw_else h4 h5]; exact h.1), anc_else h4 h5 (fun a ha => h3 a (by simp [ha])) h.2⟩
/-- Lifted, a thing is where that above it was. -/
theorem anc_lift (I : CInv n K) {x p : Int} {l : List Int} (h : Anc K x (p :: l)) : Anc (liftK K x p) x l := by
  have hd := anc_deg I h.2
  have hxp := I.less h.1
  have hne : ∀ r ∈ l, r ≠ x ∧ r ≠ p := fun r hr => ⟨fun e => by have := hd r hr; rw [e] at this; omega, fun e => by have := hd r hr; rw [e] at this; omega⟩
  cases l with
  | nil => exact lift_top.2 (by rw [sw_x]; exact h.2)
  | cons q l =>
    obtain ⟨h4, h5⟩ := hne q (by simp)
    exact ⟨mem_lift.2 (by rw [sw_x, sw_else h4 h5]; exact h.2.1), anc_else h4 h5 (fun a ha => hne a (by simp [ha])) h.2.2⟩
theorem top_lift (I : CInv n K) {x p : Int} {l : List Int} (h : Anc K x (p :: l)) : (liftK K x p ((x :: l).getLast (by simp))).length = (K ((x :: p :: l).getLast (by simp))).length := by
  rw [lift_deg]
  cases l with
  | nil => rw [List.getLast_singleton, sw_x]; rfl
  | cons q l =>
    have hd := anc_deg I h.2
    have hxp := I.less h.1
    have hm : (q :: l).getLast (by simp) ∈ q :: l := List.getLast_mem _
    have h1 := hd _ hm
    have e1 : (x :: q :: l).getLast (by simp) = (q :: l).getLast (by simp) := List.getLast_cons (by simp)
    have e2 : (x :: p :: q :: l).getLast (by simp) = (q :: l).getLast (by simp) := by rw [List.getLast_cons (by simp), List.getLast_cons (by simp)]
    rw [e1, e2]
    rw [sw_else (fun e => by rw [e] at h1; omega) (fun e => by rw [e] at h1; omega)]
end
end Go.Proofs.YtmoolbmbdnkooaaGreat
