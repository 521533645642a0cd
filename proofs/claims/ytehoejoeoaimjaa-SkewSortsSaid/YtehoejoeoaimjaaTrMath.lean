/- Merged of SpineAllMath, TrMath. -/
import Derived.Test.YtehoejoeoaimjaaSpineTreeMath
namespace Go.Proofs.Ytehoejoeoaimjaa

/-- All of a tree, so many levels of it. -/
def allL (L : List Hg) : Nat → Int → List Int
  | 0, _ => []
  | k + 1, x => x :: (((kidL L x false).elim [] (allL L k)) ++ ((kidL L x true).elim [] (allL L k)))
/-- The right side, so far. -/
def sideL (L : List Hg) : Nat → Int → List Int
  | 0, _ => []
  | k + 1, x => x :: (kidL L x true).elim [] (sideL L k)
theorem all_ext {L L' : List Hg} (h : ∀ q r, kidL L' q r = kidL L q r) : ∀ (k : Nat) (x : Int), allL L' k x = allL L k x
  | 0, _ => rfl
  | k + 1, x => by
    have e : allL L' k = allL L k := funext (all_ext h k)
    rw [allL, allL, h, h, e]
section
variable {n : Nat} {L : List Hg} {d : Int → Nat}
theorem Dep.kid (D : Dep L d) {p x : Int} {r : Bool} (h : kidL L p r = some x) : d x = d p + 1 := by
  obtain ⟨g, hg, rfl, rfl, _⟩ := kidL_some h
  exact D.next g hg
theorem kid_in (I : GInv n L) {p x : Int} {r : Bool} (h : kidL L p r = some x) : inN n x ∧ inN n p := by
  obtain ⟨g, hg, rfl, rfl, _⟩ := kidL_some h
  exact ⟨(I.rng g hg).2, (I.rng g hg).1⟩
theorem kid_above {p x : Int} {r : Bool} (I : GInv n L) (h : kidL L p r = some x) : aboveL L p x :=
  ⟨1, by show stepL L x = p; unfold stepL; rw [I.up_kid.2 ⟨r, h⟩]; rfl⟩
theorem all_fuel (I : GInv n L) (D : Dep L d) : ∀ (k j : Nat) (x : Int), inN n x → n ≤ d x + k → n ≤ d x + j → allL L k x = allL L j x
  | 0, _, x, hx, h, _ => by have := D.lt I hx; omega
  | k + 1, 0, x, hx, _, h => by have := D.lt I hx; omega
  | k + 1, j + 1, x, _, h1, h2 => by
    have hc : ∀ r, (kidL L x r).elim [] (allL L k) = (kidL L x r).elim [] (allL L j) := fun r => by
      cases e : kidL L x r with
      | none => rfl
      | some c => have := D.kid e; exact all_fuel I D k j c (kid_in I e).1 (by omega) (by omega)
    rw [allL, allL, hc, hc]
theorem side_fuel (I : GInv n L) (D : Dep L d) : ∀ (k j : Nat) (x : Int), inN n x → n ≤ d x + k → n ≤ d x + j → sideL L k x = sideL L j x
  | 0, _, x, hx, h, _ => by have := D.lt I hx; omega
  | k + 1, 0, x, hx, _, h => by have := D.lt I hx; omega
  | k + 1, j + 1, x, _, h1, h2 => by
    have hc : (kidL L x true).elim [] (sideL L k) = (kidL L x true).elim [] (sideL L j) := by
      cases e : kidL L x true with
      | none => rfl
      | some c => have := D.kid e; exact side_fuel I D k j c (kid_in I e).1 (by omega) (by omega)
    rw [sideL, sideL, hc]
/-- A tree is its top, its left child's tree, and its right child's. -/
theorem all_eq (I : GInv n L) {x : Int} (hx : inN n x) : allL L n x = x :: (((kidL L x false).elim [] (allL L n)) ++ ((kidL L x true).elim [] (allL L n))) := by
  obtain ⟨d, D⟩ := I.dep
  rw [all_fuel I D n (n + 1) x hx (by omega) (by omega), allL]
theorem side_eq (I : GInv n L) {x : Int} (hx : inN n x) : sideL L n x = x :: (kidL L x true).elim [] (sideL L n) := by
  obtain ⟨d, D⟩ := I.dep
  rw [side_fuel I D n (n + 1) x hx (by omega) (by omega), sideL]
theorem all_above (I : GInv n L) : ∀ (k : Nat) (x y : Int), y ∈ allL L k x → aboveL L x y
  | 0, _, _, h => by cases h
  | k + 1, x, y, h => by
    rw [allL] at h
    have hc : ∀ r, y ∈ (kidL L x r).elim [] (allL L k) → aboveL L x y := fun r hr => by
      cases e : kidL L x r with
      | none => rw [e] at hr; cases hr
      | some c => rw [e] at hr; exact above_trans (kid_above I e) (all_above I k c y hr)
    rcases List.mem_cons.1 h with rfl | h
    · exact above_refl L y
    · exact (List.mem_append.1 h).elim (hc false) (hc true)
/-- The child on the way to what is below. -/
theorem way_down (I : GInv n L) {x y : Int} (h : aboveL L x y) (hne : x ≠ y) : ∃ c r, kidL L x r = some c ∧ aboveL L c y := by
  obtain ⟨d, D⟩ := I.dep
  obtain ⟨h1, h2⟩ := D.above h
  obtain ⟨j, hj⟩ : ∃ j, d y - d x = j + 1 := by
    cases e : d y - d x with
    | zero => rw [e] at h2; exact absurd h2.symm hne
    | succ j => exact ⟨j, rfl⟩
  rw [hj, steps_succ] at h2
  have hc := D.steps j y
  cases e : upL L (stepsL L j y) with
  | none => have := D.top _ e; omega
  | some q =>
    have : q = x := by unfold stepL at h2; rw [e] at h2; exact h2
    subst this
    obtain ⟨r, hr⟩ := I.up_kid.1 e
    exact ⟨_, r, hr, j, rfl⟩
theorem mem_all (I : GInv n L) {x y : Int} (hx : inN n x) : y ∈ allL L n x ↔ aboveL L x y := by
  refine ⟨all_above I n x y, fun h => ?_⟩
  obtain ⟨d, D⟩ := I.dep
  have hgo : ∀ (k : Nat) (x : Int), inN n x → n - d x ≤ k → aboveL L x y → y ∈ allL L n x := by
    intro k
    induction k with
    | zero => intro x hx hk _; have := D.lt I hx; omega
    | succ k ih =>
      intro x hx hk h
      rw [all_eq I hx]
      by_cases e : x = y
      · subst e; simp
      · obtain ⟨c, r, hr, hc⟩ := way_down I h e
        have h1 := D.kid hr
        have h2 := D.lt I hx
        have h3 := ih c (kid_in I hr).1 (by omega) hc
        refine List.mem_cons_of_mem _ (List.mem_append.2 ?_)
        cases r
        · exact Or.inl (by rw [hr]; exact h3)
        · exact Or.inr (by rw [hr]; exact h3)
  exact hgo (n - d x) x hx (Nat.le_refl _) h
/-- Of two things as deep, both above a third one, both are one. -/
theorem above_level (D : Dep L d) {a b y : Int} (ha : aboveL L a y) (hb : aboveL L b y) (h : d a = d b) : a = b := by
  obtain ⟨_, h1⟩ := D.above ha
  obtain ⟨_, h2⟩ := D.above hb
  rw [← h1, ← h2, h]
theorem all_nodup (I : GInv n L) {x : Int} (hx : inN n x) : (allL L n x).Nodup := by
  obtain ⟨d, D⟩ := I.dep
  have hgo : ∀ (k : Nat) (x : Int), inN n x → n - d x ≤ k → (allL L n x).Nodup := by
    intro k
    induction k with
    | zero => intro x hx hk; have := D.lt I hx; omega
    | succ k ih =>
      intro x hx hk
      have h2 := D.lt I hx
      have hc : ∀ r, ((kidL L x r).elim [] (allL L n)).Nodup := fun r => by
        cases e : kidL L x r with
        | none => exact List.nodup_nil
        | some c => have := D.kid e; exact ih c (kid_in I e).1 (by omega)
      have hm : ∀ r y, y ∈ (kidL L x r).elim [] (allL L n) → ∃ c, kidL L x r = some c ∧ aboveL L c y := fun r y hy => by
        cases e : kidL L x r with
        | none => rw [e] at hy; cases hy
        | some c => rw [e] at hy; exact ⟨c, rfl, (mem_all I (kid_in I e).1).1 hy⟩
      have hno : ∀ r, x ∉ (kidL L x r).elim [] (allL L n) := fun r hr => by
        obtain ⟨c, e, h⟩ := hm r x hr
        have := D.kid e
        have := (D.above h).1
        omega
      rw [all_eq I hx, List.nodup_cons, List.nodup_append]
      refine ⟨fun h => (List.mem_append.1 h).elim (hno false) (hno true), hc false, hc true, fun a ha b hb e => ?_⟩
      subst e
      obtain ⟨c1, e1, h1⟩ := hm false a ha
      obtain ⟨c2, e2, h3⟩ := hm true a hb
      have := above_level D h1 h3 (by rw [D.kid e1, D.kid e2])
      subst this
      exact absurd (I.sides e1 e2).2 (by decide)
  exact hgo (n - d x) x hx (Nat.le_refl _)
/-- What is topmost, as the document reckons it. -/
def rootN (L : List Hg) (n : Nat) (x : Int) : Int := stepsL L n x
theorem root_top (I : GInv n L) {x : Int} (hx : inN n x) : upL L (rootN L n x) = none := by
  obtain ⟨d, D⟩ := I.dep
  exact D.root (Nat.le_of_lt (D.lt I hx))
theorem root_above (L : List Hg) (n : Nat) (x : Int) : aboveL L (rootN L n x) x := ⟨n, rfl⟩
/-- What is in the tree of a top has that top. -/
theorem root_iff (I : GInv n L) {x y : Int} (hy : inN n y) (hx : upL L x = none) : aboveL L x y ↔ rootN L n y = x := by
  obtain ⟨d, D⟩ := I.dep
  constructor
  · intro h
    exact above_level D (root_above L n y) h (by rw [D.top _ (root_top I hy), D.top _ hx])
  · rintro rfl; exact root_above L n y
theorem root_self (I : GInv n L) {x : Int} (hx : inN n x) : rootN L n x = x ↔ upL L x = none := by
  constructor
  · intro h; rw [← h]; exact root_top I hx
  · intro h; exact steps_top h n
/-- What differs elsewhere alone, leaves a tree as it is. -/
theorem all_congr {L' : List Hg} (I : GInv n L) : ∀ (k : Nat) (x : Int), (∀ q, aboveL L x q → ∀ r, kidL L' q r = kidL L q r) → allL L' k x = allL L k x
  | 0, _, _ => rfl
  | k + 1, x, h => by
    have hc : ∀ r, (kidL L' x r).elim [] (allL L' k) = (kidL L x r).elim [] (allL L k) := fun r => by
      rw [h x (above_refl L x)]
      cases e : kidL L x r with
      | none => rfl
      | some c => exact all_congr I k c fun q hq => h q (above_trans (kid_above I e) hq)
    rw [allL, allL, hc, hc]
end
/-! ### what is cut, and hung again -/
section
variable {n : Nat} {L : List Hg}
theorem cut_kids (I : GInv n L) {x p : Int} {r0 : Bool} (h : kidL L p r0 = some x) (q : Int) (r : Bool) : kidL (cutL L x) q r = if q = p ∧ r = r0 then none else kidL L q r := by
  rw [kid_cut I]
  by_cases e : q = p ∧ r = r0
  · rw [e.1, e.2, if_pos h, if_pos ⟨rfl, rfl⟩]
  · rw [if_neg e, if_neg (fun h2 => e (I.sides h2 h))]
theorem cut_part (I : GInv n L) {x p : Int} {r0 : Bool} (h : kidL L p r0 = some x) : allL (cutL L x) n x = allL L n x := by
  obtain ⟨d, D⟩ := I.dep
  refine all_congr I n x fun q hq r => ?_
  rw [cut_kids I h, if_neg (fun e => ?_)]
  have h1 := (D.above hq).1
  have h2 := D.kid h
  rw [e.1] at h1
  omega
theorem cut_rest (I : GInv n L) {x p : Int} {r0 : Bool} (h : kidL L p r0 = some x) {y : Int} (hy : inN n y) (ha : aboveL L y p) : (allL L n y).length = (allL (cutL L x) n y).length + (allL L n x).length := by
  obtain ⟨d, D⟩ := I.dep
  have I' := inv_cut I x
  have hoff : ∀ {c : Int}, ¬ aboveL L c p → allL (cutL L x) n c = allL L n c := fun hc => all_congr I n _ fun q hq r => by
    rw [cut_kids I h, if_neg (fun e : q = p ∧ r = r0 => hc (by rw [← e.1]; exact hq))]
  have hgo : ∀ (k : Nat) (y : Int), inN n y → n - d y ≤ k → aboveL L y p → (allL L n y).length = (allL (cutL L x) n y).length + (allL L n x).length := by
    intro k
    induction k with
    | zero => intro y hy hk _; have := D.lt I hy; omega
    | succ k ih =>
      intro y hy hk ha
      have hlt := D.lt I hy
      rw [all_eq I hy, all_eq I' hy]
      simp only [List.length_cons, List.length_append]
      have hx := D.kid h
      by_cases e : y = p
      · subst e
        have hother : ∀ r, r ≠ r0 → (kidL (cutL L x) y r).elim [] (allL (cutL L x) n) = (kidL L y r).elim [] (allL L n) := fun r hr => by
          rw [cut_kids I h, if_neg (fun e => hr e.2)]
          cases e : kidL L y r with
          | none => rfl
          | some c => exact hoff fun hc => by have := (D.above hc).1; have := D.kid e; omega
        have hthis : (kidL (cutL L x) y r0).elim [] (allL (cutL L x) n) = [] := by rw [cut_kids I h, if_pos ⟨rfl, rfl⟩]; rfl
        have hthat : (kidL L y r0).elim [] (allL L n) = allL L n x := by rw [h]; rfl
        cases r0
        · rw [hthis, hthat, hother true (by decide)]; simp; omega
        · rw [hthis, hthat, hother false (by decide)]; simp; omega
      · obtain ⟨c, r, hr, hc⟩ := way_down I ha e
        have hkid : ∀ s, kidL (cutL L x) y s = kidL L y s := fun s => by rw [cut_kids I h, if_neg (fun e2 => e e2.1)]
        have h1 := ih c (kid_in I hr).1 (by have := D.kid hr; omega) hc
        have hother : ∀ s, s ≠ r → (kidL L y s).elim [] (allL (cutL L x) n) = (kidL L y s).elim [] (allL L n) := fun s hs => by
          cases e2 : kidL L y s with
          | none => rfl
          | some c2 =>
            have h3 : ¬ aboveL L c2 p := fun hc2 => by
              have h4 := above_level D hc hc2 (by rw [D.kid hr, D.kid e2])
              subst h4
              exact hs (I.sides hr e2).2.symm
            exact hoff h3
        rw [hkid, hkid]
        cases r
        · rw [hr, hother true (by decide)]; simp only [Option.elim]; omega
        · rw [hr, hother false (by decide)]; simp only [Option.elim]; omega
  exact hgo (n - d y) y hy (Nat.le_refl _) ha
theorem hung_again (I : GInv n L) {x p : Int} {r0 : Bool} (h : kidL L p r0 = some x) (q : Int) (r : Bool) : kidL (cutL L x ++ [⟨p, x, r0⟩]) q r = kidL L q r := by
  rw [kid_append, cut_kids I h]
  by_cases e : q = p ∧ r = r0
  · rw [if_pos e, e.1, e.2, h]; simp
  · rw [if_neg e, if_neg (fun e2 => e ⟨e2.1.symm, e2.2.symm⟩)]; simp
theorem up_again (I : GInv n L) {x p : Int} {r0 : Bool} (h : kidL L p r0 = some x) (y : Int) : upL (cutL L x ++ [⟨p, x, r0⟩]) y = upL L y := by
  rw [up_append, up_cut]
  by_cases e : y = x
  · subst e; rw [if_pos rfl, I.up_kid.2 ⟨r0, h⟩]; simp
  · rw [if_neg e, if_neg (fun e2 => e e2.symm)]; simp
/-- All trees together have each thing once: in the tree of its top, and in no other one. -/
theorem parts_once (I : GInv n L) {x y : Int} (hx : inN n x) (hy : inN n y) (ht : upL L x = none) : (allL L n x).count y = if rootN L n y = x then 1 else 0 := by
  by_cases h : rootN L n y = x
  · rw [if_pos h, (all_nodup I hx).count, if_pos ((mem_all I hx).2 ((root_iff I hy ht).2 h))]
  · rw [if_neg h, List.count_eq_zero.2 (fun hm => h ((root_iff I hy ht).1 ((mem_all I hx).1 hm)))]
theorem all_in (I : GInv n L) {x y : Int} (hx : inN n x) (h : y ∈ allL L n x) : inN n y := by
  by_cases e : x = y
  · subst e; exact hx
  · obtain ⟨d, D⟩ := I.dep
    have ha := (mem_all I hx).1 h
    cases hu : upL L y with
    | none => exact absurd (above_top hu ha) e
    | some q => obtain ⟨g, hg, rfl, _⟩ := upL_some hu; exact (I.rng g hg).2
end
end Go.Proofs.Ytehoejoeoaimjaa

namespace Go.Proofs.Ytehoejoeoaimjaa

/-- A tree of slots. -/
inductive Tr where
  | nil : Tr
  | node (x : Int) (l r : Tr) : Tr
namespace Tr
def size : Tr → Nat
  | nil => 0
  | node _ l r => size l + size r + 1
def slots : Tr → List Int
  | nil => []
  | node x l r => x :: (slots l ++ slots r)
/-- How long the way to the right is. -/
def spine : Tr → Nat
  | nil => 0
  | node _ _ r => spine r + 1
theorem size_slots : ∀ t : Tr, t.slots.length = t.size
  | nil => rfl
  | node x l r => by simp [slots, size, size_slots l, size_slots r]
/-! ### a tree within another one -/
/-- The way from a tree's top to a place: by the left, or by the right. -/
inductive Way where
  | here : Way
  | left (x : Int) (c : Way) (r : Tr) : Way
  | right (x : Int) (l : Tr) (c : Way) : Way
def fill : Way → Tr → Tr
  | .here, t => t
  | .left x c r, t => node x (fill c t) r
  | .right x l c, t => node x l (fill c t)
theorem fill_mono : ∀ (c : Way) {t t' : Tr}, size t' ≤ size t → size (fill c t') ≤ size (fill c t)
  | .here, t, t', h => h
  | .left x c r, t, t', h => by have := fill_mono c h; simp only [fill, size]; omega
  | .right x l c, t, t', h => by have := fill_mono c h; simp only [fill, size]; omega
theorem fill_perm : ∀ (c : Way) (t : Tr), (fill c t).slots.Perm (t.slots ++ (fill c nil).slots)
  | .here, t => by simp [fill, slots]
  | .left x c r, t => by
    have h := fill_perm c t
    rw [List.perm_iff_count] at *
    intro z
    have h := h z
    simp only [fill, slots, List.count_append, List.count_cons] at h ⊢
    omega
  | .right x l c, t => by
    have h := fill_perm c t
    rw [List.perm_iff_count] at *
    intro z
    have h := h z
    simp only [fill, slots, List.count_append, List.count_cons] at h ⊢
    omega
theorem fill_size (c : Way) (t : Tr) : size (fill c t) = size t + size (fill c nil) := by
  have := (fill_perm c t).length_eq
  rw [List.length_append, size_slots, size_slots, size_slots] at this
  exact this
/-! ### none is ahead of that above it -/
def top : Tr → Option Int
  | nil => none
  | node x _ _ => some x
def Under (lt : Int → Int → Bool) (x : Int) (t : Tr) : Prop := ∀ y ∈ t.slots, lt y x = false
def Ok (lt : Int → Int → Bool) : Tr → Prop
  | nil => True
  | node x l r => Under lt x l ∧ Under lt x r ∧ Ok lt l ∧ Ok lt r
end Tr
/-- What hangs where is the tree t. -/
def RepT (kid : Int → Bool → Option Int) : Option Int → Tr → Prop
  | o, .nil => o = none
  | o, .node x l r => o = some x ∧ RepT kid (kid x false) l ∧ RepT kid (kid x true) r
theorem rep_unique {kid : Int → Bool → Option Int} : ∀ {t u : Tr} {o : Option Int}, RepT kid o t → RepT kid o u → t = u
  | .nil, .nil, _, _, _ => rfl
  | .nil, .node x l r, o, h1, h2 => by rw [show o = none from h1] at h2; exact absurd h2.1 (by simp)
  | .node x l r, .nil, o, h1, h2 => by rw [show o = none from h2] at h1; exact absurd h1.1 (by simp)
  | .node x l r, .node y l' r', o, h1, h2 => by
    have e : x = y := by have := h1.1.symm.trans h2.1; injection this
    subst e
    rw [rep_unique h1.2.1 h2.2.1, rep_unique h1.2.2 h2.2.2]
theorem rep_congr {kid kid' : Int → Bool → Option Int} : ∀ {t : Tr} {o : Option Int}, (∀ x ∈ t.slots, ∀ s, kid' x s = kid x s) → RepT kid o t → RepT kid' o t
  | .nil, _, _, h => h
  | .node x l r, o, hk, h => ⟨h.1, by rw [hk x (by simp [Tr.slots])]; exact rep_congr (fun y hy => hk y (by simp [Tr.slots, hy])) h.2.1, by rw [hk x (by simp [Tr.slots])]; exact rep_congr (fun y hy => hk y (by simp [Tr.slots, hy])) h.2.2⟩
section
variable {n : Nat} {L : List Hg}
theorem rep_ex (I : GInv n L) {x : Int} (hx : inN n x) : ∃ t, RepT (kidL L) (some x) t := by
  obtain ⟨d, D⟩ := I.dep
  have hgo : ∀ (k : Nat) (x : Int), inN n x → n - d x ≤ k → ∃ t, RepT (kidL L) (some x) t := by
    intro k
    induction k with
    | zero => intro x hx hk; have := D.lt I hx; omega
    | succ k ih =>
      intro x hx hk
      have hlt := D.lt I hx
      have hs : ∀ s, ∃ t, RepT (kidL L) (kidL L x s) t := fun s => by
        cases e : kidL L x s with
        | none => exact ⟨.nil, rfl⟩
        | some c => have := D.kid e; exact ih c (kid_in I e).1 (by omega)
      obtain ⟨l, hl⟩ := hs false
      obtain ⟨r, hr⟩ := hs true
      exact ⟨.node x l r, rfl, hl, hr⟩
  exact hgo _ x hx (Nat.le_refl _)
theorem rep_all (I : GInv n L) : ∀ {t : Tr} {o : Option Int}, RepT (kidL L) o t → (∀ x, o = some x → inN n x) → o.elim [] (allL L n) = t.slots
  | .nil, o, h, _ => by rw [show o = none from h]; rfl
  | .node x l r, o, h, hin => by
    have hx := hin x h.1
    have hk : ∀ s y, kidL L x s = some y → inN n y := fun s y e => (kid_in I e).1
    rw [h.1]
    show allL L n x = _
    rw [all_eq I hx, rep_all I h.2.1 (hk false), rep_all I h.2.2 (hk true)]
    rfl
/-- The slots on the way to the right. -/
def Tr.side : Tr → List Int
  | .nil => []
  | .node x _ r => x :: Tr.side r
theorem Tr.side_len : ∀ t : Tr, t.side.length = t.spine
  | .nil => rfl
  | .node x l r => by simp [Tr.side, Tr.spine, Tr.side_len r]
theorem rep_side (I : GInv n L) : ∀ {t : Tr} {o : Option Int}, RepT (kidL L) o t → (∀ x, o = some x → inN n x) → o.elim [] (sideL L n) = t.side
  | .nil, o, h, _ => by rw [show o = none from h]; rfl
  | .node x l r, o, h, hin => by
    have hx := hin x h.1
    rw [h.1]
    show sideL L n x = _
    rw [side_eq I hx, rep_side I h.2.2 (fun y e => (kid_in I e).1)]
    rfl
end
end Go.Proofs.Ytehoejoeoaimjaa
