/- Things that are hung, cut and turned, and their trees, as plain data. No program is named here. -/
import Derived.Test.YtkagchnhjjcgbaaSpineMath
namespace Go.Proofs.Ytkagchnhjjcgbaa

def cutL (L : List Hg) (x : Int) : List Hg := L.filter fun g => g.x != x
def turnL (L : List Hg) (p : Int) : List Hg := L.map fun g => if g.p == p then ⟨g.p, g.x, !g.r⟩ else g
theorem mem_cut {L : List Hg} {x : Int} {g : Hg} : g ∈ cutL L x ↔ g ∈ L ∧ g.x ≠ x := by simp [cutL, List.mem_filter]
theorem up_append (L : List Hg) (g : Hg) (y : Int) : upL (L ++ [g]) y = (upL L y).or (if g.x = y then some g.p else none) := by
  unfold upL
  rw [List.find?_append]
  cases h : L.find? fun h => h.x == y with
  | some a => simp
  | none => by_cases e : g.x = y <;> simp [e]
theorem kid_append (L : List Hg) (g : Hg) (q : Int) (r : Bool) : kidL (L ++ [g]) q r = (kidL L q r).or (if g.p = q ∧ g.r = r then some g.x else none) := by
  unfold kidL
  rw [List.find?_append]
  cases h : L.find? fun h => h.p == q && h.r == r with
  | some a => simp
  | none =>
    by_cases e : g.p = q ∧ g.r = r
    · simp [e]
    · have : (g.p == q && g.r == r) = false := by
        rw [Bool.eq_false_iff]; intro h; simp only [Bool.and_eq_true, beq_iff_eq] at h; exact e h
      simp [this, e]
theorem above_up {L : List Hg} {x y q : Int} (h : upL L y = some q) (hne : y ≠ x) : aboveL L x y ↔ aboveL L x q := by
  have e : stepL L y = q := by unfold stepL; rw [h]; rfl
  constructor
  · rintro ⟨k, hk⟩
    cases k with
    | zero => exact absurd hk hne
    | succ k => exact ⟨k, by rw [stepsL, e] at hk; exact hk⟩
  · rintro ⟨k, hk⟩
    exact ⟨k + 1, by rw [stepsL, e]; exact hk⟩
theorem above_top {L : List Hg} {x y : Int} (h : upL L y = none) (ha : aboveL L x y) : x = y := by
  obtain ⟨k, rfl⟩ := ha; exact steps_top h k
section
variable {n : Nat} {L : List Hg}
theorem inv_nil (n : Nat) : HInv n [] := ⟨fun _ h => (by cases h), List.Pairwise.nil, List.Pairwise.nil, fun _ => 0, fun _ h => (by cases h), fun _ _ => rfl⟩
open Classical in
theorem inv_hang (I : HInv n L) {p x : Int} {r : Bool} (hp : inN n p) (hx : inN n x) (hu : upL L x = none) (hk : kidL L p r = none) (ha : ¬ aboveL L x p) : HInv n (L ++ [⟨p, x, r⟩]) := by
  obtain ⟨d, D⟩ := I.dep
  refine ⟨fun g hg => ?_, ?_, ?_, fun y => if aboveL L x y then d y + d p + 1 else d y, fun g hg => ?_, fun y hy => ?_⟩
  · rcases List.mem_append.1 hg with h | h
    · exact I.rng g h
    · rw [List.mem_singleton.1 h]; exact ⟨hp, hx⟩
  · rw [List.pairwise_append]
    refine ⟨I.xs, List.pairwise_singleton _ _, fun a ha b hb => ?_⟩
    rw [List.mem_singleton.1 hb]
    exact upL_none.1 hu a ha
  · rw [List.pairwise_append]
    refine ⟨I.ps, List.pairwise_singleton _ _, fun a ha b hb => ?_⟩
    rw [List.mem_singleton.1 hb]
    exact kidL_none.1 hk a ha
  · rcases List.mem_append.1 hg with h | h
    · have h1 := above_up (x := x) (I.up h) (upL_none.1 hu g h)
      have h2 := D.next g h
      by_cases e : aboveL L x g.p
      · show (if aboveL L x g.x then _ else _) = (if aboveL L x g.p then _ else _) + 1
        rw [if_pos (h1.2 e), if_pos e]; omega
      · show (if aboveL L x g.x then _ else _) = (if aboveL L x g.p then _ else _) + 1
        rw [if_neg (fun h => e (h1.1 h)), if_neg e]; exact h2
    · rw [List.mem_singleton.1 h]
      show (if aboveL L x x then _ else _) = (if aboveL L x p then _ else _) + 1
      rw [if_pos (above_refl L x), if_neg ha, D.top x hu]
      show 0 + d p + 1 = d p + 1
      omega
  · rw [up_append] at hy
    have h1 : upL L y = none := by cases e : upL L y with
      | none => rfl
      | some a => rw [e] at hy; simp at hy
    rw [h1] at hy
    have h2 : x ≠ y := fun e => by simp [e] at hy
    show (if aboveL L x y then _ else _) = 0
    rw [if_neg (fun h => h2 (above_top h1 h)), D.top y h1]
theorem up_cut (L : List Hg) (x y : Int) : upL (cutL L x) y = if y = x then none else upL L y := by
  by_cases e : y = x
  · subst e
    rw [if_pos rfl, upL_none]
    exact fun g hg => (mem_cut.1 hg).2
  · rw [if_neg e]
    unfold upL cutL
    congr 1
    induction L with
    | nil => rfl
    | cons g r ih =>
      rw [List.filter_cons]
      by_cases h : g.x = x
      · have h2 : (g.x == y) = false := by simp [h]; exact fun e' => e e'.symm
        have h1 : (g.x != x) = false := by simp [h]
        rw [h1, List.find?_cons, h2]
        exact ih
      · have h1 : (g.x != x) = true := bne_iff_ne.2 h
        rw [h1]
        simp only [if_true, List.find?_cons]
        rw [ih]
open Classical in
theorem inv_cut (I : HInv n L) (x : Int) : HInv n (cutL L x) := by
  obtain ⟨d, D⟩ := I.dep
  refine ⟨fun g hg => I.rng g (mem_cut.1 hg).1, I.xs.filter _, I.ps.filter _, fun y => if aboveL L x y then d y - d x else d y, fun g hg => ?_, fun y hy => ?_⟩
  · obtain ⟨hg, hne⟩ := mem_cut.1 hg
    have h1 := above_up (x := x) (I.up hg) hne
    have h2 := D.next g hg
    show (if aboveL L x g.x then _ else _) = (if aboveL L x g.p then _ else _) + 1
    by_cases e : aboveL L x g.p
    · have := (D.above e).1
      rw [if_pos (h1.2 e), if_pos e]; omega
    · rw [if_neg (fun h => e (h1.1 h)), if_neg e]; exact h2
  · show (if aboveL L x y then _ else _) = 0
    rw [up_cut] at hy
    by_cases e : y = x
    · subst e
      rw [if_pos (above_refl L y)]; omega
    · rw [if_neg e] at hy
      rw [if_neg (fun h => e (above_top hy h).symm), D.top y hy]
theorem kid_cut (I : HInv n L) (x p : Int) (r : Bool) : kidL (cutL L x) p r = if kidL L p r = some x then none else kidL L p r := by
  have I' := inv_cut I x
  have h : ∀ y, kidL (cutL L x) p r = some y ↔ kidL L p r = some y ∧ y ≠ x := fun y => by
    rw [I'.kid_iff, I.kid_iff]
    constructor
    · rintro ⟨g, hg, h1, h2, h3⟩
      obtain ⟨h4, h5⟩ := mem_cut.1 hg
      exact ⟨⟨g, h4, h1, h2, h3⟩, h1 ▸ h5⟩
    · rintro ⟨⟨g, hg, h1, h2, h3⟩, h4⟩
      exact ⟨g, mem_cut.2 ⟨hg, h1 ▸ h4⟩, h1, h2, h3⟩
  cases e : kidL L p r with
  | none =>
    rw [if_neg (by simp)]
    cases e2 : kidL (cutL L x) p r with
    | none => rfl
    | some y => have := (h y).1 e2; rw [e] at this; simp at this
  | some z =>
    by_cases hz : z = x
    · subst hz
      rw [if_pos rfl]
      cases e2 : kidL (cutL L z) p r with
      | none => rfl
      | some y => have := (h y).1 e2; rw [e] at this; simp at this; exact absurd this.1.symm this.2
    · rw [if_neg (fun h => hz (by injection h)), (h z).2 ⟨e, hz⟩]
theorem up_turn (L : List Hg) (p y : Int) : upL (turnL L p) y = upL L y := by
  unfold upL turnL
  induction L with
  | nil => rfl
  | cons g r ih =>
    simp only [List.map_cons, List.find?_cons]
    by_cases h : g.p = p
    · have h1 : (g.p == p) = true := by simp [h]
      rw [h1]
      simp only [if_true]
      cases e : g.x == y with
      | true => rfl
      | false => exact ih
    · have h1 : (g.p == p) = false := by simpa using h
      rw [h1]
      simp only [Bool.false_eq_true, if_false]
      cases e : g.x == y with
      | true => rfl
      | false => exact ih
theorem kid_turn (L : List Hg) (p q : Int) (r : Bool) : kidL (turnL L p) q r = if q = p then kidL L p (!r) else kidL L q r := by
  unfold kidL turnL
  induction L with
  | nil => simp
  | cons g t ih =>
    simp only [List.map_cons, List.find?_cons]
    by_cases h : g.p = p
    · have h1 : (g.p == p) = true := by simp [h]
      rw [h1]
      simp only [if_true]
      by_cases hq : q = p
      · subst hq
        rw [if_pos rfl] at ih ⊢
        have h2 : (g.p == q) = true := by simp [h]
        simp only [h2, Bool.true_and]
        have h3 : ((!g.r) == r) = (g.r == !r) := by cases g.r <;> cases r <;> rfl
        rw [h3]
        cases hb : (g.r == !r) with
        | true => rfl
        | false => exact ih
      · rw [if_neg hq] at ih ⊢
        have h2 : (g.p == q) = false := by simp [h]; exact fun e => hq e.symm
        simp only [h2, Bool.false_and]
        exact ih
    · have h1 : (g.p == p) = false := by simpa using h
      rw [h1]
      simp only [Bool.false_eq_true, if_false]
      by_cases hq : q = p
      · subst hq
        rw [if_pos rfl] at ih ⊢
        simp only [h1, Bool.false_and]
        exact ih
      · rw [if_neg hq] at ih ⊢
        cases hb : (g.p == q && g.r == r) with
        | true => rfl
        | false => exact ih
theorem turn_turn (L : List Hg) (p : Int) : turnL (turnL L p) p = L := by
  unfold turnL
  rw [List.map_map]
  conv => rhs; rw [← List.map_id L]
  apply List.map_congr_left
  intro g _
  by_cases h : g.p = p
  · subst h; simp
  · have h1 : (g.p == p) = false := by simpa using h
    simp [h]
theorem inv_turn (I : HInv n L) (p : Int) : HInv n (turnL L p) := by
  obtain ⟨d, D⟩ := I.dep
  have hx : ∀ g : Hg, (if g.p == p then (⟨g.p, g.x, !g.r⟩ : Hg) else g).x = g.x ∧ (if g.p == p then (⟨g.p, g.x, !g.r⟩ : Hg) else g).p = g.p := fun g => by split <;> exact ⟨rfl, rfl⟩
  refine ⟨fun g hg => ?_, ?_, ?_, d, fun g hg => ?_, fun y hy => D.top y (by rw [up_turn] at hy; exact hy)⟩
  · obtain ⟨h, hh, rfl⟩ := List.mem_map.1 hg
    rw [(hx h).1, (hx h).2]; exact I.rng h hh
  · unfold turnL
    rw [List.pairwise_map]
    exact I.xs.imp fun h => by rw [(hx _).1, (hx _).1]; exact h
  · unfold turnL
    rw [List.pairwise_map]
    refine I.ps.imp fun {a b} h => ?_
    by_cases ha : a.p = p <;> by_cases hb : b.p = p
    · have e1 : (a.p == p) = true := by simp [ha]
      have e2 : (b.p == p) = true := by simp [hb]
      simp only [e1, e2, if_true]
      intro ⟨h1, h2⟩
      exact h ⟨h1, by revert h2; cases a.r <;> cases b.r <;> simp⟩
    · have e1 : (a.p == p) = true := by simp [ha]
      have e2 : (b.p == p) = false := by simpa using hb
      simp only [e1, e2, if_true, Bool.false_eq_true, if_false]
      exact fun ⟨h1, _⟩ => hb (h1 ▸ ha)
    · have e1 : (a.p == p) = false := by simpa using ha
      have e2 : (b.p == p) = true := by simp [hb]
      simp only [e1, e2, if_true, Bool.false_eq_true, if_false]
      exact fun ⟨h1, _⟩ => ha (h1.symm ▸ hb)
    · have e1 : (a.p == p) = false := by simpa using ha
      have e2 : (b.p == p) = false := by simpa using hb
      simp only [e1, e2, Bool.false_eq_true, if_false]
      exact h
  · obtain ⟨h, hh, rfl⟩ := List.mem_map.1 hg
    rw [(hx h).1, (hx h).2]; exact D.next h hh
end
end Go.Proofs.Ytkagchnhjjcgbaa
