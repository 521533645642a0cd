/- What is cut and hung again where it was, as plain data: all that is asked on the way. -/
import Derived.Test.YtkagchnhjjcgbaaSpineCalls
namespace Go.Proofs.Ytkagchnhjjcgbaa

section
variable {n : Nat} {L : List Hg}
theorem below_not_above (I : HInv n L) {x p : Int} (hu : upL L x = some p) : ¬ aboveL L x p := fun h => by
  obtain ⟨d, D⟩ := I.dep
  have h1 := (D.above h).1
  have h2 := D.up hu
  omega
/-- Which child x is, as it is reckoned. -/
def sideB (L : List Hg) (p x : Int) : Bool := (kidL L p true).isSome && ((kidL L p true).getD 0 == x)
theorem side_kid (I : HInv n L) {x p : Int} (hu : upL L x = some p) : kidL L p (sideB L p x) = some x := by
  obtain ⟨s, hs⟩ := I.up_kid.1 hu
  have e : sideB L p x = s := by
    unfold sideB
    cases s with
    | true => rw [hs]; simp
    | false =>
      cases e : kidL L p true with
      | none => rfl
      | some y =>
        have hne : y ≠ x := fun e2 => by
          subst e2
          exact absurd (I.sides hs e).2 (by decide)
        simp [hne]
  rw [e]; exact hs
theorem root_over (I : HInv n L) {x p : Int} (hu : upL L x = some p) (hx : inN n x) : aboveL L (rootN L n x) p := by
  have h := root_above L n x
  have hne : x ≠ rootN L n x := fun e => by
    have := root_top I hx
    rw [← e, hu] at this
    cases this
  exact (above_up hu hne).1 h
theorem back_len (I : HInv n L) {x p : Int} (hu : upL L x = some p) : (allL (cutL L x) n x).length + (allL (cutL L x) n (rootN L n x)).length = (allL L n (rootN L n x)).length := by
  have hx := (up_in I hu).1
  have hk := side_kid I hu
  have hr : inN n (rootN L n x) := steps_in I n hx
  rw [cut_part I hk, cut_rest I hk hr (root_over I hu hx)]
  omega
/-- The trees with x hung again. -/
def againL (L : List Hg) (p x : Int) : List Hg := cutL L x ++ [⟨p, x, sideB L p x⟩]
theorem cut_not_above (I : HInv n L) {x p : Int} (hu : upL L x = some p) : ¬ aboveL (cutL L x) x p := fun h => by
  have hx := (up_in I hu).1
  have h1 := (mem_all (inv_cut I x) hx).2 h
  rw [cut_part I (side_kid I hu)] at h1
  exact below_not_above I hu ((mem_all I hx).1 h1)
theorem again_hang (I : HInv n L) {x p : Int} (hu : upL L x = some p) : hangB n (cutL L x) p x (sideB L p x) = true ∧ hangL n (cutL L x) p x (sideB L p x) = againL L p x := by
  have hx := (up_in I hu).1
  have hp := (up_in I hu).2
  have hne : p ≠ x := fun e => by subst e; exact below_not_above I hu (above_refl L _)
  have e : hangB n (cutL L x) p x (sideB L p x) = true := by
    unfold hangB
    rw [up_cut, if_pos rfl, cut_kids I (side_kid I hu), if_pos ⟨rfl, rfl⟩, has_in.2 hx, has_in.2 hp, decide_eq_true hne]
    rfl
  exact ⟨e, by unfold hangL; rw [if_pos e]; rfl⟩
theorem again_inv (I : HInv n L) {x p : Int} (hu : upL L x = some p) : HInv n (againL L p x) :=
  inv_hang (inv_cut I x) (up_in I hu).2 (up_in I hu).1 (by rw [up_cut, if_pos rfl]) (by rw [cut_kids I (side_kid I hu), if_pos ⟨rfl, rfl⟩]) (cut_not_above I hu)
theorem again_all (I : HInv n L) {x p : Int} (hu : upL L x = some p) (k : Nat) (y : Int) : allL (againL L p x) k y = allL L k y :=
  all_ext (hung_again I (side_kid I hu)) k y
theorem again_no (I : HInv n L) {x p : Int} (hu : upL L x = some p) : ¬ aboveL (againL L p x) x p ∧ hangB n (againL L p x) p x (sideB L p x) = false := by
  have hx := (up_in I hu).1
  refine ⟨fun h => ?_, ?_⟩
  · have h1 := (mem_all (again_inv I hu) hx).2 h
    rw [again_all I hu] at h1
    exact below_not_above I hu ((mem_all I hx).1 h1)
  · have : upL (againL L p x) x = some p := by rw [againL, up_again I (side_kid I hu), hu]
    unfold hangB
    rw [this]
    simp
end
end Go.Proofs.Ytkagchnhjjcgbaa
