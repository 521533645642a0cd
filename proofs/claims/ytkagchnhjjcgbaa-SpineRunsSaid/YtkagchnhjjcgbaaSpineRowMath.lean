/- Trees as a row of things, each with what is next to it: as plain data, and as cells. -/
import Derived.Test.YtkagchnhjjcgbaaSpineAllMath
import Derived.Test.YtkagchnhjjcgbaaRow
namespace Go.Proofs.Ytkagchnhjjcgbaa
open Go.RowKit

/-- What is next to a thing: above it, at its left, at its right; -1 is nothing. -/
structure Th where
  up : Int
  l : Int
  r : Int
def thC (t : Th) : List Value := [.int .i64 t.up, .int .i64 t.l, .int .i64 t.r]
theorem thC_len (t : Th) : (thC t).length = 3 := rfl
def Th.no : Th := ⟨-1, -1, -1⟩
def oI (o : Option Int) : Int := o.getD (-1)
def thOf (L : List Hg) (x : Int) : Th := ⟨oI (upL L x), oI (kidL L x false), oI (kidL L x true)⟩
def rawOf (n : Nat) (L : List Hg) : List Th := (List.range n).map fun i : Nat => thOf L i
theorem raw_len (n : Nat) (L : List Hg) : (rawOf n L).length = n := by simp [rawOf]
theorem raw_at {n : Nat} (L : List Hg) {i : Nat} (h : i < n) (d : Th) : (rawOf n L).getD i d = thOf L i := by
  simp [rawOf, List.getD_eq_getElem?_getD, h]
theorem th_ext {a b : List Th} {n : Nat} (ha : a.length = n) (hb : b.length = n) (h : ∀ i, i < n → a.getD i .no = b.getD i .no) : a = b := by
  apply List.ext_getElem (ha.trans hb.symm)
  intro i h1 h2
  have := h i (by omega)
  simpa [List.getD_eq_getElem?_getD, h1, h2] using this
theorem raw_new (n : Nat) : rawOf n [] = List.replicate n .no := by
  refine th_ext (raw_len _ _) (by simp) (fun i hi => ?_)
  rw [raw_at _ hi]
  simp [List.getD_eq_getElem?_getD, hi, thOf, upL, kidL, oI, Th.no]
/-- Another child on a side. -/
def Th.kid (t : Th) (s : Bool) (x : Int) : Th := if s then ⟨t.up, t.l, x⟩ else ⟨t.up, x, t.r⟩
theorem thC_up (t : Th) (x : Int) : thC ⟨x, t.l, t.r⟩ = (thC t).set 0 (.int .i64 x) := rfl
theorem thC_kid (t : Th) (s : Bool) (x : Int) : thC (t.kid s x) = (thC t).set (1 + s.toNat) (.int .i64 x) := by cases s <;> rfl
theorem th_set_up (l : List Th) (i : Nat) (hi : i < l.length) (x : Int) : (cellsBy thC l).set (i * 3) (.int .i64 x) = cellsBy thC (l.set i ⟨x, (l.getD i .no).l, (l.getD i .no).r⟩) := by
  have := cellsBy_set thC 3 thC_len .no l i 0 (.int .i64 x) _ hi (by omega) (thC_up _ x)
  rwa [Nat.add_zero] at this
theorem th_set_kid (l : List Th) (i : Nat) (hi : i < l.length) (s : Bool) (x : Int) : (cellsBy thC l).set (i * 3 + (1 + s.toNat)) (.int .i64 x) = cellsBy thC (l.set i ((l.getD i .no).kid s x)) :=
  cellsBy_set thC 3 thC_len .no l i (1 + s.toNat) (.int .i64 x) _ hi (by cases s <;> simp) (thC_kid _ s x)
section
variable {n : Nat} {L : List Hg}
theorem up_in (I : HInv n L) {x p : Int} (h : upL L x = some p) : inN n x ∧ inN n p := by
  obtain ⟨g, hg, rfl, rfl⟩ := upL_some h
  exact ⟨(I.rng g hg).2, (I.rng g hg).1⟩
theorem up_out (I : HInv n L) {x : Int} (h : ¬ inN n x) : upL L x = none := by
  cases e : upL L x with
  | none => rfl
  | some p => exact absurd (up_in I e).1 h
theorem kid_out (I : HInv n L) {x : Int} (r : Bool) (h : ¬ inN n x) : kidL L x r = none := by
  cases e : kidL L x r with
  | none => rfl
  | some p => exact absurd (kid_in I e).2 h
theorem oI_none {o : Option Int} (h : ∀ y, o = some y → inN n y) : oI o = -1 ↔ o = none := by
  cases o with
  | none => simp [oI]
  | some y => have := h y rfl; unfold inN at this; simp [oI]; omega
theorem oI_some {o : Option Int} {x : Int} (hx : inN n x) : oI o = x ↔ o = some x := by
  unfold inN at hx
  cases o with
  | none => simp [oI]; omega
  | some y => simp [oI]
/-- Hung. -/
theorem raw_hang {p x : Nat} {s : Bool} (hp : p < n) (hx : x < n) (hne : p ≠ x) (hu : upL L x = none) (hk : kidL L p s = none) :
    ((rawOf n L).set p ((thOf L p).kid s x)).set x ⟨p, (thOf L x).l, (thOf L x).r⟩ = rawOf n (L ++ [⟨p, x, s⟩]) := by
  refine th_ext (by simp [raw_len]) (raw_len _ _) (fun i hi => ?_)
  rw [getD_set' _ _ _ _ _ (by rw [List.length_set, raw_len]; exact hx), getD_set' _ _ _ _ _ (by rw [raw_len]; exact hp), raw_at _ hi, raw_at _ hi]
  have e1 : ∀ y, upL (L ++ [⟨p, x, s⟩]) y = (upL L y).or (if (x : Int) = y then some (p : Int) else none) := up_append L ⟨p, x, s⟩
  have e2 : ∀ q r, kidL (L ++ [⟨p, x, s⟩]) q r = (kidL L q r).or (if (p : Int) = q ∧ s = r then some (x : Int) else none) := kid_append L ⟨p, x, s⟩
  unfold thOf
  rw [e1, e2, e2]
  by_cases h1 : x = i
  · subst h1
    have h2 : (p : Int) ≠ x := by omega
    simp [hu, h2, oI]
  · have h1' : (x : Int) ≠ i := by omega
    by_cases h3 : p = i
    · subst h3
      cases s <;> simp [h1, h1', hk, oI, Th.kid]
    · have h3' : (p : Int) ≠ i := by omega
      simp [h1, h1', h3, h3']
/-- Cut: each side of the one above on which it is, and its way up. -/
theorem raw_cut (I : HInv n L) {p x : Nat} (hp : p < n) (hx : x < n) (hne : p ≠ x) (hu : upL L x = some (p : Int)) :
    ((rawOf n L).set p ⟨oI (upL L p), (if kidL L p false = some (x : Int) then -1 else oI (kidL L p false)), (if kidL L p true = some (x : Int) then -1 else oI (kidL L p true))⟩).set x ⟨-1, oI (kidL L x false), oI (kidL L x true)⟩ = rawOf n (cutL L x) := by
  refine th_ext (by simp [raw_len]) (raw_len _ _) (fun i hi => ?_)
  rw [getD_set' _ _ _ _ _ (by rw [List.length_set, raw_len]; exact hx), getD_set' _ _ _ _ _ (by rw [raw_len]; exact hp), raw_at _ hi, raw_at _ hi]
  unfold thOf
  have hk : ∀ q r, kidL L q r = some (x : Int) → q = (p : Int) := fun q r h => by
    have := I.up_kid.2 ⟨r, h⟩
    rw [hu] at this; injection this with this; exact this.symm
  rw [up_cut, kid_cut I, kid_cut I]
  by_cases h1 : x = i
  · subst h1
    have h2 : ∀ r, kidL L x r ≠ some (x : Int) := fun r h => hne (by have := hk _ _ h; omega)
    simp [h2, oI]
  · have h1' : (i : Int) ≠ x := by omega
    by_cases h3 : p = i
    · subst h3
      by_cases h4 : kidL L p false = some (x : Int) <;> by_cases h5 : kidL L p true = some (x : Int) <;> simp [h1, h1', h4, h5, oI]
    · have h2 : ∀ r, kidL L i r ≠ some (x : Int) := fun r h => h3 (by have := hk _ _ h; omega)
      simp [h1, h1', h3, h2]
theorem cut_same (_I : HInv n L) {x : Int} (hu : upL L x = none) : cutL L x = L := by
  unfold cutL
  rw [List.filter_eq_self]
  intro g hg
  have := upL_none.1 hu g hg
  simpa using this
/-- Turned. -/
theorem raw_turn (L : List Hg) {p : Nat} (hp : p < n) :
    (rawOf n L).set p ⟨oI (upL L p), oI (kidL L p true), oI (kidL L p false)⟩ = rawOf n (turnL L p) := by
  refine th_ext (by simp [raw_len]) (raw_len _ _) (fun i hi => ?_)
  rw [getD_set' _ _ _ _ _ (by rw [raw_len]; exact hp), raw_at _ hi, raw_at _ hi]
  unfold thOf
  rw [up_turn, kid_turn, kid_turn]
  by_cases h3 : p = i
  · subst h3; simp
  · have h3' : (i : Int) ≠ p := by omega
    simp [h3, h3']
theorem turn_same (I : HInv n L) {p : Int} (hp : ¬ inN n p) : turnL L p = L := by
  unfold turnL
  conv => rhs; rw [← List.map_id L]
  apply List.map_congr_left
  intro g hg
  have : (g.p == p) = false := by
    rw [beq_eq_false_iff_ne]
    rintro rfl
    exact hp (I.rng g hg).1
  rw [this]; rfl
end
end Go.Proofs.Ytkagchnhjjcgbaa
