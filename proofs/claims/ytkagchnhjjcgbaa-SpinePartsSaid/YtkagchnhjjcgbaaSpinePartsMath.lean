/- How often each thing was seen in the trees so far, as plain data. No program is named here. -/
import Derived.Test.YtkagchnhjjcgbaaSpineAllMath
namespace Go.Proofs.Ytkagchnhjjcgbaa

/-- What is told of each thing. -/
def seenL (m : Nat) (f : Nat → Nat) : List Int := (List.range m).map fun y => (f y : Int)
theorem seen_len (m : Nat) (f : Nat → Nat) : (seenL m f).length = m := by simp [seenL]
theorem seen_at {m : Nat} (f : Nat → Nat) {y : Nat} (h : y < m) (d : Int) : (seenL m f).getD y d = f y := by
  simp [seenL, List.getD_eq_getElem?_getD, h]
theorem seen_ext {m : Nat} {f g : Nat → Nat} (h : ∀ y, y < m → f y = g y) : seenL m f = seenL m g := by
  unfold seenL
  apply List.map_congr_left
  intro y hy
  rw [h y (List.mem_range.1 hy)]
theorem seen_zero (m : Nat) : seenL m (fun _ => 0) = List.replicate m 0 := by
  apply List.ext_getElem (by simp [seenL])
  intro i h1 h2
  simp [seenL]
def incF (f : Nat → Nat) (y : Nat) : Nat → Nat := fun z => if z = y then f z + 1 else f z
theorem seen_set {m : Nat} (f : Nat → Nat) {y : Nat} (_h : y < m) : (seenL m f).set y ((f y : Int) + 1) = seenL m (incF f y) := by
  apply List.ext_getElem (by simp [seenL])
  intro i h1 h2
  have hi : i < m := by simpa [seenL] using h2
  rw [List.getElem_set]
  by_cases e : y = i
  · subst e
    simp [seenL, incF]
  · have e' : i ≠ y := fun h => e h.symm
    simp [seenL, incF, e, e']
section
variable {n : Nat} {L : List Hg}
/-- Seen: those whose top came so far. -/
def doneF (L : List Hg) (n j : Nat) : Nat → Nat := fun y => if rootN L n y < j then 1 else 0
/-- .. and so many of the tree at hand. -/
def partF (L : List Hg) (n j i : Nat) : Nat → Nat := fun y => doneF L n j y + ((allL L n j).take i).count (y : Int)
theorem done_zero (I : HInv n L) {y : Nat} (hy : y < n) : doneF L n 0 y = 0 := by
  have := steps_in I n (x := y) ⟨by omega, by omega⟩
  unfold doneF
  rw [if_neg]
  have h2 : 0 ≤ rootN L n y := this.1
  omega
theorem done_all (I : HInv n L) {y : Nat} (hy : y < n) : doneF L n n y = 1 := by
  have := steps_in I n (x := y) ⟨by omega, by omega⟩
  unfold doneF
  rw [if_pos]
  exact this.2
theorem part_zero (L : List Hg) (n j y : Nat) : partF L n j 0 y = doneF L n j y := by simp [partF]
theorem part_succ (L : List Hg) (n j i : Nat) {y : Int} (hi : i < (allL L n j).length) (hy : (allL L n j).getD i 0 = y) (z : Nat) : partF L n j (i + 1) z = if (z : Int) = y then partF L n j i z + 1 else partF L n j i z := by
  unfold partF
  have e : (allL L n j).take (i + 1) = (allL L n j).take i ++ [y] := by
    rw [List.take_succ_eq_append_getElem hi]
    rw [← hy]
    simp [List.getD_eq_getElem?_getD, hi]
  rw [e, List.count_append, List.count_singleton]
  by_cases h : (z : Int) = y
  · subst h; simp; omega
  · have h' : y ≠ (z : Int) := fun e => h e.symm
    simp [h, h']
theorem part_all (I : HInv n L) {j : Nat} (hj : j < n) (ht : rootN L n j = j) {y : Nat} (hy : y < n) : partF L n j (allL L n j).length y = doneF L n (j + 1) y := by
  have hjn : inN n (j : Int) := ⟨by omega, by omega⟩
  have hyn : inN n (y : Int) := ⟨by omega, by omega⟩
  unfold partF
  rw [List.take_length, parts_once I hjn hyn ((root_self I hjn).1 ht)]
  unfold doneF
  by_cases h : rootN L n y = j
  · rw [if_pos h, if_neg (by omega), if_pos (by omega)]
  · by_cases h2 : rootN L n y < j
    · rw [if_neg h, if_pos h2, if_pos (by omega)]
    · rw [if_neg h, if_neg h2, if_neg (by omega)]
theorem done_skip (I : HInv n L) {j : Nat} (hj : j < n) (ht : rootN L n j ≠ j) {y : Nat} (hy : y < n) : doneF L n (j + 1) y = doneF L n j y := by
  have hjn : inN n (j : Int) := ⟨by omega, by omega⟩
  have hyn : inN n (y : Int) := ⟨by omega, by omega⟩
  have h : rootN L n y ≠ j := fun e => ht ((root_self I hjn).2 (by rw [← e]; exact root_top I hyn))
  unfold doneF
  by_cases h2 : rootN L n y < j
  · rw [if_pos h2, if_pos (by omega)]
  · rw [if_neg h2, if_neg (by omega)]
theorem part_le (L : List Hg) (n j i y : Nat) : partF L n j i y ≤ i + 1 := by
  unfold partF doneF
  have h1 := List.count_le_length (a := (y : Int)) (l := (allL L n j).take i)
  have h2 : ((allL L n j).take i).length ≤ i := by simp; omega
  split <;> omega
theorem tree_root (I : HInv n L) {j : Nat} (hj : j < n) (ht : rootN L n j = j) {y : Int} (h : y ∈ allL L n j) : inN n y ∧ rootN L n y = j := by
  have hjn : inN n (j : Int) := ⟨by omega, by omega⟩
  have hy := all_in I hjn h
  exact ⟨hy, (root_iff I hy ((root_self I hjn).1 ht)).1 ((mem_all I hjn).1 h)⟩
end
end Go.Proofs.Ytkagchnhjjcgbaa
