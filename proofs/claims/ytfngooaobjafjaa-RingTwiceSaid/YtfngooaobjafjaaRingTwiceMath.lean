/- Rings, as plain data: what is spliced twice; whether two are in one ring, behind a splice; how long a ring is. No program is named here. -/
import Derived.Test.YtfngooaobjafjaaRingSpliceMath
namespace Go.Proofs.Ytfngooaobjafjaa

/-- What is spliced twice is as it was. -/
theorem swap_twice (f : Int → Int) {x y : Int} (hne : x ≠ y) : swapN (swapN f x y) y x = f := by
  funext z
  unfold swapN
  by_cases h1 : z = y
  · rw [if_pos h1, if_pos rfl, h1]
  · by_cases h2 : z = x
    · rw [if_neg h1, if_pos h2, if_neg (fun e => hne e.symm), if_pos rfl, h2]
    · rw [if_neg h1, if_neg h2, if_neg h2, if_neg h1]
section
variable {n : Nat} {f : Int → Int} {R : List (List Int)} {x y : Int}
theorem all_mem (I : RInv n f R) (hx : 0 ≤ x ∧ x < n) : y ∈ allR R x ↔ ∃ l ∈ R, x ∈ l ∧ y ∈ l := by
  obtain ⟨s, es, _, _, l, hl, hxl, hp⟩ := I.all hx
  rw [es]
  constructor
  · intro h; exact ⟨l, hl, hxl, hp.mem_iff.1 h⟩
  · rintro ⟨m, hm, h1, h2⟩
    rw [I.one m hm l hl x h1 hxl] at h2
    exact hp.mem_iff.2 h2
/-- Two that are spliced are in one ring then, if they weren't. -/
theorem splice_flip (I : RInv n f R) (hx : 0 ≤ x ∧ x < n) (hy : 0 ≤ y ∧ y < n) (hne : x ≠ y) : y ∈ allR (spliceR R x y) x ↔ y ∉ allR R x := by
  have I' := splice_inv I hx hy hne
  obtain ⟨s, es, _⟩ := I.all hx
  obtain ⟨t, et, _⟩ := I.all hy
  have h0 : ¬ (allR R x = [] ∨ allR R y = [] ∨ x = y) := by rw [es, et]; simp [hne]
  rw [all_mem I' hx]
  by_cases h : y ∈ allR R x
  · have e : spliceR R x y = withoutR R x y ++ [x :: (allR R x).drop ((allR R x).idxOf y + 1), y :: ((allR R x).take ((allR R x).idxOf y)).drop 1] := by
      unfold spliceR
      rw [if_neg h0, if_pos (by simpa using h)]
    refine ⟨fun ⟨l, hl, h1, h2⟩ => ?_, fun h2 => absurd h h2⟩
    have m1 : x :: (allR R x).drop ((allR R x).idxOf y + 1) ∈ spliceR R x y := by rw [e]; simp
    have m2 : y :: ((allR R x).take ((allR R x).idxOf y)).drop 1 ∈ spliceR R x y := by rw [e]; simp
    have e1 := I'.one l hl _ m1 x h1 (by simp)
    have e2 := I'.one l hl _ m2 y h2 (by simp)
    rw [e1] at e2
    injection e2 with e2 _
    exact absurd e2 hne
  · have e : spliceR R x y = withoutR R x y ++ [(x :: (allR R y).drop 1) ++ [y] ++ (allR R x).drop 1] := by
      unfold spliceR
      rw [if_neg h0, if_neg (by simpa using h)]
    exact ⟨fun _ => h, fun _ => ⟨(x :: (allR R y).drop 1) ++ [y] ++ (allR R x).drop 1, by rw [e]; simp, by simp, by simp⟩⟩
/-- Of one ring: they are as many, and each is in the other one's. -/
theorem all_perm (I : RInv n f R) (hx : 0 ≤ x ∧ x < n) (h : y ∈ allR R x) : (0 ≤ y ∧ y < n) ∧ (allR R y).Perm (allR R x) := by
  obtain ⟨s, es, _, _, l, hl, hxl, hp⟩ := I.all hx
  rw [es] at h
  have hyl := hp.mem_iff.1 h
  have hy := (I.mem y).1 ⟨l, hl, hyl⟩
  obtain ⟨t, et, _, _, m, hm, hym, hq⟩ := I.all hy
  have e := I.one m hm l hl y hym hyl
  rw [es, et]
  rw [e] at hq
  exact ⟨hy, hq.trans hp.symm⟩
theorem all_nodup (I : RInv n f R) (hx : 0 ≤ x ∧ x < n) : (allR R x).Nodup := by
  obtain ⟨s, es, _, h, _⟩ := I.all hx
  rw [es]; exact h
theorem all_in (I : RInv n f R) (hx : 0 ≤ x ∧ x < n) : ∀ y ∈ allR R x, 0 ≤ y ∧ y < n := fun y hy => (all_perm I hx hy).1
theorem nodup_below : ∀ (m : Nat) (l : List Int), l.Nodup → (∀ x ∈ l, 0 ≤ x ∧ x < m) → l.length ≤ m := fun m => by
  induction m with
  | zero =>
    intro l _ h
    cases l with
    | nil => exact Nat.le_refl _
    | cons a r => have := h a (by simp); omega
  | succ m ih =>
    intro l hn h
    have h1 := ih (l.erase (m : Int)) (hn.erase _) (fun x hx => by
      have h1 := (List.Nodup.mem_erase_iff hn).1 hx
      have h2 := h x h1.2
      have h3 := h1.1
      omega)
    have := List.length_erase (a := (m : Int)) (l := l)
    split at this <;> omega
theorem all_few (I : RInv n f R) (hx : 0 ≤ x ∧ x < n) : 1 ≤ (allR R x).length ∧ (allR R x).length ≤ n := by
  obtain ⟨s, es, _⟩ := I.all hx
  exact ⟨by rw [es]; simp, nodup_below n _ (all_nodup I hx) (all_in I hx)⟩
/-- What follows itself is in a ring of its own. -/
theorem self_ring {s : List Int} (h : path f x s x) (hn : (x :: s).Nodup) (e : f x = x) : s = [] := by
  cases s with
  | nil => rfl
  | cons c s =>
    have h1 : f x = c := h.1
    exact absurd (by rw [← e, h1]; simp : x ∈ c :: s) (List.nodup_cons.1 hn).1
theorem part_self (I : RInv n f R) (hx : 0 ≤ x ∧ x < n) : allR (partR R x) x = [x] := by
  obtain ⟨s, es, ps, ns, _⟩ := (part_inv I hx).all hx
  rw [es, self_ring ps ns (by unfold partF; rw [if_pos rfl])]
/-- The same follows the same: the ring is the same. -/
theorem all_same {R' : List (List Int)} (I : RInv n f R) (I' : RInv n f R') (hx : 0 ≤ x ∧ x < n) : allR R x = allR R' x := by
  obtain ⟨s, es, ps, ns, _⟩ := I.all hx
  obtain ⟨t, et, pt, nt, _⟩ := I'.all hx
  rw [es, et, path_unique (List.nodup_cons.1 ns).1 (List.nodup_cons.1 nt).1 ps pt]
end
end Go.Proofs.Ytfngooaobjafjaa
