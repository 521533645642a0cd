/- Rings as what follows what, what each follows, and the document's list of rings: what Splice and Part make of them. -/
import Derived.Test.YtfngooaobjafjaaRingTwiceMath
namespace Go.Proofs.Ytfngooaobjafjaa

theorem RInv.congr {n : Nat} {f f' : Int → Int} {R : List (List Int)} (I : RInv n f R) (h : ∀ x : Int, 0 ≤ x ∧ x < n → f' x = f x) : RInv n f' R :=
  ⟨fun l hl => ring_congr (fun c hc => h c ((I.mem c).1 ⟨l, hl, hc⟩)) (I.by' l hl), I.nodup, I.one, I.mem⟩
theorem Back.congr {n : Nat} {f f' g g' : Int → Int} (B : Back n f g) (h : ∀ x : Int, 0 ≤ x ∧ x < n → f' x = f x) (h' : ∀ x : Int, 0 ≤ x ∧ x < n → g' x = g x) : Back n f' g' :=
  ⟨fun x hx => by rw [h x hx]; exact B.inF x hx, fun x hx => by rw [h' x hx]; exact B.inG x hx, fun x hx => by rw [h x hx, h' _ (B.inF x hx), B.gf x hx], fun x hx => by rw [h' x hx, h _ (B.inG x hx), B.fg x hx]⟩
structure RSt where
  f : Int → Int
  g : Int → Int
  R : List (List Int)
structure RGood (n : Nat) (S : RSt) : Prop where
  inv : RInv n S.f S.R
  back : Back n S.f S.g
  few : n ≤ 65536
def inR (n : Nat) (x : Int) : Bool := decide (0 ≤ x ∧ x < n)
theorem inR_iff {n : Nat} {x : Int} : inR n x = true ↔ 0 ≤ x ∧ x < (n : Int) := by simp [inR]
def tieS (S : RSt) (x y : Int) (R : List (List Int)) : RSt := ⟨swapN S.f x y, swapB S.f S.g x y, R⟩
def spliceS (n : Nat) (S : RSt) (x y : Int) : RSt := if inR n x && inR n y then tieS S x y (spliceR S.R x y) else S
def partS (n : Nat) (S : RSt) (x : Int) : RSt := if inR n x then tieS S (S.g x) x (partR S.R x) else S
def newS (n : Nat) : RSt := ⟨id, id, (List.range n).map fun i : Nat => [(i : Int)]⟩
theorem good_new (n : Nat) (hn : n ≤ 65536) : RGood n (newS n) := ⟨new_rings n, back_id n, hn⟩
section
variable {n : Nat} {S : RSt}
theorem swapN_self (f : Int → Int) (x : Int) : swapN f x x = f := by
  funext z; unfold swapN; split
  · rename_i h; rw [h]
  · rfl
theorem swapB_self {f g : Int → Int} (B : Back n f g) {x : Int} (hx : 0 ≤ x ∧ x < (n : Int)) : swapB f g x x = g := by
  funext z; unfold swapB; split
  · rename_i h; rw [h, B.gf x hx]
  · rfl
theorem back_swap' {f g : Int → Int} (B : Back n f g) {x y : Int} (hx : 0 ≤ x ∧ x < (n : Int)) (hy : 0 ≤ y ∧ y < (n : Int)) : Back n (swapN f x y) (swapB f g x y) := by
  by_cases e : x = y
  · subst e; rw [swapN_self, swapB_self B hx]; exact B
  · exact back_swap B hx hy e
theorem RGood.splice (G : RGood n S) (x y : Int) : RGood n (spliceS n S x y) := by
  unfold spliceS
  split
  · rename_i h
    rw [Bool.and_eq_true, inR_iff, inR_iff] at h
    refine ⟨?_, back_swap' G.back h.1 h.2, G.few⟩
    show RInv n (swapN S.f x y) (spliceR S.R x y)
    by_cases e : x = y
    · subst e
      rw [swapN_self, show spliceR S.R x x = S.R by simp [spliceR]]
      exact G.inv
    · exact splice_inv G.inv h.1 h.2 e
  · exact G
theorem RGood.part (G : RGood n S) (x : Int) : RGood n (partS n S x) := by
  unfold partS
  split
  · rename_i h
    rw [inR_iff] at h
    refine ⟨?_, back_swap' G.back (G.back.inG x h) h, G.few⟩
    refine (part_inv G.inv h).congr fun z hz => ?_
    show swapN S.f (S.g x) x z = partF S.f x z
    unfold swapN partF
    by_cases e : z = x
    · subst e
      rw [if_pos rfl]
      by_cases e2 : z = S.g z
      · have e3 := G.back.fg z h
        rw [← e2] at e3
        rw [if_pos e2, if_pos rfl]; exact e3
      · rw [if_neg e2, if_pos rfl, G.back.fg z h]
    · rw [if_neg e]
      by_cases e2 : z = S.g x
      · subst e2
        rw [if_pos rfl, if_neg e, G.back.fg x h, if_pos rfl]
      · rw [if_neg e2, if_neg e, if_neg (fun e3 => e2 (by rw [← e3, G.back.gf z hz]))]
  · exact G
theorem RGood.none (G : RGood n S) {x : Int} (hx : inR n x = false) : allR S.R x = [] := G.inv.none fun h => by rw [inR_iff.2 h] at hx; cases hx
theorem splice_R (G : RGood n S) (x y : Int) : (spliceS n S x y).R = spliceR S.R x y := by
  unfold spliceS
  cases h1 : inR n x
  · rw [Bool.false_and, if_neg (by decide)]; simp [spliceR, G.none h1]
  · cases h2 : inR n y
    · rw [Bool.and_false, if_neg (by decide)]; simp [spliceR, G.none h2]
    · rfl
theorem part_R (G : RGood n S) (x : Int) : (partS n S x).R = partR S.R x := by
  unfold partS
  cases h1 : inR n x
  · rw [if_neg (by decide)]; simp [partR, G.none h1]
  · rfl
/-- A ring, from a thing on: what follows it, one by one; behind the last one it comes itself. -/
theorem path_at {f : Int → Int} {z : Int} : ∀ {s : List Int} {x : Int}, path f x s z → ∀ j, j ≤ s.length → f ((x :: s).getD j 0) = (s ++ [z]).getD j 0
  | [], x, h, j, hj => by
    obtain rfl : j = 0 := by simpa using hj
    simpa [path] using h
  | y :: s, x, h, 0, _ => by
    have := h.1
    simpa using this
  | y :: s, x, h, j + 1, hj => by
    have := path_at h.2 j (by simpa using hj)
    simpa using this
theorem RGood.walk (G : RGood n S) {x : Int} (hx : 0 ≤ x ∧ x < (n : Int)) : ∃ (s : List Int) (T : Nat → Int), allR S.R x = x :: s ∧ s.length < n ∧ T 0 = S.f x ∧ T s.length = x ∧
    ∀ j, j < s.length → T j ≠ x ∧ (0 ≤ T j ∧ T j < (n : Int)) ∧ S.f (T j) = T (j + 1) ∧ s.take (j + 1) = s.take j ++ [T j] := by
  obtain ⟨s, h1, h2, h3, _⟩ := G.inv.all hx
  have hin := all_in G.inv hx
  have hf := (all_few G.inv hx).2
  rw [h1] at hin hf
  rw [List.length_cons] at hf
  have hp := path_at h2
  refine ⟨s, fun j => (s ++ [x]).getD j 0, h1, by omega, (hp 0 (Nat.zero_le _)).symm, by simp [List.getD_eq_getElem?_getD], fun j hj => ?_⟩
  have e1 : (s ++ [x]).getD j 0 = s[j] := by
    rw [List.getD_eq_getElem?_getD, List.getElem?_append_left hj, List.getElem?_eq_getElem hj]; rfl
  have e2 : ((x :: s).getD (j + 1) 0) = s[j] := by
    rw [List.getD_eq_getElem?_getD, List.getElem?_cons_succ, List.getElem?_eq_getElem hj]; rfl
  have hm := List.getElem_mem hj
  have h4 := hp (j + 1) (by omega)
  rw [e2] at h4
  show (s ++ [x]).getD j 0 ≠ x ∧ (0 ≤ (s ++ [x]).getD j 0 ∧ (s ++ [x]).getD j 0 < (n : Int)) ∧ S.f ((s ++ [x]).getD j 0) = (s ++ [x]).getD (j + 1) 0 ∧ s.take (j + 1) = s.take j ++ [(s ++ [x]).getD j 0]
  rw [e1]
  refine ⟨fun e => (List.nodup_cons.1 h3).1 (e ▸ hm), hin _ (List.mem_cons_of_mem _ hm), h4, ?_⟩
  rw [List.take_add_one, List.getElem?_eq_getElem hj]; rfl
/-- What is asked of a thing that may be none. -/
def nextI (n : Nat) (S : RSt) (x : Int) : Int := if inR n x then S.f x else 0
def prevI (n : Nat) (S : RSt) (x : Int) : Int := if inR n x then S.g x else 0
theorem next_all (G : RGood n S) {x : Int} (hx : inR n x = true) : (allR S.R x).getD (1 % (allR S.R x).length) 0 = nextI n S x := by
  unfold nextI
  rw [if_pos hx]
  obtain ⟨s, h1, h2, _⟩ := G.inv.all (inR_iff.1 hx)
  rw [h1, List.getD_eq_getElem?_getD, path_next h2]; rfl
theorem prev_all (G : RGood n S) {x : Int} (hx : inR n x = true) : (allR S.R x).getD ((allR S.R x).length - 1) 0 = prevI n S x := by
  unfold prevI
  rw [if_pos hx]
  obtain ⟨s, h1, h2, _⟩ := G.inv.all (inR_iff.1 hx)
  have hin := all_in G.inv (inR_iff.1 hx)
  rw [h1] at hin
  rw [h1, ← back_last G.back h2 hin, List.getLast_eq_getElem, List.getD_eq_getElem?_getD, List.getElem?_eq_getElem (by simp)]; rfl
theorem all_len (G : RGood n S) (x : Int) : decide (0 < (allR S.R x).length) = inR n x := by
  cases h : inR n x
  · rw [G.none h]; rfl
  · have := (all_few G.inv (inR_iff.1 h)).1
    exact decide_eq_true (by omega)
end
end Go.Proofs.Ytfngooaobjafjaa
