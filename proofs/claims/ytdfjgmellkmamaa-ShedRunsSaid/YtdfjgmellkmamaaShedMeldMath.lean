/- What melding makes of the lists, as plain data. No program is named here. -/
import Derived.Test.YtdfjgmellkmamaaOwn
namespace Go.Proofs.Ytdfjgmellkmamaa

section
variable {W : WS} {pl : List Nat} {Ls : Nat → List Nat}
/-- All of the second list have come into the first. -/
theorem sinv_join (I : SInv W pl Ls) {a b : Nat} (hj : joinBW W a b = true) (ha : 1 ≤ a) (hb : 1 ≤ b) (hab : a ≠ b) :
    (∀ xs, Heap 2 (ltW W) xs → (∀ x ∈ xs, x ∈ Ls a ∨ x ∈ Ls b) → Heap 2 (ltW (joinW W a b)) xs) ∧ (∀ x, x ∈ Ls a ∨ x ∈ Ls b → x < W.cells.length ∧ homeAt (joinW W a b) x ≠ 0) ∧ (∀ x, x ∈ Ls a → x ∉ Ls b) ∧
    ∀ ys pl', Heap 2 (ltW (joinW W a b)) ys → ys.Perm (Ls a ++ Ls b) → Placed ys pl' → pl'.length = pl.length → (∀ y, y ∉ Ls a ++ Ls b → rat pl' y = rat pl y) → SInv (joinW W a b) pl' (updL (updL Ls a ys) b []) := by
  have e1 : joinW W a b = ⟨W.heaps.set b false, W.cells.map fun c => if c.home = b then ⟨a, c.key, c.seq⟩ else c⟩ := by simp [joinW, hj]
  have hl : (joinW W a b).cells.length = W.cells.length := by rw [e1]; simp
  have hg : ∀ x, (joinW W a b).cells.getD x .off = (fun c : CellD => if c.home = b then (⟨a, c.key, c.seq⟩ : CellD) else c) (W.cells.getD x .off) := fun x => by
    rw [e1]
    by_cases hx : x < W.cells.length
    · simp [List.getD_eq_getElem?_getD, hx]
    · simp [List.getD_eq_getElem?_getD, hx, CellD.off]; omega
  have hh : ∀ x, homeAt (joinW W a b) x = if homeAt W x = b then a else homeAt W x := fun x => by
    unfold homeAt
    rw [hg]
    simp only
    split <;> rfl
  have hgo : ∀ x, homeAt W x ≠ b → (joinW W a b).cells.getD x .off = W.cells.getD x .off := fun x hx => by
    rw [hg]; exact if_neg hx
  have hent : ∀ x, ((joinW W a b).cells.getD x .off).key = (W.cells.getD x .off).key ∧ ((joinW W a b).cells.getD x .off).seq = (W.cells.getD x .off).seq := fun x => by
    rw [hg]; simp only; split <;> exact ⟨rfl, rfl⟩
  have hlt : ∀ x y, x < W.cells.length → y < W.cells.length → homeAt W x ≠ 0 → homeAt W y ≠ 0 → ltW (joinW W a b) x y = ltW W x y := fun x y hx hy h1 h2 => by
    unfold ltW
    have g1 : homeAt (joinW W a b) x ≠ 0 := by rw [hh]; split <;> omega
    have g2 : homeAt (joinW W a b) y ≠ 0 := by rw [hh]; split <;> omega
    rw [ahead_nat (by omega) (by omega) g1 g2, ahead_nat hx hy h1 h2]
    unfold aheadC
    rw [(hent x).1, (hent x).2, (hent y).1, (hent y).2]
  have hdis : ∀ x, x ∈ Ls a → x ∉ Ls b := fun x h1 h2 => by
    have := I.in' h1; have := I.in' h2; omega
  have hin : ∀ g x, x ∈ Ls g → x < W.cells.length ∧ homeAt W x ≠ 0 := fun g x hx => by have := I.in' hx; omega
  refine ⟨fun xs H hx => ?_, fun x hx => ?_, hdis, fun ys pl' H Pm Pp pL pO => ⟨by rw [pL, I.plen, hl], fun g y hgp => ?_, ?_, fun g => ?_, fun g => ?_⟩⟩
  · intro i h0 hi
    have hp := par_lt (d := 2) (by omega) h0
    have hm : ∀ x ∈ xs, x < W.cells.length ∧ homeAt W x ≠ 0 := fun x hm => (hx x hm).elim (hin a x) (hin b x)
    have g1 := hm _ (rat_mem hi)
    have g2 := hm _ (rat_mem (Nat.lt_trans hp hi))
    rw [hlt _ _ g1.1 g2.1 g1.2 g2.2]
    exact H i h0 hi
  · have g1 : x < W.cells.length ∧ homeAt W x ≠ 0 := hx.elim (hin a x) (hin b x)
    refine ⟨g1.1, ?_⟩
    rw [hh]
    split
    · omega
    · exact g1.2
  · rw [hl, hh]
    unfold updL
    by_cases e : g = b
    · subst e
      rw [if_pos rfl]
      simp only [List.not_mem_nil, false_iff, not_and]
      intro _
      split <;> omega
    · rw [if_neg e]
      by_cases e2 : g = a
      · subst e2
        rw [if_pos rfl, Pm.mem_iff, List.mem_append, I.mem g y hgp, I.mem b y hb]
        constructor
        · rintro (⟨h1, h2⟩ | ⟨h1, h2⟩)
          · rw [if_neg (by omega)]; exact ⟨h1, h2⟩
          · rw [if_pos h2]; exact ⟨h1, rfl⟩
        · rintro ⟨h1, h2⟩
          by_cases e3 : homeAt W y = b
          · exact Or.inr ⟨h1, e3⟩
          · rw [if_neg e3] at h2; exact Or.inl ⟨h1, h2⟩
      · rw [if_neg e2, I.mem g y hgp]
        by_cases e3 : homeAt W y = b
        · rw [if_pos e3, e3]
          constructor <;> (intro h; omega)
        · rw [if_neg e3]
  · unfold updL
    rw [if_neg (by omega), if_neg (by omega)]; exact I.zero
  · unfold updL
    by_cases e : g = b
    · rw [if_pos e]; exact heap_nil
    · rw [if_neg e]
      by_cases e2 : g = a
      · rw [if_pos e2]; exact H
      · rw [if_neg e2]
        exact heap_same (I.heap g) (fun y hy => hgo y (by have := I.in' hy; omega)) hl
  · unfold updL
    by_cases e : g = b
    · rw [if_pos e]; intro i hi; simp at hi
    · rw [if_neg e]
      by_cases e2 : g = a
      · rw [if_pos e2]; exact Pp
      · rw [if_neg e2]
        intro i hi
        have h7 := I.placed g i hi
        have hm : rat (Ls g) i ∉ Ls a ++ Ls b := fun hm => by
          have q1 := I.in' (rat_mem hi)
          rcases List.mem_append.1 hm with hm | hm
          · have q2 := I.in' hm; omega
          · have q2 := I.in' hm; omega
        rw [pL, pO _ hm]
        exact h7
end
end Go.Proofs.Ytdfjgmellkmamaa
