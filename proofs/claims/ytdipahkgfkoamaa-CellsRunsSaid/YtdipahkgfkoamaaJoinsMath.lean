/- What CellsJoins drives, as plain data: slots come into two heaps, these are joined, one slot comes out. No program is named here. -/
import Derived.Test.YtdipahkgfkoamaaCellsMath
namespace Go.Proofs.Ytdipahkgfkoamaa

theorem getD_set0 {α : Type} (l : List α) (i j : Nat) (x d : α) (hi : i < l.length) : (l.set i x).getD j d = if i = j then x else l.getD j d := by
  simp only [List.getD_eq_getElem?_getD, List.getElem?_set]
  by_cases h : i = j
  · subst h; simp [hi]
  · simp [h]
/-- k slots are in: slot i in the heap h i, with the key key i. -/
structure JInv (h : Nat → Nat) (key : Nat → Int) (n k : Nat) (W : WS) : Prop where
  heaps : W.heaps = [false, true, true]
  len : W.cells.length = n
  done : ∀ i, i < k → i < n → W.cells.getD i .off = ⟨h i, key i, 0⟩
  rest : ∀ i, k ≤ i → i < n → W.cells.getD i .off = .off
  sum : lenW W 1 + lenW W 2 = k
theorem jinv_has {h : Nat → Nat} {key : Nat → Int} {n k : Nat} {W : WS} (H : JInv h key n k W) : hasW W 1 = true ∧ hasW W 2 = true := by
  simp [hasW, H.heaps]
theorem jinv_start (h : Nat → Nat) (key : Nat → Int) {n : Nat} (hn : n ≤ 65536) : JInv h key n 0 (makeW (makeW (newW n))) ∧ lenW (makeW (makeW (newW n))) 1 = 0 := by
  have e : makeW (makeW (newW n)) = ⟨[false, true, true], List.replicate n .off⟩ := rfl
  have hl : ∀ y, lenW (makeW (makeW (newW n))) y = 0 := fun y => by
    rw [e]
    unfold lenW
    split
    · rename_i hy
      rw [List.countP_eq_zero]
      intro c hc
      have : c = .off := List.eq_of_mem_replicate hc
      subst this
      have : ¬ ((0 : Int) = y) := by omega
      simpa [CellD.off] using this
    · rfl
  refine ⟨⟨by rw [e], by rw [e]; simp, fun i hi => by omega, fun i _ hi => ?_, by rw [hl, hl]⟩, hl 1⟩
  rw [e]
  simp [List.getD_eq_getElem?_getD, List.getElem?_replicate, hi]
theorem jinv_cell {h : Nat → Nat} {key : Nat → Int} {n k : Nat} {W : WS} (H : JInv h key n k W) (i : Nat) (hi : i < n) : cellW W i = W.cells.getD i .off ∧ slotW W i = true := by
  refine ⟨cell_nat W i (by rw [H.len]; exact hi), ?_⟩
  simp [slotW, H.len]; omega
theorem jinv_step {h : Nat → Nat} {key : Nat → Int} {n k : Nat} {W : WS} (H : JInv h key n k W) (hh : h k = 1 ∨ h k = 2) (hk : k < n) :
    putB W (h k) k = true ∧ JInv h key n (k + 1) (putW W (h k) k (key k) 0) ∧ (lenW (putW W (h k) k (key k) 0) 1 : Int) = lenW W 1 + (if h k = 1 then 1 else 0) ∧
    putB (putW W (h k) k (key k) 0) 1 k = false ∧ putB (putW W (h k) k (key k) 0) 2 k = false := by
  obtain ⟨c1, c2⟩ := jinv_cell H k hk
  have c3 := H.rest k (Nat.le_refl _) hk
  have c4 : inW W k = false := by rw [inW, c1, c3]; rfl
  obtain ⟨a1, a2⟩ := jinv_has H
  have hp : putB W (h k) k = true := by
    rcases hh with e | e <;> simp [putB, e, a1, a2, c2, c4]
  have e1 : putW W (h k) k (key k) 0 = ⟨W.heaps, W.cells.set k ⟨h k, key k, 0⟩⟩ := by simp [putW, hp]
  have hkl : k < W.cells.length := by rw [H.len]; exact hk
  have hl := fun y => len_put (W := W) (h := h k) (x := k) (k := key k) (s := 0) (by omega) hkl (by rw [c3]; rfl) y
  have hsum := H.sum
  have e2 := hl 1
  have e3 := hl 2
  have hin : inW (putW W (h k) k (key k) 0) k = true := by
    rw [e1]
    have : cellW (⟨W.heaps, W.cells.set k ⟨h k, key k, 0⟩⟩ : WS) (k : Int) = ⟨h k, key k, 0⟩ := by
      rw [cell_nat _ k (by simpa using hkl)]
      show (W.cells.set k _).getD k _ = _
      rw [getD_set0 _ _ _ _ _ hkl, if_pos rfl]
    simp only [inW, this]
    rcases hh with e | e <;> simp [e]
  refine ⟨hp, ⟨by rw [e1]; exact H.heaps, by rw [e1]; simpa using H.len, fun i hi hn => ?_, fun i hi hn => ?_, ?_⟩, ?_, by simp [putB, hin], by simp [putB, hin]⟩
  · rw [e1]
    show (W.cells.set k _).getD i _ = _
    rw [getD_set0 _ _ _ _ _ hkl]
    by_cases e : k = i
    · subst e; rw [if_pos rfl]
    · rw [if_neg e]; exact H.done i (by omega) hn
  · rw [e1]
    show (W.cells.set k _).getD i _ = _
    rw [getD_set0 _ _ _ _ _ hkl, if_neg (by omega)]
    exact H.rest i (by omega) hn
  · rw [e1]
    rcases hh with e | e <;> rw [e] at e2 e3 ⊢ <;> simp at e2 e3 <;> omega
  · rw [e1]
    rcases hh with e | e <;> rw [e] at e2 ⊢ <;> simp at e2 ⊢ <;> omega
/-- Both are joined. -/
structure JEnd (key : Nat → Int) (n : Nat) (W : WS) : Prop where
  heaps : W.heaps = [false, false, true]
  len : W.cells.length = n
  done : ∀ i, i < n → W.cells.getD i .off = ⟨2, key i, 0⟩
theorem jinv_end {h : Nat → Nat} {key : Nat → Int} {n : Nat} {W : WS} (H : JInv h key n n W) (hh : ∀ i, h i = 1 ∨ h i = 2) :
    joinBW W 2 1 = true ∧ JEnd key n (joinW W 2 1) ∧ lenW (joinW W 2 1) 2 = n ∧ lenW (joinW W 2 1) 1 = 0 ∧ hasW (joinW W 2 1) 1 = false := by
  obtain ⟨a1, a2⟩ := jinv_has H
  have hj : joinBW W 2 1 = true := by simp [joinBW, a1, a2]
  have e1 : joinW W 2 1 = ⟨W.heaps.set 1 false, W.cells.map fun c => if c.home = 1 then ⟨2, c.key, c.seq⟩ else c⟩ := by simp [joinW, hj]
  have hl := fun y => len_join (W := W) (a := 2) (b := 1) (by omega) (by omega) (by omega) (W.heaps.set 1 false) y
  have e2 := hl 2
  have e3 := hl 1
  have hsum := H.sum
  refine ⟨hj, ⟨by rw [e1, H.heaps]; rfl, by rw [e1]; simpa using H.len, fun i hi => ?_⟩, ?_, ?_, ?_⟩
  · rw [e1]
    show (W.cells.map _).getD i _ = _
    rw [getD_mapf (fun c : CellD => if c.home = 1 then (⟨2, c.key, c.seq⟩ : CellD) else c) W.cells i CellD.off CellD.off (by rw [H.len]; exact hi), H.done i hi hi]
    rcases hh i with e | e <;> simp [e]
  · rw [e1]; simp at e2; omega
  · rw [e1]; simp at e3; omega
  · rw [e1, H.heaps]; rfl
theorem jend_cell {key : Nat → Int} {n : Nat} {W : WS} (H : JEnd key n W) (x : Int) : inW W x = decide (0 ≤ x ∧ x < n) := by
  by_cases hx : 0 ≤ x ∧ x < n
  · obtain ⟨i, rfl⟩ : ∃ i : Nat, x = i := ⟨x.toNat, by omega⟩
    rw [decide_eq_true hx]
    have : cellW W i = ⟨2, key i, 0⟩ := by
      rw [cell_nat W i (by rw [H.len]; omega)]
      exact H.done i (by omega)
    simp [inW, this]
  · rw [decide_eq_false hx]
    have : slotW W x = false := by simp only [slotW, H.len]; simpa using hx
    simp [inW, cell_off this, CellD.off]
/-- One slot came out. -/
theorem jend_drop {key : Nat → Int} {n : Nat} {W : WS} (H : JEnd key n W) (hl : lenW W 2 = n) (x : Int) :
    (lenW (dropW W x) 2 : Int) = (if inW W x then (n : Int) - 1 else n) ∧ ∀ i, i < n → inW (dropW W x) i = !decide ((i : Int) = x) ∧ cellW (dropW W x) i = if (i : Int) = x then .off else ⟨2, key i, 0⟩ := by
  have hin := jend_cell H x
  cases hc : inW W x
  · have e1 : dropW W x = W := by simp [dropW, hc]
    rw [e1]
    rw [hc] at hin
    refine ⟨by simp [hl], fun i hi => ?_⟩
    have hne : ¬ (i : Int) = x := by
      intro e
      have := of_decide_eq_false hin.symm
      omega
    have e2 : cellW W i = ⟨2, key i, 0⟩ := by
      rw [cell_nat W i (by rw [H.len]; omega)]
      exact H.done i (by omega)
    rw [decide_eq_false hne, if_neg hne, e2]
    simp [inW, e2]
  · rw [hc] at hin
    have hx := of_decide_eq_true hin.symm
    obtain ⟨j, rfl⟩ : ∃ j : Nat, x = j := ⟨x.toNat, by omega⟩
    have hj : j < W.cells.length := by rw [H.len]; omega
    have e1 : dropW W j = ⟨W.heaps, W.cells.set j .off⟩ := by simp [dropW, hc]
    have hd := H.done j (by omega)
    have e2 := len_drop (W := W) (x := j) hj (by rw [hd]; simp) 2
    rw [e1]
    rw [hd] at e2
    refine ⟨by simp at e2; simp; omega, fun i hi => ?_⟩
    have e3 : cellW (⟨W.heaps, W.cells.set j .off⟩ : WS) (i : Int) = if (i : Int) = j then .off else ⟨2, key i, 0⟩ := by
      rw [cell_nat _ i (by simpa [H.len] using hi)]
      show (W.cells.set j _).getD i _ = _
      rw [getD_set0 _ _ _ _ _ hj]
      by_cases e : j = i
      · subst e; simp
      · rw [if_neg e, if_neg (by omega)]; exact H.done i hi
    refine ⟨?_, e3⟩
    rw [inW, e3]
    by_cases e : (i : Int) = j
    · simp [e, CellD.off]
    · simp [e]
end Go.Proofs.Ytdipahkgfkoamaa
