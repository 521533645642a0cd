/- What 'sorts' and 'halves' drive, as plain data: keys come into one heap, or into two that are melded, and come out in order. No program is named here. -/
import Derived.Test.YtmoolbmbdnkooaaGreatNestMinMath
namespace Go.Proofs.YtmoolbmbdnkooaaGreat

theorem getD_setN {α : Type} (l : List α) (i j : Nat) (x d : α) (hi : i < l.length) : (l.set i x).getD j d = if i = j then x else l.getD j d := by
  simp only [List.getD_eq_getElem?_getD, List.getElem?_set]
  by_cases h : i = j
  · subst h; simp [hi]
  · simp [h]
/-- k slots are in: slot i in the heap h i, with the key key i and the seq q. -/
structure PInv (H : List Bool) (h : Nat → Nat) (key : Nat → Int) (q : Int) (n k : Nat) (W : WS) : Prop where
  heaps : W.heaps = H
  len : W.cells.length = n
  done : ∀ i, i < k → i < n → W.cells.getD i .off = ⟨h i, key i, q⟩
  rest : ∀ i, k ≤ i → i < n → W.cells.getD i .off = .off
theorem new_pinv (n : Nat) (h : Nat → Nat) (key : Nat → Int) (q : Int) : PInv [false] h key q n 0 (newW n) :=
  ⟨rfl, by simp [newW], fun i hi => by omega, fun i _ hi => by simp [newW, List.getD_eq_getElem?_getD, hi]⟩
theorem pinv_make {H : List Bool} {h : Nat → Nat} {key : Nat → Int} {q : Int} {n k : Nat} {W : WS} (P : PInv H h key q n k W) (hl : H.length ≤ 65536) : PInv (H ++ [true]) h key q n k (makeW W) ∧ madeW W = H.length := by
  have hc : canMakeW W = true := by simp [canMakeW, P.heaps, hl]
  have e : makeW W = ⟨W.heaps ++ [true], W.cells⟩ := by simp [makeW, hc]
  rw [e]
  exact ⟨⟨by rw [P.heaps], P.len, P.done, P.rest⟩, by simp [madeW, hc, P.heaps]⟩
theorem pinv_put {H : List Bool} {h : Nat → Nat} {key : Nat → Int} {q : Int} {n k : Nat} {W : WS} (P : PInv H h key q n k W) (hk : k < n) (hh : hasW W (h k) = true) (hp : 1 ≤ h k) :
    putB W (h k) k = true ∧ PInv H h key q n (k + 1) (putW W (h k) k (key k) q) ∧ ∀ y : Int, (lenW (putW W (h k) k (key k) q) y : Int) = if y = h k then (lenW W y : Int) + 1 else lenW W y := by
  have hkl : k < W.cells.length := by rw [P.len]; exact hk
  have c3 := P.rest k (Nat.le_refl _) hk
  have c1 := cell_nat W k hkl
  have c4 : inW W k = false := by rw [inW, c1, c3]; rfl
  have c2 : slotW W k = true := by simp [slotW]; omega
  have hpb : putB W (h k) k = true := by simp [putB, hh, c2, c4]
  have e1 : putW W (h k) k (key k) q = ⟨W.heaps, W.cells.set k ⟨h k, key k, q⟩⟩ := by simp [putW, hpb]
  rw [e1]
  refine ⟨hpb, ⟨P.heaps, by simpa using P.len, fun i hi hn => ?_, fun i hi hn => ?_⟩, fun y => ?_⟩
  · show (W.cells.set k _).getD i _ = _
    rw [getD_setN _ _ _ _ _ hkl]
    by_cases e : k = i
    · subst e; rw [if_pos rfl]
    · rw [if_neg e]; exact P.done i (by omega) hn
  · show (W.cells.set k _).getD i _ = _
    rw [getD_setN _ _ _ _ _ hkl, if_neg (by omega)]
    exact P.rest i (by omega) hn
  · rw [len_put (W := W) hp hkl (by rw [c3]; rfl) y]
    by_cases e : y = h k
    · rw [if_pos e, if_pos e, e]
    · rw [if_neg e, if_neg e]

/-- j came out already: each slot is in with its entry, or out; those in go behind the last one. -/
structure OInv (key : Nat → Int) (q : Int) (n : Nat) (a : Nat) (W : WS) : Prop where
  len : W.cells.length = n
  cell : ∀ i, i < n → W.cells.getD i .off = ⟨a, key i, q⟩ ∨ W.cells.getD i .off = .off
theorem oinv_of {H : List Bool} {key : Nat → Int} {q : Int} {n a : Nat} {W : WS} (P : PInv H (fun _ => a) key q n n W) : OInv key q n a W := ⟨P.len, fun i hi => Or.inl (P.done i hi hi)⟩
theorem oinv_drop {key : Nat → Int} {q : Int} {n a : Nat} {W : WS} (O : OInv key q n a W) {m : Nat} (hm : IsMin W a m) : OInv key q n a (dropW W m) := by
  rw [(isMin_in hm).2]
  refine ⟨by simpa using O.len, fun i hi => ?_⟩
  rw [home_drop hm.lt]
  by_cases e : m = i
  · rw [if_pos e]; exact Or.inr rfl
  · rw [if_neg e]; exact O.cell i hi
theorem oinv_home {key : Nat → Int} {q : Int} {n a : Nat} {W : WS} (O : OInv key q n a W) (ha : 1 ≤ a) {i : Nat} (hi : i < n) (hh : (homeAt W i : Int) = a) : W.cells.getD i .off = ⟨a, key i, q⟩ := by
  rcases O.cell i hi with h | h
  · exact h
  · rw [homeAt, h] at hh
    simp [CellD.off] at hh
    omega
/-- Whoever is in goes behind it. -/
def After (key : Nat → Int) (W : WS) (a : Nat) (m : Nat) : Prop := ∀ i, i < W.cells.length → (homeAt W i : Int) = a → key m < key i ∨ (key m = key i ∧ m < i)
theorem after_min {key : Nat → Int} {q : Int} {n a : Nat} {W : WS} (O : OInv key q n a W) (ha : 1 ≤ a) {m : Nat} (hm : IsMin W a m) : After key (dropW W m) a m := by
  rw [(isMin_in hm).2]
  intro i hi hh
  simp only [List.length_set] at hi
  simp only [homeAt, home_drop hm.lt] at hh
  by_cases e : m = i
  · rw [if_pos e] at hh
    simp [CellD.off] at hh
    omega
  · rw [if_neg e] at hh
    have h1 := hm.ahead i hi hh (fun x => e x.symm)
    have e1 := hm.home
    have e2 : (homeAt W i : Int) = a := hh
    rw [ahead_nat hm.lt hi (by omega) (by omega), oinv_home O ha (by rw [← O.len]; exact hm.lt) hm.home, oinv_home O ha (by rw [← O.len]; exact hi) hh, ahead_iff] at h1
    simp only at h1
    omega

/-! ### two heaps, melded -/
/-- All are in the heap 1; there is no heap 2. -/
theorem pinv_meld {h : Nat → Nat} {key : Nat → Int} {q : Int} {n : Nat} {W : WS} (P : PInv [false, true, true] h key q n n W) (hh : ∀ i, h i = 1 ∨ h i = 2) (hs : lenW W 1 + lenW W 2 = n) :
    joinBW W 1 2 = true ∧ PInv [false, true, false] (fun _ => 1) key q n n (joinW W 1 2) ∧ lenW (joinW W 1 2) 1 = n ∧ joinBW (joinW W 1 2) 1 2 = false ∧ hasW (joinW W 1 2) 2 = false := by
  have a1 : hasW W 1 = true := by simp [hasW, P.heaps]
  have a2 : hasW W 2 = true := by simp [hasW, P.heaps]
  have hj : joinBW W 1 2 = true := by simp [joinBW, a1, a2]
  have e1 : joinW W 1 2 = ⟨W.heaps.set 2 false, W.cells.map fun c => if c.home = 2 then ⟨1, c.key, c.seq⟩ else c⟩ := by simp [joinW, hj]
  have hl := len_join (W := W) (a := 1) (b := 2) (by omega) (by omega) (by omega) (W.heaps.set 2 false) 1
  have e5 : hasW (joinW W 1 2) 2 = false := by rw [e1, P.heaps]; rfl
  refine ⟨hj, ⟨by rw [e1, P.heaps]; rfl, by rw [e1]; simpa using P.len, fun i hi hn => ?_, fun i hi hn => by omega⟩, ?_, by simp [joinBW, e5], e5⟩
  · rw [e1]
    have hd := P.done i hi hn
    have hil : i < W.cells.length := by rw [P.len]; exact hn
    have : (W.cells.map fun c : CellD => if c.home = 2 then (⟨1, c.key, c.seq⟩ : CellD) else c).getD i .off = (fun c : CellD => if c.home = 2 then (⟨1, c.key, c.seq⟩ : CellD) else c) (W.cells.getD i .off) := by
      simp [List.getD_eq_getElem?_getD, hil]
    show (W.cells.map _).getD i _ = _
    rw [this, hd]
    rcases hh i with e | e <;> simp [e]
  · rw [e1]
    simp at hl
    omega
/-- Who may still come out: not the one that is deleted; the one that is lowered is ahead of all. -/
structure HInv (n : Nat) (low gone : Int) (W : WS) : Prop where
  len : W.cells.length = n
  home : ∀ i, i < n → homeAt W i = 1 ∨ homeAt W i = 0
  gone : gone ≠ low → ∀ i : Nat, i < n → (i : Int) = gone → homeAt W i = 0
theorem hinv_drop {n : Nat} {low gone : Int} {W : WS} (O : HInv n low gone W) {m : Nat} (hm : IsMin W 1 m) : HInv n low gone (dropW W m) := by
  rw [(isMin_in hm).2]
  refine ⟨by simpa using O.len, fun i hi => ?_, fun hne i hi hg => ?_⟩
  · simp only [homeAt, home_drop hm.lt]
    by_cases e : m = i
    · rw [if_pos e]; exact Or.inr rfl
    · rw [if_neg e]; exact O.home i hi
  · simp only [homeAt, home_drop hm.lt]
    by_cases e : m = i
    · rw [if_pos e]; rfl
    · rw [if_neg e]; exact O.gone hne i hi hg
theorem hinv_min {n : Nat} {low gone : Int} {W : WS} (O : HInv n low gone W) {m : Nat} (hm : IsMin W 1 m) : ¬ ((m : Int) = gone ∧ gone ≠ low) := by
  rintro ⟨h1, h2⟩
  have := O.gone h2 m (by rw [← O.len]; exact hm.lt) h1
  have := hm.home
  omega
/-- Lowered below all. -/
theorem lowest {H : List Bool} {key : Nat → Int} {n : Nat} {W : WS} (P : PInv H (fun _ => 1) key 1 n n W) (hk : ∀ i, i < n → -9223372036854775808 ≤ key i) {low : Nat} (hl : low < n) :
    lowerB W low (-9223372036854775808) 0 = true ∧ ∀ y, lenW (lowerW W low (-9223372036854775808) 0) y = lenW W y := by
  have hll : low < W.cells.length := by rw [P.len]; exact hl
  have hd := P.done low hl hl
  have hc := cell_nat W low hll
  rw [hd] at hc
  have hb : lowerB W low (-9223372036854775808) 0 = true := by
    have h1 : inW W low = true := by rw [inW, hc]; rfl
    have := hk low hl
    have h2 : lessB (key low) 1 (-9223372036854775808) 0 = false := by
      simp only [lessB, Bool.or_eq_false_iff, Bool.and_eq_false_iff, decide_eq_false_iff_not, beq_eq_false_iff_ne]
      exact ⟨by omega, Or.inr (by omega)⟩
    simp [lowerB, h1, hc, h2]
  refine ⟨hb, fun y => ?_⟩
  have := len_lower (W := W) (x := low) (k := -9223372036854775808) (s := 0) hll y
  unfold lowerW
  rw [if_pos hb, hc]
  rw [hd] at this
  exact this
/-- Behind the lowering: the slot low is below all, the others are as they came, or out. -/
structure LInv (key : Nat → Int) (n : Nat) (low : Int) (W : WS) : Prop where
  len : W.cells.length = n
  lowC : ∀ i : Nat, i < n → (i : Int) = low → W.cells.getD i .off = ⟨1, -9223372036854775808, 0⟩
  rest : ∀ i : Nat, i < n → (i : Int) ≠ low → W.cells.getD i .off = ⟨1, key i, 1⟩ ∨ W.cells.getD i .off = .off
/-- The state ahead of the last loop: what Decrease and Delete answer, and what then is. -/
def lowS (n : Nat) (low : Int) (W : WS) : WS := if 0 ≤ low ∧ low < n then lowerW W low (-9223372036854775808) 0 else W
def goneS (n : Nat) (low gone : Int) (W : WS) : WS := if 0 ≤ gone ∧ gone < n ∧ gone ≠ low then dropW W gone else W
theorem lowS_inv {H : List Bool} {key : Nat → Int} {n : Nat} {W : WS} (P : PInv H (fun _ => 1) key 1 n n W) (hk : ∀ i, i < n → -9223372036854775808 ≤ key i) (low : Int) :
    LInv key n low (lowS n low W) ∧ (0 ≤ low ∧ low < n → lowerB W low (-9223372036854775808) 0 = true) ∧ lenW (lowS n low W) 1 = lenW W 1 := by
  unfold lowS
  by_cases hl : 0 ≤ low ∧ low < n
  · rw [if_pos hl]
    obtain ⟨i, rfl⟩ : ∃ i : Nat, low = i := ⟨low.toNat, by omega⟩
    obtain ⟨h1, h2⟩ := lowest P hk (low := i) (by omega)
    have hil : i < W.cells.length := by rw [P.len]; omega
    have hc := cell_nat W i hil
    have hd := P.done i (by omega) (by omega)
    have e : lowerW W i (-9223372036854775808) 0 = ⟨W.heaps, W.cells.set i ⟨1, -9223372036854775808, 0⟩⟩ := by
      unfold lowerW
      rw [if_pos h1, hc, hd]
      rfl
    refine ⟨?_, fun _ => h1, h2 1⟩
    rw [e]
    refine ⟨by simpa using P.len, fun j hj hjl => ?_, fun j hj hjl => ?_⟩
    · show (W.cells.set i _).getD j _ = _
      rw [getD_setN _ _ _ _ _ hil, if_pos (by omega)]
    · show (W.cells.set i _).getD j _ = _ ∨ (W.cells.set i _).getD j _ = _
      rw [getD_setN _ _ _ _ _ hil, if_neg (by omega)]
      exact Or.inl (P.done j hj hj)
  · rw [if_neg hl]
    exact ⟨⟨P.len, fun j hj hjl => absurd ⟨by omega, by omega⟩ hl, fun j hj _ => Or.inl (P.done j hj hj)⟩, fun h => absurd h hl, rfl⟩
theorem goneS_inv {H : List Bool} {key : Nat → Int} {n : Nat} {W : WS} (P : PInv H (fun _ => 1) key 1 n n W) (hk : ∀ i, i < n → -9223372036854775808 ≤ key i) (low gone : Int) :
    (0 ≤ gone ∧ gone < n ∧ gone ≠ low → inW (lowS n low W) gone = true) ∧ HInv n low gone (goneS n low gone (lowS n low W)) ∧ (∀ i : Nat, i < n → (i : Int) = low → IsMin (goneS n low gone (lowS n low W)) 1 i) := by
  obtain ⟨L, _, _⟩ := lowS_inv P hk low
  have hfull : ∀ i : Nat, i < n → homeAt (lowS n low W) i = 1 := fun i hi => by
    unfold lowS
    split
    · rename_i hl
      obtain ⟨j, rfl⟩ : ∃ j : Nat, low = j := ⟨low.toNat, by omega⟩
      have hjl : j < W.cells.length := by rw [P.len]; omega
      have hd := P.done j (by omega) (by omega)
      unfold lowerW
      split
      · show ((W.cells.set j _).getD i .off).home = 1
        rw [getD_setN _ _ _ _ _ hjl]
        split
        · show (cellW W j).home = 1
          rw [cell_nat W j hjl, hd]
        · rw [P.done i hi hi]
      · rw [homeAt, P.done i hi hi]
    · rw [homeAt, P.done i hi hi]
  have hin : ∀ i : Nat, i < n → inW (lowS n low W) i = true := fun i hi => by
    rw [inW, cell_nat _ i (by rw [L.len]; exact hi)]
    have := hfull i hi
    exact bne_iff_ne.2 (by rw [homeAt] at this; omega)
  have hfst : ∀ V : WS, LInv key n low V → ∀ i : Nat, i < n → (i : Int) = low → IsMin V 1 i := fun V L i hi hl => by
    have hc := L.lowC i hi hl
    refine ⟨by rw [L.len]; exact hi, by omega, by rw [homeAt, hc]; rfl, fun j hj hh hne => ?_⟩
    have hjn : j < n := by rw [← L.len]; exact hj
    have hcj : V.cells.getD j .off = ⟨1, key j, 1⟩ := by
      rcases L.rest j hjn (by omega) with h | h
      · exact h
      · rw [homeAt, h] at hh; simp [CellD.off] at hh
    rw [ahead_nat (by rw [L.len]; exact hi) hj (by rw [homeAt, hc]; simp) (by omega), hc, hcj, ahead_iff]
    have := hk j hjn
    simp only
    omega
  refine ⟨fun ⟨h1, h2, _⟩ => ?_, ?_⟩
  · obtain ⟨i, rfl⟩ : ∃ i : Nat, gone = i := ⟨gone.toNat, by omega⟩
    exact hin i (by omega)
  · unfold goneS
    by_cases hg : 0 ≤ gone ∧ gone < n ∧ gone ≠ low
    · rw [if_pos hg]
      obtain ⟨j, rfl⟩ : ∃ j : Nat, gone = j := ⟨gone.toNat, by omega⟩
      have hj : j < n := by omega
      have hjl : j < (lowS n low W).cells.length := by rw [L.len]; exact hj
      have e : dropW (lowS n low W) j = ⟨(lowS n low W).heaps, (lowS n low W).cells.set j .off⟩ := by simp [dropW, hin j hj]
      rw [e]
      refine ⟨⟨by simpa using L.len, fun i hi => ?_, fun _ i hi hgi => ?_⟩, hfst _ ⟨by simpa using L.len, fun i hi hl => ?_, fun i hi hl => ?_⟩⟩
      · simp only [homeAt, home_drop hjl]
        split
        · exact Or.inr rfl
        · exact Or.inl (hfull i hi)
      · simp only [homeAt, home_drop hjl]
        rw [if_pos (by omega)]; rfl
      · show ((lowS n low W).cells.set j .off).getD i .off = _
        rw [home_drop hjl, if_neg (by omega)]
        exact L.lowC i hi hl
      · show ((lowS n low W).cells.set j .off).getD i .off = _ ∨ ((lowS n low W).cells.set j .off).getD i .off = _
        rw [home_drop hjl]
        split
        · exact Or.inr rfl
        · exact L.rest i hi hl
    · rw [if_neg hg]
      exact ⟨⟨L.len, fun i hi => Or.inl (hfull i hi), fun hne i hi hgi => absurd ⟨by omega, by omega, hne⟩ hg⟩, hfst _ L⟩
end Go.Proofs.YtmoolbmbdnkooaaGreat
