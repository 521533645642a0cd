/- What is there, beside a row of things, as plain data: who comes, who goes, who is lowered. No program is named here. -/
import Derived.Test.YtokpngmfmkfmeaaSiftMath
namespace Go.Proofs.Ytokpngmfmkfmeaa

theorem heap_congr {d : Nat} {lt lt' : Int → Int → Bool} {l : List Int} (hd : 1 ≤ d) (h : ∀ a ∈ l, ∀ b ∈ l, lt' a b = lt a b) (H : Heap d lt l) : Heap d lt' l := by
  intro i h0 hi
  have hp := par_lt hd h0
  rw [h _ (rat_mem hi) _ (rat_mem (Nat.lt_trans hp hi))]
  exact H i h0 hi
theorem strict_congr {lt lt' : Int → Int → Bool} {l : List Int} (h : ∀ a ∈ l, ∀ b ∈ l, lt' a b = lt a b) (s : Strict lt l) : Strict lt' l := by
  refine ⟨fun i hi => ?_, fun i j k hi hj hk h1 h2 => ?_, fun i j hi hj hne h1 => ?_⟩
  · rw [h _ (rat_mem hi) _ (rat_mem hi)]; exact s.irr i hi
  · rw [h _ (rat_mem hi) _ (rat_mem hj)] at h1
    rw [h _ (rat_mem hj) _ (rat_mem hk)] at h2
    rw [h _ (rat_mem hi) _ (rat_mem hk)]; exact s.trans i j k hi hj hk h1 h2
  · rw [h _ (rat_mem hi) _ (rat_mem hj)] at h1
    rw [h _ (rat_mem hj) _ (rat_mem hi)]; exact s.total i j hi hj hne h1
/-- The order is the same among others. -/
theorem ltK_else {ks ks' : Int → Int} {x : Int} (h : ∀ y, y ≠ x → ks' y = ks y) {l : List Int} (hx : x ∉ l) : ∀ a ∈ l, ∀ b ∈ l, ltK ks' a b = ltK ks a b := fun a ha b hb =>
  lower_same h a b (fun e => hx (e ▸ ha)) (fun e => hx (e ▸ hb))
theorem without_perm {l m : List Int} {x : Int} (hn : l.Nodup) (h : (x :: m).Perm l) : m.Perm (withoutL l x) := by
  have hx : x ∈ l := h.mem_iff.1 (by simp)
  have h1 : (withoutL l x) = l.erase x := by
    rw [hn.erase_eq_filter]
    unfold withoutL
    apply List.filter_congr
    intro y _
    by_cases e : x = y
    · subst e; simp
    · have e2 : y ≠ x := fun h => e h.symm
      rw [show (x != y) = true from bne_iff_ne.2 e, show (y != x) = true from bne_iff_ne.2 e2]
  rw [h1]
  exact (h.trans (List.perm_cons_erase hx)).cons_inv
theorem without_nodup {l : List Int} {x : Int} (hn : l.Nodup) : (withoutL l x).Nodup := hn.filter _
theorem mem_without {l : List Int} {x y : Int} : y ∈ withoutL l x ↔ y ∈ l ∧ y ≠ x := by
  simp only [withoutL, List.mem_filter, bne_iff_ne, ne_eq]
  exact ⟨fun ⟨h1, h2⟩ => ⟨h1, fun e => h2 e.symm⟩, fun ⟨h1, h2⟩ => ⟨h1, fun e => h2 e.symm⟩⟩
theorem has_perm {l m : List Int} (h : l.Perm m) (x : Int) : hasL l x = hasL m x := by
  cases e : hasL m x
  · rw [hasL_not] at e ⊢; exact fun hx => e (h.mem_iff.1 hx)
  · rw [hasL_iff] at e ⊢; exact h.mem_iff.2 e
theorem has_add (l : List Int) (x : Int) : hasL (l ++ [x]) x = true := by rw [hasL_iff]; simp
theorem has_without (l : List Int) (x : Int) : hasL (withoutL l x) x = false := by rw [hasL_not, mem_without]; simp
theorem nodup_add {l : List Int} {x : Int} (hn : l.Nodup) (hx : hasL l x = false) : (l ++ [x]).Nodup := by
  rw [hasL_not] at hx
  rw [List.nodup_append]
  refine ⟨hn, by simp, fun a ha b hb e => hx ?_⟩
  simp only [List.mem_singleton] at hb
  subst hb; subst e; exact ha
theorem fill_nodup {l : List Int} {i : Nat} (hn : l.Nodup) (hi : i < l.length) : (fillL l i).Nodup := by
  have h := (fill_perm hi).nodup_iff.2 hn
  exact (List.nodup_cons.1 h).2
/-- Where a thing is in a row, if it is there. -/
def placeL (l : List Int) (x : Int) : Option Int := if x ∈ l then some ((l.idxOf x : Nat) : Int) else none
theorem place_rat {l : List Int} (hn : l.Nodup) {i : Nat} (hi : i < l.length) : placeL l (rat l i) = some ((i : Nat) : Int) := by
  have hm := rat_mem hi
  rw [placeL, if_pos hm]
  have h1 : l.idxOf (rat l i) < l.length := List.idxOf_lt_length_of_mem hm
  have h2 : rat l (l.idxOf (rat l i)) = rat l i := by
    have e := rat_get h1
    rw [List.getElem?_eq_getElem h1, List.getElem_idxOf h1] at e
    injection e with e
    exact e.symm
  rw [rat_inj hn h1 hi h2]
theorem place_none {l : List Int} {x : Int} (h : x ∉ l) : placeL l x = none := by rw [placeL, if_neg h]
theorem place_some {l : List Int} (hn : l.Nodup) {x : Int} (h : x ∈ l) : ∃ i, i < l.length ∧ rat l i = x ∧ placeL l x = some ((i : Nat) : Int) := by
  obtain ⟨i, hi, rfl⟩ := mem_rat h
  exact ⟨i, hi, rfl, place_rat hn hi⟩
theorem place_isSome (l : List Int) (x : Int) : (placeL l x).isSome = hasL l x := by
  unfold placeL
  by_cases h : x ∈ l
  · rw [if_pos h, hasL_iff.2 h]; rfl
  · rw [if_neg h, hasL_not.2 h]; rfl
/-- Places are told by what stands where. -/
theorem place_ext {l : List Int} (hn : l.Nodup) {f : Int → Option Int} (h1 : ∀ i, i < l.length → f (rat l i) = some ((i : Nat) : Int)) (h2 : ∀ x, x ∉ l → f x = none) : f = placeL l := by
  funext x
  by_cases hx : x ∈ l
  · obtain ⟨i, hi, rfl, e⟩ := place_some hn hx
    rw [h1 i hi, e]
  · rw [h2 x hx, place_none hx]
/-- The row behind the loop that takes the first one again and again: each is ahead of the next one. -/
theorem top_least {d : Nat} {ks : Int → Int} {l : List Int} (hd : 1 ≤ d) (hn : l.Nodup) (H : Heap d (ltK ks) l) {y : Int} (hy : y ∈ l) (hne : y ≠ rat l 0) : ltK ks (rat l 0) y = true := by
  obtain ⟨i, hi, rfl⟩ := mem_rat hy
  exact ltK_total hne (heap_top hd (strict_keys ks hn) H i hi)
end Go.Proofs.Ytokpngmfmkfmeaa
