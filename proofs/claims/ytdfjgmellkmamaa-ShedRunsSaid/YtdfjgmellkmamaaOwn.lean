/- Merged of ShedInv, Own. -/
import Derived.Test.YtdfjgmellkmamaaShedHeapMath
import Derived.Test.YtdfjgmellkmamaaNestSortMath
import Derived.Test.YtdfjgmellkmamaaMem
import Derived.Laws.OwnMore
import Derived.WalkSmall
namespace Go.Proofs.Ytdfjgmellkmamaa

/-- The lists Ls, and the places pl, are those of the nest W. -/
structure SInv (W : WS) (pl : List Nat) (Ls : Nat → List Nat) : Prop where
  plen : pl.length = W.cells.length
  mem : ∀ h x, 1 ≤ h → (x ∈ Ls h ↔ x < W.cells.length ∧ homeAt W x = h)
  zero : Ls 0 = []
  heap : ∀ h, Heap 2 (ltW W) (Ls h)
  placed : ∀ h, Placed (Ls h) pl
def updL (g : Nat → List Nat) (h : Nat) (l : List Nat) : Nat → List Nat := fun i => if i = h then l else g i
def updN (g : Nat → Nat) (h : Nat) (q : Nat) : Nat → Nat := fun i => if i = h then q else g i
section
variable {W : WS} {pl : List Nat} {Ls : Nat → List Nat}
theorem SInv.in' (I : SInv W pl Ls) {h x : Nat} (hx : x ∈ Ls h) : 1 ≤ h ∧ x < W.cells.length ∧ homeAt W x = h := by
  by_cases e : h = 0
  · subst e; rw [I.zero] at hx; simp at hx
  · exact ⟨by omega, (I.mem h x (by omega)).1 hx⟩
theorem SInv.allIn (I : SInv W pl Ls) (h : Nat) : AllIn W (Ls h) := fun x hx => by
  obtain ⟨h1, h2, h3⟩ := I.in' hx
  exact ⟨h2, by omega⟩
theorem SInv.strict (I : SInv W pl Ls) (h : Nat) : Strict (ltW W) (Ls h) := strict_of (pl := pl) (I.allIn h) fun _ _ hi hj e => placed_inj (I.placed h) hi hj e
theorem placed_nodup {xs pl : List Nat} (P : Placed xs pl) : xs.Nodup := by
  refine List.pairwise_iff_getElem.2 fun i j hi hj hij e => ?_
  have := placed_inj P hi hj (by simp [rat, List.getD_eq_getElem?_getD, hi, hj, e])
  omega
theorem len_range (W : WS) (h : Nat) (hp : 1 ≤ h) : lenW W h = ((List.range W.cells.length).filter fun x => homeAt W x == h).length := by
  unfold lenW
  rw [if_pos (by omega), ← List.countP_eq_length_filter]
  have e : W.cells = (List.range W.cells.length).map fun x => W.cells.getD x .off := by
    apply List.ext_getElem
    · simp
    · intro n h1 h2
      simp [List.getD_eq_getElem?_getD, h1]
  conv => lhs; rw [e]
  rw [List.countP_map]
  refine List.countP_congr fun x _ => ?_
  simp only [Function.comp, homeAt, beq_iff_eq]
  omega
theorem SInv.len (I : SInv W pl Ls) (h : Nat) (hp : 1 ≤ h) : (Ls h).length = lenW W h := by
  rw [len_range W h hp]
  refine List.Perm.length_eq ((List.perm_ext_iff_of_nodup (placed_nodup (I.placed h)) (List.nodup_range.filter _)).2 fun x => ?_)
  rw [I.mem h x hp, List.mem_filter, List.mem_range]
  simp
theorem SInv.lenLe (I : SInv W pl Ls) (hf : W.Fit) (h : Nat) : (Ls h).length ≤ 65536 := by
  by_cases e : h = 0
  · subst e; rw [I.zero]; simp
  · rw [I.len h (by omega)]; exact Nat.le_trans (len_le W h) hf.cap
/-- Who has a list is a heap. -/
theorem SInv.keyLt (I : SInv W pl Ls) (hf : W.Fit) {h : Nat} (hn : Ls h ≠ []) : 1 ≤ h ∧ h < 65537 ∧ hasW W h = true := by
  obtain ⟨x, hx⟩ := List.exists_mem_of_ne_nil _ hn
  obtain ⟨h1, h2, h3⟩ := I.in' hx
  have h4 := hf.home x h2
  have e : (W.cells.getD x .off).home = h := h3
  rw [e] at h4
  rcases h4 with h4 | h4
  · omega
  · obtain ⟨i, hi, _, hl, _⟩ := has_nat h4
    have := hf.len
    exact ⟨h1, by omega, h4⟩
/-- The first of a heap's list is ahead of all others. -/
theorem SInv.min (I : SInv W pl Ls) {h : Nat} (hn : Ls h ≠ []) : IsMin W h (rat (Ls h) 0) := by
  have hl : 0 < (Ls h).length := List.length_pos_iff.2 hn
  obtain ⟨h1, h2, h3⟩ := I.in' (rat_mem hl)
  have S := I.strict h
  refine ⟨h2, by omega, by omega, fun j hj hh hne => ?_⟩
  obtain ⟨i, hi, rfl⟩ := mem_rat ((I.mem h j h1).2 ⟨hj, by omega⟩)
  have hi0 : i ≠ 0 := fun e => hne (by rw [e])
  have h5 := heap_top (by omega) S (I.heap h) i hi
  exact S.total i 0 hi hl hi0 h5
theorem SInv.none (I : SInv W pl Ls) {h : Int} (hl : lenW W h = 0) : minW W h = none := min_none_iff.2 hl
theorem SInv.empty (I : SInv W pl Ls) {h : Nat} (hp : 1 ≤ h) : Ls h = [] ↔ lenW W h = 0 := by
  rw [← I.len h hp]; exact List.length_eq_zero_iff.symm
/-- A new one. -/
theorem sinv_new (n : Nat) : SInv (newW n) (List.replicate n 0) (fun _ => []) := by
  refine ⟨by simp [newW], fun h x hp => ?_, rfl, fun _ => heap_nil, fun _ i hi => by simp at hi⟩
  simp only [List.not_mem_nil, false_iff, not_and]
  intro hx
  simp only [newW, List.length_replicate] at hx
  simp [homeAt, newW, List.getD_eq_getElem?_getD, List.getElem?_replicate, hx, CellD.off]
  omega
theorem SInv.congr {W' : WS} (I : SInv W pl Ls) (h1 : W'.cells = W.cells) : SInv W' pl Ls := by
  have e1 : ∀ x, homeAt W' x = homeAt W x := fun x => by unfold homeAt; rw [h1]
  have e2 : ltW W' = ltW W := by
    funext a b
    unfold ltW aheadW inW cellW slotW
    rw [h1]
  exact ⟨by rw [h1]; exact I.plen, fun h x hp => by rw [h1, e1]; exact I.mem h x hp, I.zero, fun h => by rw [e2]; exact I.heap h, I.placed⟩
/-- The order of slots hangs on their entries alone. -/
theorem lt_same {W' : WS} {a b : Nat} (ha : W'.cells.getD a .off = W.cells.getD a .off) (hb : W'.cells.getD b .off = W.cells.getD b .off) (hl : W'.cells.length = W.cells.length) : ltW W' a b = ltW W a b := by
  have hc : ∀ x : Nat, W'.cells.getD x .off = W.cells.getD x .off → cellW W' x = cellW W x := fun x hx => by
    unfold cellW slotW
    rw [hl]
    by_cases h : (0 : Int) ≤ x ∧ (x : Int) < W.cells.length
    · simp only [h, decide_true, if_true, Int.toNat_natCast]; exact hx
    · rw [decide_eq_false h]; rfl
  unfold ltW aheadW inW
  rw [hc a ha, hc b hb]
theorem heap_same {W' : WS} {xs : List Nat} (H : Heap 2 (ltW W) xs) (h : ∀ x ∈ xs, W'.cells.getD x .off = W.cells.getD x .off) (hl : W'.cells.length = W.cells.length) : Heap 2 (ltW W') xs := fun i h0 hi => by
  have hp := par_lt (d := 2) (by omega) h0
  rw [lt_same (h _ (rat_mem hi)) (h _ (rat_mem (Nat.lt_trans hp hi))) hl]
  exact H i h0 hi
/-- One slot comes in. -/
theorem sinv_put (I : SInv W pl Ls) {h x : Nat} {k s : Int} (hp : putB W h x = true) (h1 : 1 ≤ h) : x < W.cells.length ∧ homeAt W x = 0 ∧ putW W h x k s = ⟨W.heaps, W.cells.set x ⟨h, k, s⟩⟩ ∧ (∀ g, x ∉ Ls g) ∧ Heap 2 (ltW (putW W h x k s)) (Ls h) ∧ AllIn (putW W h x k s) (Ls h ++ [x]) ∧
    ∀ ys pl', Heap 2 (ltW (putW W h x k s)) ys → ys.Perm (Ls h ++ [x]) → Placed ys pl' → pl'.length = pl.length → (∀ y, y ∉ Ls h ++ [x] → rat pl' y = rat pl y) → SInv (putW W h x k s) pl' (updL Ls h ys) := by
  have hp' := hp
  simp only [putB, Bool.and_eq_true, Bool.not_eq_true'] at hp
  obtain ⟨_, h2, h3⟩ := hp
  obtain ⟨x', e, hx⟩ := slot_nat h2
  obtain rfl : x = x' := by omega
  have h0 : homeAt W x = 0 := by simpa [inW, cell_nat _ x hx, homeAt] using h3
  have e1 : putW W h x k s = ⟨W.heaps, W.cells.set x ⟨h, k, s⟩⟩ := by simp [putW, hp']
  rw [e1]
  have hg : ∀ y, (W.cells.set x (⟨h, k, s⟩ : CellD)).getD y .off = if x = y then ⟨h, k, s⟩ else W.cells.getD y .off := fun y => getD_setN _ _ _ _ _ hx
  have hnot : ∀ g, x ∉ Ls g := fun g hm => by
    obtain ⟨_, _, h6⟩ := I.in' hm
    have := (I.in' hm).1
    omega
  have hsame : ∀ g, ∀ y ∈ Ls g, (W.cells.set x (⟨h, k, s⟩ : CellD)).getD y .off = W.cells.getD y .off := fun g y hy => by
    rw [hg, if_neg (fun e : x = y => hnot g (e ▸ hy))]
  have hhome : ∀ y, homeAt ⟨W.heaps, W.cells.set x ⟨h, k, s⟩⟩ y = if x = y then h else homeAt W y := fun y => by
    show ((W.cells.set x _).getD y .off).home = _
    rw [hg]
    split <;> rfl
  have hall : AllIn (⟨W.heaps, W.cells.set x ⟨h, k, s⟩⟩ : WS) (Ls h ++ [x]) := fun y hy => by
    simp only [List.mem_append, List.mem_singleton] at hy
    rw [hhome]
    refine ⟨?_, ?_⟩
    · show y < (W.cells.set x _).length
      rw [List.length_set]
      rcases hy with hy | rfl
      · exact (I.in' hy).2.1
      · exact hx
    · rcases hy with hy | rfl
      · rw [if_neg (fun e : x = y => hnot h (e ▸ hy)), (I.in' hy).2.2]; omega
      · rw [if_pos rfl]; omega
  refine ⟨hx, h0, rfl, hnot, heap_same (I.heap h) (hsame h) (by simp), hall, fun ys pl' H Pm Pp pL pO => ⟨by rw [pL, I.plen]; simp, fun g y hgp => ?_, ?_, fun g => ?_, fun g => ?_⟩⟩
  · show y ∈ updL Ls h ys g ↔ y < (W.cells.set x _).length ∧ _
    rw [List.length_set, hhome]
    unfold updL
    by_cases e : g = h
    · subst e
      rw [if_pos rfl, Pm.mem_iff, List.mem_append, List.mem_singleton, I.mem g y hgp]
      by_cases e2 : x = y
      · subst e2; simp [hx]
      · rw [if_neg e2]
        exact ⟨fun h => h.elim id (fun h => absurd h.symm e2), Or.inl⟩
    · rw [if_neg e, I.mem g y hgp]
      by_cases e2 : x = y
      · subst e2; rw [if_pos rfl, h0]; constructor <;> (intro h; omega)
      · rw [if_neg e2]
  · unfold updL
    rw [if_neg (by omega)]; exact I.zero
  · unfold updL
    by_cases e : g = h
    · rw [if_pos e]; exact H
    · rw [if_neg e]; exact heap_same (I.heap g) (hsame g) (by simp)
  · unfold updL
    by_cases e : g = h
    · rw [if_pos e]; exact Pp
    · rw [if_neg e]
      intro i hi
      have h7 := I.placed g i hi
      have hm : rat (Ls g) i ∉ Ls h ++ [x] := fun hm => by
        simp only [List.mem_append, List.mem_singleton] at hm
        have a := I.in' (rat_mem hi)
        rcases hm with hm | hm
        · have b := I.in' hm; omega
        · exact hnot g (hm ▸ rat_mem hi)
      rw [pL, pO _ hm]
      exact h7
/-- One slot comes out. -/
theorem sinv_drop (I : SInv W pl Ls) {h x : Nat} (hx : x ∈ Ls h) : inW W x = true ∧ dropW W x = ⟨W.heaps, W.cells.set x .off⟩ ∧ ∀ ys pl', Heap 2 (ltW W) ys → (ys ++ [x]).Perm (Ls h) → Placed ys pl' → pl'.length = pl.length → (∀ y, y ∉ Ls h → rat pl' y = rat pl y) → SInv (dropW W x) pl' (updL Ls h ys) := by
  obtain ⟨h1, hxl, hh⟩ := I.in' hx
  have hin : inW W x = true := by
    rw [inW, cell_nat W x hxl]
    exact bne_iff_ne.2 (by show homeAt W x ≠ 0; omega)
  have e1 : dropW W x = ⟨W.heaps, W.cells.set x .off⟩ := by simp [dropW, hin]
  rw [e1]
  have hg : ∀ y, (W.cells.set x CellD.off).getD y .off = if x = y then .off else W.cells.getD y .off := fun y => getD_setN _ _ _ _ _ hxl
  have hhome : ∀ y, homeAt ⟨W.heaps, W.cells.set x .off⟩ y = if x = y then 0 else homeAt W y := fun y => by
    show ((W.cells.set x _).getD y .off).home = _
    rw [hg]
    split <;> rfl
  refine ⟨hin, rfl, fun ys pl' H Pm Pp pL pO => ?_⟩
  have hnd := placed_nodup (I.placed h)
  have hnd2 := (Pm.nodup_iff).2 hnd
  have hxy : x ∉ ys := fun hm => by
    rw [List.nodup_append] at hnd2
    exact hnd2.2.2 x hm x (by simp) rfl
  have hym : ∀ y, y ∈ ys ↔ y ∈ Ls h ∧ y ≠ x := fun y => by
    rw [← Pm.mem_iff, List.mem_append, List.mem_singleton]
    constructor
    · intro hy
      exact ⟨Or.inl hy, fun e => hxy (e ▸ hy)⟩
    · rintro ⟨hy | hy, hne⟩
      · exact hy
      · exact absurd hy hne
  have hother : ∀ g, g ≠ h → x ∉ Ls g := fun g hg hm => by have := I.in' hm; omega
  refine ⟨by rw [pL, I.plen]; simp, fun g y hgp => ?_, ?_, fun g => ?_, fun g => ?_⟩
  · show y ∈ updL Ls h ys g ↔ y < (W.cells.set x _).length ∧ _
    rw [List.length_set, hhome]
    unfold updL
    by_cases e : g = h
    · subst e
      rw [if_pos rfl, hym, I.mem g y hgp]
      by_cases e2 : x = y
      · subst e2; rw [if_pos rfl]; simp; omega
      · rw [if_neg e2]; exact ⟨fun h => h.1, fun h => ⟨h, fun e => e2 e.symm⟩⟩
    · rw [if_neg e, I.mem g y hgp]
      by_cases e2 : x = y
      · subst e2; rw [if_pos rfl]; constructor <;> (intro h; omega)
      · rw [if_neg e2]
  · unfold updL
    rw [if_neg (by omega)]; exact I.zero
  · unfold updL
    by_cases e : g = h
    · rw [if_pos e]
      exact heap_same H (fun y hy => by rw [hg, if_neg (fun e : x = y => hxy (e ▸ hy))]) (by simp)
    · rw [if_neg e]
      exact heap_same (I.heap g) (fun y hy => by rw [hg, if_neg (fun e2 : x = y => hother g e (e2 ▸ hy))]) (by simp)
  · unfold updL
    by_cases e : g = h
    · rw [if_pos e]; exact Pp
    · rw [if_neg e]
      intro i hi
      have h7 := I.placed g i hi
      have hm : rat (Ls g) i ∉ Ls h := fun hm => by
        have a := I.in' (rat_mem hi)
        have b := I.in' hm
        omega
      rw [pL, pO _ hm]
      exact h7
/-- A slot's entry becomes another one. -/
theorem sinv_lower (I : SInv W pl Ls) {x : Nat} {k s : Int} (hb : lowerB W x k s = true) : ∃ h, x ∈ Ls h ∧ (cellW W x).home = h ∧ (rat pl x < (Ls h).length ∧ rat (Ls h) (rat pl x) = x) ∧ AllIn (lowerW W x k s) (Ls h) ∧ FixInv (ltW (lowerW W x k s)) (Ls h) (rat pl x) ∧
    ∀ ys pl', Heap 2 (ltW (lowerW W x k s)) ys → ys.Perm (Ls h) → Placed ys pl' → pl'.length = pl.length → (∀ y, y ∉ Ls h → rat pl' y = rat pl y) → SInv (lowerW W x k s) pl' (updL Ls h ys) := by
  have hb' := hb
  simp only [lowerB, Bool.and_eq_true] at hb
  obtain ⟨x', e, hx, hne⟩ := in_nat hb.1
  obtain rfl : x = x' := by omega
  have hc := cell_nat W x hx
  obtain ⟨h, hh⟩ : ∃ h, h = (W.cells.getD x .off).home := ⟨_, rfl⟩
  have hh' : homeAt W x = h := hh.symm
  have e1 : lowerW W x k s = ⟨W.heaps, W.cells.set x ⟨h, k, s⟩⟩ := by simp only [lowerW, hb', if_true, hc, Int.toNat_natCast, hh]
  have hm : x ∈ Ls h := (I.mem h x (by omega)).2 ⟨hx, hh'⟩
  obtain ⟨i, hi, hix⟩ := mem_rat hm
  have hpi := (I.placed h i hi).2
  rw [hix] at hpi
  rw [e1]
  have hg : ∀ y, (W.cells.set x (⟨h, k, s⟩ : CellD)).getD y .off = if x = y then ⟨h, k, s⟩ else W.cells.getD y .off := fun y => getD_setN _ _ _ _ _ hx
  have hhome : ∀ y, homeAt ⟨W.heaps, W.cells.set x ⟨h, k, s⟩⟩ y = homeAt W y := fun y => by
    show ((W.cells.set x _).getD y .off).home = _
    rw [hg]
    split
    · rename_i e; subst e; exact hh
    · rfl
  have hother : ∀ g, g ≠ h → x ∉ Ls g := fun g hg hm => by have := I.in' hm; omega
  refine ⟨h, hm, by rw [hc]; exact hh.symm, by rw [hpi]; exact ⟨hi, hix⟩, fun y hy => ?_, ?_, fun ys pl' H Pm Pp pL pO => ⟨by rw [pL, I.plen]; simp, fun g y hgp => ?_, ?_, fun g => ?_, fun g => ?_⟩⟩
  · have := I.in' hy
    rw [hhome]
    refine ⟨?_, by omega⟩
    show y < (W.cells.set x _).length
    rw [List.length_set]; omega
  · rw [hpi]
    refine fix_lower (I.heap h) (I.strict h) hi fun a b ha hb' hai hbi => ?_
    refine lt_same ?_ ?_ (by simp)
    · show (W.cells.set x _).getD _ .off = _
      rw [hg, if_neg (fun e : x = _ => hai (placed_inj (I.placed h) ha hi (by rw [hix]; exact e.symm)))]
    · show (W.cells.set x _).getD _ .off = _
      rw [hg, if_neg (fun e : x = _ => hbi (placed_inj (I.placed h) hb' hi (by rw [hix]; exact e.symm)))]
  · show y ∈ updL Ls h ys g ↔ y < (W.cells.set x _).length ∧ _
    rw [List.length_set, hhome]
    unfold updL
    by_cases e : g = h
    · subst e
      rw [if_pos rfl, Pm.mem_iff, I.mem g y hgp]
    · rw [if_neg e, I.mem g y hgp]
  · unfold updL
    rw [if_neg (by omega)]; exact I.zero
  · unfold updL
    by_cases e : g = h
    · rw [if_pos e]; exact H
    · rw [if_neg e]
      exact heap_same (I.heap g) (fun y hy => by rw [hg, if_neg (fun e2 : x = y => hother g e (e2 ▸ hy))]) (by simp)
  · unfold updL
    by_cases e : g = h
    · rw [if_pos e]; exact Pp
    · rw [if_neg e]
      intro i hi
      have h7 := I.placed g i hi
      have hm : rat (Ls g) i ∉ Ls h := fun hm => by
        have a := I.in' (rat_mem hi)
        have b := I.in' hm
        omega
      rw [pL, pO _ hm]
      exact h7
end
end Go.Proofs.Ytdfjgmellkmamaa

namespace Go.Proofs.Ytdfjgmellkmamaa
open Go.RowKit Go.Sort

/-- A call on an object whose blocks are F: nothing else that was there has turned; its blocks are now F', old ones of its own or new. -/
structure Moved (F F' : Nat → Prop) (w w' : World) : Prop where
  keeps : Keeps F w w'
  grow : ∀ k, F' k → F k ∨ w.heap.size ≤ k
theorem Moved.refl (F : Nat → Prop) (w : World) : Moved F F w w := ⟨Keeps.refl _ _, fun _ h => Or.inl h⟩
theorem Moved.trans {F G H : Nat → Prop} {a b c : World} (h : Moved F G a b) (k : Moved G H b c) : Moved F H a c :=
  ⟨h.keeps.trans k.keeps (fun i hi hg => by rcases h.grow i hg with h1 | h1; exact h1; omega),
   fun i hi => by
    rcases k.grow i hi with h1 | h1
    · exact h.grow i h1
    · exact Or.inr (Nat.le_trans h.keeps.size h1)⟩
theorem Moved.of_below {F : Nat → Prop} {a b : World} (h : Below a.heap.size a b) : Moved F F a b := ⟨Keeps.of_below_all h F, fun _ h => Or.inl h⟩
/-- What lies below all of an object's blocks is as it was. -/
theorem Moved.below {F F' : Nat → Prop} {w w' : World} (h : Moved F F' w w') {B : Nat} (hB : B ≤ w.heap.size) (hF : ∀ k, F k → B ≤ k) : Below B w w' := h.keeps.below hB hF
/-- Two objects that share no block share none behind a call on one of them. -/
theorem Moved.apart {F F' G : Nat → Prop} {w w' : World} (h : Moved F F' w w') (hG : ∀ k, G k → k < w.heap.size) (hd : ∀ k, F k → ¬ G k) : ∀ k, F' k → ¬ G k := by
  intro k hk hg
  rcases h.grow k hk with h1 | h1
  · exact hd k h1 hg
  · have := hG k hg; omega

/-- The blocks of a row. -/
def rowF (v : Value) : Nat → Prop := fun k => v.ownBlock = some k
/-- An owned row under a call that has turned other blocks alone. -/
theorem owns_keeps {F : Nat → Prop} {w w' : World} {base : Nat} {e : TypeId} {size : Nat} {v : Value} {n : Nat} {xs : List Value} (h : w.ownsRow base e size v n xs) (k : Keeps F w w') (hn : ∀ b, rowF v b → ¬ F b) : w'.ownsRow base e size v n xs := owns_keep h k hn
theorem owns_same {w w' : World} (hh : w'.heap = w.heap) {base : Nat} {e : TypeId} {size : Nat} {v : Value} {n : Nat} {xs : List Value} (h : w.ownsRow base e size v n xs) : w'.ownsRow base e size v n xs := by
  unfold World.ownsRow at *; rw [hh]; exact h
theorem owns_set_other {w : World} {base : Nat} {e : TypeId} {size : Nat} {v : Value} {n : Nat} {xs : List Value} (h : w.ownsRow base e size v n xs) {a : Addr} (ha : v.ownBlock ≠ some a.block) (u : Value) : (w.setCell a u).ownsRow base e size v n xs :=
  owns_keep h (Keeps.setCell (Keeps.refl (· = a.block) w) a (Or.inl rfl) u) (fun b hb e => ha (by rw [hb, e]))
/-- A row's value is a slice of that length. -/
theorem owns_form {w : World} {base : Nat} {e : TypeId} {size : Nat} {v : Value} {n : Nat} {xs : List Value} (h : w.ownsRow base e size v n xs) : ∃ a cap, v = .slice a n cap ∧ n ≤ cap ∧ cap ≤ maxLen := by
  obtain ⟨_, ⟨rfl, rfl⟩ | ⟨g, cap, cur, hv, hg, hh, hle, hmax, _⟩⟩ := h
  · exact ⟨none, 0, rfl, Nat.le_refl _, by decide⟩
  · exact ⟨_, cap, hv, hle, hmax⟩
theorem grown_keeps {w w' : World} {v : Value} (h : w.grownBy w' v.ownBlock) : Keeps (rowF v) w w' := ⟨h.os, h.tape, h.output, h.size, fun k hk hn => h.block k hk (fun e => hn e.symm)⟩
theorem new_cells' (w : World) (c : Array Value) (t : TypeId) (news : List Value) (H : Nat) (hH : w.heap.size = H) (h : news = c.toList) : ∀ j u, news[j]? = some u → (w.alloc (.cells c t)).cell? ((⟨H, 0, none⟩ : Addr).add j) = some u := by
  subst hH; exact new_cells w c t news h
theorem size_alloc (w : World) (o : Obj) : (w.alloc o).heap.size = w.heap.size + 1 := by show (w.heap.push _).size = _; simp
end Go.Proofs.Ytdfjgmellkmamaa
