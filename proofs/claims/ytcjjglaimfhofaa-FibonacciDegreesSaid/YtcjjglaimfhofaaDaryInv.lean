/- Rows of slots, as plain data: each heap's slots in one row; what the calls turn. No program is named here. -/
import Derived.Test.YtcjjglaimfhofaaNestMath
import Derived.Test.YtcjjglaimfhofaaNestSortMath
namespace Go.Proofs.Ytcjjglaimfhofaa

theorem dcell_off {W : WS} {x : Int} (h : ¬ (0 ≤ x ∧ x < W.cells.length)) : cellW W x = .off := by
  unfold cellW slotW
  rw [decide_eq_false h]; rfl
theorem dcell_in {W : WS} {x : Int} {h : Nat} (hp : 1 ≤ h) (e : (cellW W x).home = h) : ∃ k : Nat, x = k ∧ k < W.cells.length ∧ homeAt W k = h ∧ inW W x = true := by
  by_cases hx : 0 ≤ x ∧ x < W.cells.length
  · refine ⟨x.toNat, by omega, by omega, ?_, ?_⟩
    · have := cell_nat W x.toNat (by omega)
      rw [show ((x.toNat : Nat) : Int) = x by omega] at this
      unfold homeAt
      rw [← this]; exact e
    · unfold inW; rw [e]; exact bne_iff_ne.2 (by omega)
  · rw [dcell_off hx] at e
    have : (0 : Nat) = h := e
    omega
/-- The rows Ls are those of the nest W. -/
structure DInv (W : WS) (d : Nat) (Ls : Nat → List Int) : Prop where
  mem : ∀ h x, 1 ≤ h → (x ∈ Ls h ↔ (cellW W x).home = h)
  zero : Ls 0 = []
  nodup : ∀ h, (Ls h).Nodup
  heap : ∀ h, Heap d (aheadW W) (Ls h)
def updI (g : Nat → List Int) (h : Nat) (l : List Int) : Nat → List Int := fun i => if i = h then l else g i
/-- The order of slots that are in heaps is strict. -/
theorem dahead_in {W : WS} {x y : Int} (hx : inW W x = true) (hy : inW W y = true) : aheadW W x y = aheadC (cellW W x) (cellW W y) x y := by
  unfold aheadW; rw [hx, hy]; rfl
section
variable {W : WS} {d : Nat} {Ls : Nat → List Int}
theorem DInv.in' (I : DInv W d Ls) {h : Nat} {x : Int} (hx : x ∈ Ls h) : 1 ≤ h ∧ (cellW W x).home = h ∧ inW W x = true ∧ ∃ k : Nat, x = k ∧ k < W.cells.length ∧ homeAt W k = h := by
  by_cases e : h = 0
  · subst e; rw [I.zero] at hx; cases hx
  · have h1 := (I.mem h x (by omega)).1 hx
    obtain ⟨k, h2, h3, h4, h5⟩ := dcell_in (by omega) h1
    exact ⟨by omega, h1, h5, k, h2, h3, h4⟩
theorem DInv.one (I : DInv W d Ls) {g h : Nat} {x : Int} (h1 : x ∈ Ls g) (h2 : x ∈ Ls h) : g = h := by
  rw [← (I.in' h1).2.1, (I.in' h2).2.1]
theorem DInv.len (I : DInv W d Ls) (h : Nat) (hp : 1 ≤ h) : (Ls h).length = lenW W h := by
  have hl : lenW W h = ((List.range W.cells.length).filter fun x => homeAt W x == h).length := by
    unfold lenW
    rw [if_pos (by omega), ← List.countP_eq_length_filter]
    have e : W.cells = (List.range W.cells.length).map fun x => W.cells.getD x .off := by
      apply List.ext_getElem
      · simp
      · intro n h1 h2
        simp [List.getD_eq_getElem?_getD, h1]
    conv => lhs; rw [e]
    rw [List.countP_map]
    refine List.countP_congr fun x _ => ?_
    simp only [Function.comp, homeAt, beq_iff_eq]
    omega
  rw [hl, ← List.length_map (f := fun i : Nat => (i : Int))]
  refine List.Perm.length_eq ((List.perm_ext_iff_of_nodup (I.nodup h) ?_).2 fun x => ?_)
  · rw [List.nodup_iff_pairwise_ne, List.pairwise_map]
    exact (List.nodup_range.filter _).imp (fun h e => h (by omega))
  · rw [List.mem_map]
    constructor
    · intro hx
      obtain ⟨_, _, _, k, h2, h3, h4⟩ := I.in' hx
      exact ⟨k, by rw [List.mem_filter, List.mem_range]; exact ⟨h3, by simp [h4]⟩, h2.symm⟩
    · rintro ⟨k, hk, rfl⟩
      rw [List.mem_filter, List.mem_range] at hk
      rw [I.mem h _ hp, cell_nat W k hk.1]
      have := hk.2
      simp only [beq_iff_eq] at this
      exact this
theorem DInv.lenLe (I : DInv W d Ls) (hf : W.Fit) (h : Nat) : (Ls h).length ≤ 65536 := by
  by_cases e : h = 0
  · subst e; rw [I.zero]; simp
  · rw [I.len h (by omega)]; exact Nat.le_trans (len_le W h) hf.cap
theorem DInv.empty (I : DInv W d Ls) {h : Nat} (hp : 1 ≤ h) : Ls h = [] ↔ lenW W h = 0 := by
  rw [← I.len h hp]; exact List.length_eq_zero_iff.symm
theorem dahead_irr (W : WS) (x : Int) : aheadW W x x = false := by
  cases h : aheadW W x x with
  | false => rfl
  | true =>
    unfold aheadW at h
    simp only [Bool.and_eq_true] at h
    have := (ahead_iff _ _ _ _).1 h.2
    omega
theorem dahead_trans {W : WS} {x y z : Int} (h1 : aheadW W x y = true) (h2 : aheadW W y z = true) : aheadW W x z = true := by
  unfold aheadW at *
  simp only [Bool.and_eq_true] at *
  have a := (ahead_iff _ _ _ _).1 h1.2
  have b := (ahead_iff _ _ _ _).1 h2.2
  exact ⟨⟨h1.1.1, h2.1.2⟩, (ahead_iff _ _ _ _).2 (by omega)⟩
theorem dahead_total {W : WS} {x y : Int} (hx : inW W x = true) (hy : inW W y = true) (hne : x ≠ y) (h : aheadW W x y = false) : aheadW W y x = true := by
  rw [dahead_in hx hy] at h
  rw [dahead_in hy hx]
  cases h2 : aheadC (cellW W y) (cellW W x) y x with
  | true => rfl
  | false =>
    have a : ¬ _ := fun e => by rw [(ahead_iff (cellW W x) (cellW W y) x y).2 e] at h; cases h
    have b : ¬ _ := fun e => by rw [(ahead_iff (cellW W y) (cellW W x) y x).2 e] at h2; cases h2
    omega
theorem DInv.strict (I : DInv W d Ls) (h : Nat) : Strict (aheadW W) (Ls h) :=
  ⟨fun _ _ => dahead_irr W _, fun _ _ _ _ _ _ a b => dahead_trans a b, fun _ _ hi hj hij a => dahead_total (I.in' (rat_mem hi)).2.2.1 (I.in' (rat_mem hj)).2.2.1 (fun e => hij (rat_inj (I.nodup h) hi hj e)) a⟩
/-- The first of a row is ahead of all others. -/
theorem DInv.min (I : DInv W d Ls) (hd : 1 ≤ d) {h : Nat} (hn : Ls h ≠ []) : ∃ k : Nat, rat (Ls h) 0 = k ∧ IsMin W h k := by
  have hl : 0 < (Ls h).length := List.length_pos_iff.2 hn
  obtain ⟨h1, _, _, k, h2, h3, h4⟩ := I.in' (rat_mem hl)
  refine ⟨k, h2, ⟨h3, by omega, by omega, fun j hj hh hne => ?_⟩⟩
  have hm : (j : Int) ∈ Ls h := (I.mem h j h1).2 (by rw [cell_nat W j hj]; show homeAt W j = h; omega)
  obtain ⟨i, hi, e⟩ := mem_rat hm
  have h5 := heap_top hd (I.strict h) (I.heap h) i hi
  have hi0 : i ≠ 0 := fun e0 => hne (by rw [e0, h2] at e; omega)
  have h6 := (I.strict h).total i 0 hi hl hi0 h5
  rw [e, h2] at h6
  exact h6
theorem dinv_new (n d : Nat) : DInv (newW n) d (fun _ => []) := by
  refine ⟨fun h x hp => ?_, rfl, fun _ => List.nodup_nil, fun _ => heap_nil⟩
  simp only [List.not_mem_nil, false_iff]
  intro e
  obtain ⟨k, _, h3, h4, _⟩ := dcell_in hp e
  simp only [newW, List.length_replicate] at h3
  simp [homeAt, newW, List.getD_eq_getElem?_getD, h3, CellD.off] at h4
  omega
theorem dcells_eq {W' : WS} (h1 : W'.cells = W.cells) (x : Int) : cellW W' x = cellW W x := by unfold cellW slotW; rw [h1]
theorem DInv.congr {W' : WS} (I : DInv W d Ls) (h1 : W'.cells = W.cells) : DInv W' d Ls := by
  have e : aheadW W' = aheadW W := by
    funext a b
    unfold aheadW inW
    rw [dcells_eq h1, dcells_eq h1]
  exact ⟨fun h x hp => by rw [dcells_eq h1]; exact I.mem h x hp, I.zero, I.nodup, fun h => by rw [e]; exact I.heap h⟩
/-- The order hangs on the entries alone. -/
theorem dahead_same {W' : WS} {a b : Int} (ha : cellW W' a = cellW W a) (hb : cellW W' b = cellW W b) : aheadW W' a b = aheadW W a b := by
  unfold aheadW inW; rw [ha, hb]
theorem row_same {W' : WS} {l : List Int} (hd : 1 ≤ d) (H : Heap d (aheadW W) l) (h : ∀ x ∈ l, cellW W' x = cellW W x) : Heap d (aheadW W') l :=
  heap_congr hd (fun a ha b hb => dahead_same (h a ha) (h b hb)) H
/-- What a slot is, where one is set. -/
theorem dcell_set (W : WS) {k : Nat} (hk : k < W.cells.length) (c : CellD) (x : Int) : cellW ⟨W.heaps, W.cells.set k c⟩ x = if x = k then c else cellW W x := by
  by_cases hx : 0 ≤ x ∧ x < W.cells.length
  · obtain ⟨j, rfl⟩ : ∃ j : Nat, x = j := ⟨x.toNat, by omega⟩
    rw [cell_nat W j (by omega), cell_nat _ j (by show j < (W.cells.set k c).length; rw [List.length_set]; omega)]
    show (W.cells.set k c).getD j .off = _
    rw [getD_setN _ _ _ _ _ hk]
    by_cases e : k = j
    · rw [if_pos e, if_pos (by omega)]
    · rw [if_neg e, if_neg (by omega)]
  · rw [if_neg (by omega), dcell_off hx, dcell_off (by show ¬ (0 ≤ x ∧ x < ((W.cells.set k c).length : Int)); rw [List.length_set]; exact hx)]
/-- One slot comes in. -/
theorem dinv_put (I : DInv W d Ls) (hd : 1 ≤ d) {h : Nat} {x k s : Int} (hp : putB W h x = true) (h1 : 1 ≤ h) :
    (∀ g, x ∉ Ls g) ∧ (∀ y, cellW (putW W h x k s) y = if y = x then ⟨h, k, s⟩ else cellW W y) ∧ Heap d (aheadW (putW W h x k s)) (Ls h) ∧ (∀ y ∈ Ls h ++ [x], inW (putW W h x k s) y = true) ∧ (Ls h ++ [x]).Nodup ∧
    ∀ ys, Heap d (aheadW (putW W h x k s)) ys → ys.Perm (Ls h ++ [x]) → DInv (putW W h x k s) d (updI Ls h ys) := by
  have hp' := hp
  simp only [putB, Bool.and_eq_true, Bool.not_eq_true'] at hp
  obtain ⟨_, h2, h3⟩ := hp
  obtain ⟨x', e, hx⟩ := slot_nat h2
  subst e
  have h0 : (cellW W x').home = 0 := by unfold inW at h3; simpa using h3
  have e1 : putW W h x' k s = ⟨W.heaps, W.cells.set x' ⟨h, k, s⟩⟩ := by simp [putW, hp']
  have hc : ∀ y, cellW (putW W h x' k s) y = if y = (x' : Int) then ⟨h, k, s⟩ else cellW W y := fun y => by rw [e1]; exact dcell_set W hx _ y
  have hnot : ∀ g, (x' : Int) ∉ Ls g := fun g hm => by
    have := I.in' hm
    omega
  have hsame : ∀ g, ∀ y ∈ Ls g, cellW (putW W h x' k s) y = cellW W y := fun g y hy => by
    rw [hc, if_neg (fun e : y = x' => hnot g (by rw [← e]; exact hy))]
  have hnd : (Ls h ++ [(x' : Int)]).Nodup := by
    rw [List.nodup_append]
    exact ⟨I.nodup h, by simp, fun a ha b hb e => hnot h (by rw [← List.mem_singleton.1 hb, ← e]; exact ha)⟩
  refine ⟨hnot, hc, row_same hd (I.heap h) (hsame h), fun y hy => ?_, hnd, fun ys H Pm => ⟨fun g y hg => ?_, ?_, fun g => ?_, fun g => ?_⟩⟩
  · rcases List.mem_append.1 hy with hy | hy
    · unfold inW; rw [hsame h y hy]; exact (I.in' hy).2.2.1
    · rw [List.mem_singleton.1 hy]; unfold inW; rw [hc, if_pos rfl]; exact bne_iff_ne.2 (by show h ≠ 0; omega)
  · rw [hc]
    unfold updI
    by_cases e : g = h
    · subst e
      rw [if_pos rfl, Pm.mem_iff, List.mem_append, List.mem_singleton, I.mem g y hg]
      by_cases e2 : y = x'
      · rw [if_pos e2]; simp [e2]
      · rw [if_neg e2]; simp [e2]
    · rw [if_neg e, I.mem g y hg]
      by_cases e2 : y = x'
      · rw [if_pos e2, e2, h0]; constructor
        · intro h; omega
        · intro h5; exact absurd h5.symm e
      · rw [if_neg e2]
  · unfold updI; rw [if_neg (by omega)]; exact I.zero
  · unfold updI
    by_cases e : g = h
    · rw [if_pos e]; exact Pm.nodup_iff.2 hnd
    · rw [if_neg e]; exact I.nodup g
  · unfold updI
    by_cases e : g = h
    · rw [if_pos e]; exact H
    · rw [if_neg e]; exact row_same hd (I.heap g) (hsame g)
/-- One slot comes out. -/
theorem dinv_drop (I : DInv W d Ls) (hd : 1 ≤ d) {h : Nat} {x : Int} (hx : x ∈ Ls h) : inW W x = true ∧ ∀ ys, Heap d (aheadW W) ys → ys.Perm (withoutL (Ls h) x) → DInv (dropW W x) d (updI Ls h ys) := by
  obtain ⟨h1, hh, hin, x', e, hxl, hx2⟩ := I.in' hx
  subst e
  have e1 : dropW W x' = ⟨W.heaps, W.cells.set x' .off⟩ := by simp [dropW, hin]
  have hc : ∀ y, cellW (dropW W x') y = if y = (x' : Int) then .off else cellW W y := fun y => by rw [e1]; exact dcell_set W hxl _ y
  refine ⟨hin, fun ys H Pm => ?_⟩
  have hym : ∀ y, y ∈ ys ↔ y ∈ Ls h ∧ y ≠ x' := fun y => by rw [Pm.mem_iff, mem_without]
  have hother : ∀ g, g ≠ h → (x' : Int) ∉ Ls g := fun g hg hm => hg (I.one hm hx)
  refine ⟨fun g y hg => ?_, ?_, fun g => ?_, fun g => ?_⟩
  · rw [hc]
    unfold updI
    by_cases e : g = h
    · subst e
      rw [if_pos rfl, hym, I.mem g y hg]
      by_cases e2 : y = x'
      · rw [if_pos e2]; show _ ↔ (0 : Nat) = g
        constructor
        · intro h; exact absurd e2 h.2
        · intro h; omega
      · rw [if_neg e2]; simp [e2]
    · rw [if_neg e, I.mem g y hg]
      by_cases e2 : y = x'
      · rw [if_pos e2]; show _ ↔ (0 : Nat) = g
        constructor
        · intro h5; rw [e2, hh] at h5; exact absurd h5.symm e
        · intro h; omega
      · rw [if_neg e2]
  · unfold updI; rw [if_neg (by omega)]; exact I.zero
  · unfold updI
    by_cases e : g = h
    · rw [if_pos e]; exact Pm.nodup_iff.2 (without_nodup (I.nodup h))
    · rw [if_neg e]; exact I.nodup g
  · unfold updI
    by_cases e : g = h
    · rw [if_pos e]; exact row_same hd H fun y hy => by rw [hc, if_neg ((hym y).1 hy).2]
    · rw [if_neg e]; exact row_same hd (I.heap g) fun y hy => by rw [hc, if_neg (fun e2 : y = x' => hother g e (by rw [← e2]; exact hy))]
/-- A slot's entry becomes another one. -/
theorem dinv_lower (I : DInv W d Ls) (hd : 1 ≤ d) {x k s : Int} (hb : lowerB W x k s = true) : ∃ (h i : Nat), 1 ≤ h ∧ i < (Ls h).length ∧ rat (Ls h) i = x ∧ (cellW W x).home = h ∧ (∀ y ∈ Ls h, inW (lowerW W x k s) y = true) ∧ UpInv d (aheadW (lowerW W x k s)) (Ls h) i ∧
    ∀ ys, Heap d (aheadW (lowerW W x k s)) ys → ys.Perm (Ls h) → DInv (lowerW W x k s) d (updI Ls h ys) := by
  have hb' := hb
  simp only [lowerB, Bool.and_eq_true, Bool.not_eq_true'] at hb
  obtain ⟨x', e, hx, hne⟩ := in_nat hb.1
  subst e
  obtain ⟨h, hh⟩ : ∃ h, h = (cellW W x').home := ⟨_, rfl⟩
  have h1 : 1 ≤ h := by
    have h2 := hb.1; unfold inW at h2; rw [← hh] at h2
    have : h ≠ 0 := by simpa using h2
    omega
  have hm := (I.mem h x' h1).2 hh.symm
  obtain ⟨i, hi, hix⟩ := mem_rat hm
  have e1 : lowerW W x' k s = ⟨W.heaps, W.cells.set x' ⟨h, k, s⟩⟩ := by simp only [lowerW, hb', if_true, Int.toNat_natCast, hh]
  have hc : ∀ y, cellW (lowerW W x' k s) y = if y = (x' : Int) then ⟨h, k, s⟩ else cellW W y := fun y => by rw [e1]; exact dcell_set W hx _ y
  have hhome : ∀ y, (cellW (lowerW W x' k s) y).home = (cellW W y).home := fun y => by
    rw [hc]; split
    · rename_i e; rw [e]; exact hh
    · rfl
  have hinS : ∀ y, inW (lowerW W x' k s) y = inW W y := fun y => by unfold inW; rw [hhome]
  have hsm : ∀ a b : Int, a ≠ x' → b ≠ x' → aheadW (lowerW W x' k s) a b = aheadW W a b := fun a b ha hb => dahead_same (by rw [hc, if_neg ha]) (by rw [hc, if_neg hb])
  have hmore : ∀ b : Int, b ≠ x' → aheadW W x' b = true → aheadW (lowerW W x' k s) x' b = true := fun b hbx h2 => by
    unfold aheadW at h2 ⊢
    rw [hinS, hinS]
    simp only [Bool.and_eq_true] at h2 ⊢
    refine ⟨h2.1, ?_⟩
    have a := (ahead_iff _ _ _ _).1 h2.2
    rw [ahead_iff, hc, if_pos rfl, hc, if_neg hbx]
    have hl := hb.2
    have hl2 : ¬ ((cellW W x').key < k ∨ ((cellW W x').key = k ∧ (cellW W x').seq < s)) := fun e => by
      have : lessB (cellW W x').key (cellW W x').seq k s = true := by
        simp only [lessB, Bool.or_eq_true, Bool.and_eq_true, decide_eq_true_eq, beq_iff_eq]; exact e
      rw [this] at hl; cases hl
    show k < _ ∨ (k = _ ∧ (s < _ ∨ (s = _ ∧ _)))
    omega
  have hst' : Strict (aheadW (lowerW W x' k s)) (Ls h) :=
    ⟨fun _ _ => dahead_irr _ _, fun _ _ _ _ _ _ a b => dahead_trans a b, fun _ _ hi hj hij a => dahead_total (by rw [hinS]; exact (I.in' (rat_mem hi)).2.2.1) (by rw [hinS]; exact (I.in' (rat_mem hj)).2.2.1) (fun e => hij (rat_inj (I.nodup h) hi hj e)) a⟩
  refine ⟨h, i, h1, hi, hix, hh.symm, fun y hy => by rw [hinS]; exact (I.in' hy).2.2.1, ?_, fun ys H Pm => ⟨fun g y hg => ?_, ?_, fun g => ?_, fun g => ?_⟩⟩
  · exact raise_up hd (I.strict h) hst' (I.heap h) hi (fun a b ha hb => hsm a b (by rw [← hix]; exact ha) (by rw [← hix]; exact hb)) (fun b hb h2 => by rw [hix] at hb h2 ⊢; exact hmore b hb h2)
  · rw [hhome]
    unfold updI
    by_cases e : g = h
    · subst e; rw [if_pos rfl, Pm.mem_iff]; exact I.mem g y hg
    · rw [if_neg e]; exact I.mem g y hg
  · unfold updI; rw [if_neg (by omega)]; exact I.zero
  · unfold updI
    by_cases e : g = h
    · rw [if_pos e]; exact Pm.nodup_iff.2 (I.nodup h)
    · rw [if_neg e]; exact I.nodup g
  · unfold updI
    by_cases e : g = h
    · rw [if_pos e]; exact H
    · rw [if_neg e]; exact row_same hd (I.heap g) fun y hy => by rw [hc, if_neg (fun e2 : y = x' => e (I.one (by rw [← e2]; exact hy) hm))]
/-- Two heaps become one. -/
theorem dinv_join (I : DInv W d Ls) {a b : Nat} (hb : joinBW W a b = true) (ha1 : 1 ≤ a) (hb1 : 1 ≤ b) :
    a ≠ b ∧ aheadW (joinW W a b) = aheadW W ∧ (∀ y, inW (joinW W a b) y = inW W y) ∧ (Ls a ++ Ls b).Nodup ∧ ∀ ys, Heap d (aheadW W) ys → ys.Perm (Ls a ++ Ls b) → DInv (joinW W a b) d (updI (updI Ls a ys) b []) := by
  have hb' := hb
  simp only [joinBW, Bool.and_eq_true, decide_eq_true_eq] at hb
  have hne : a ≠ b := fun e => hb.2.2 (by rw [e])
  have e1 : joinW W a b = ⟨W.heaps.set b false, W.cells.map fun c => if c.home = b then ⟨a, c.key, c.seq⟩ else c⟩ := by simp [joinW, hb']
  have hc : ∀ y, cellW (joinW W a b) y = if (cellW W y).home = b then ⟨a, (cellW W y).key, (cellW W y).seq⟩ else cellW W y := fun y => by
    by_cases hx : 0 ≤ y ∧ y < W.cells.length
    · obtain ⟨j, rfl⟩ : ∃ j : Nat, y = j := ⟨y.toNat, by omega⟩
      have hj : j < W.cells.length := by omega
      rw [cell_nat W j hj, e1, cell_nat _ j (by show j < (W.cells.map _).length; rw [List.length_map]; exact hj)]
      simp [List.getD_eq_getElem?_getD, hj]
    · have h2 : cellW (joinW W a b) y = .off := by
        rw [e1]
        exact dcell_off (by show ¬ (0 ≤ y ∧ y < ((W.cells.map _).length : Int)); rw [List.length_map]; exact hx)
      rw [h2, dcell_off hx, if_neg (by show ¬ (0 : Nat) = b; omega)]
  have hin : ∀ y, inW (joinW W a b) y = inW W y := fun y => by
    unfold inW
    rw [hc]
    split
    · rename_i e
      rw [e]
      have h1 : (a != 0) = true := bne_iff_ne.2 (by omega)
      have h2 : (b != 0) = true := bne_iff_ne.2 (by omega)
      show (a != 0) = (b != 0)
      rw [h1, h2]
    · rfl
  have hk : ∀ y, (cellW (joinW W a b) y).key = (cellW W y).key ∧ (cellW (joinW W a b) y).seq = (cellW W y).seq := fun y => by rw [hc]; split <;> exact ⟨rfl, rfl⟩
  have hah : aheadW (joinW W a b) = aheadW W := by
    funext x y
    unfold aheadW aheadC
    rw [hin, hin, (hk x).1, (hk x).2, (hk y).1, (hk y).2]
  have hnd : (Ls a ++ Ls b).Nodup := by
    rw [List.nodup_append]
    exact ⟨I.nodup a, I.nodup b, fun x hx y hy e => hne (I.one hx (by rw [e]; exact hy))⟩
  refine ⟨hne, hah, hin, hnd, fun ys H Pm => ⟨fun g y hg => ?_, ?_, fun g => ?_, fun g => ?_⟩⟩
  · have hm : (cellW (joinW W a b) y).home = if (cellW W y).home = b then a else (cellW W y).home := by rw [hc]; split <;> rfl
    rw [hm]
    unfold updI
    by_cases e : g = b
    · rw [if_pos e, e]
      constructor
      · intro h; cases h
      · intro h
        split at h
        · exact absurd h hne
        · rename_i h2; exact absurd h h2
    · rw [if_neg e]
      by_cases e2 : g = a
      · rw [if_pos e2, e2, Pm.mem_iff, List.mem_append, I.mem a y ha1, I.mem b y hb1]
        split
        · rename_i h2; simp [h2]
        · rename_i h2; simp [h2]
      · rw [if_neg e2, I.mem g y hg]
        split
        · rename_i h2
          constructor
          · intro h; exact absurd (h.symm.trans h2) e
          · intro h; exact absurd h.symm e2
        · rfl
  · unfold updI; rw [if_neg (by omega), if_neg (by omega)]; exact I.zero
  · unfold updI
    split
    · exact List.nodup_nil
    · split
      · exact Pm.nodup_iff.2 hnd
      · exact I.nodup g
  · rw [hah]
    unfold updI
    split
    · exact heap_nil
    · split
      · exact H
      · exact I.heap g
end
end Go.Proofs.Ytcjjglaimfhofaa
