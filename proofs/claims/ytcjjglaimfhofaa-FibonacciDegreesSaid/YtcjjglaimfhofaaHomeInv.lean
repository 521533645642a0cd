/- Each heap's slots as a list, in whatever order, as plain data: what the nest's calls turn. For forests that serve all heaps at once (binomial, Fibonacci). No program is named here. -/
import Derived.Test.YtcjjglaimfhofaaDaryInv
namespace Go.Proofs.Ytcjjglaimfhofaa

/-- The lists Ss are those of the slots of the nest W. -/
structure HomeInv (W : WS) (Ss : Nat → List Int) : Prop where
  mem : ∀ h x, 1 ≤ h → (x ∈ Ss h ↔ (cellW W x).home = h)
  zero : Ss 0 = []
  nodup : ∀ h, (Ss h).Nodup
/-- What isn't ahead of what isn't ahead. -/
theorem hm_neg {W : WS} {x y z : Int} (hx : inW W x = true) (hy : inW W y = true) (h1 : aheadW W x y = false) (h2 : aheadW W y z = false) : aheadW W x z = false := by
  cases h : aheadW W x z with
  | false => rfl
  | true =>
    by_cases e : x = y
    · subst e; rw [h2] at h; cases h
    · have h3 := dahead_trans (dahead_total hx hy e h1) h
      rw [h2] at h3; cases h3
theorem hm_asym {W : WS} {x y : Int} (h : aheadW W x y = true) : aheadW W y x = false := by
  cases h2 : aheadW W y x with
  | false => rfl
  | true => have := dahead_trans h h2; rw [dahead_irr] at this; cases this
section
variable {W : WS} {Ss : Nat → List Int}
theorem HomeInv.in' (I : HomeInv W Ss) {h : Nat} {x : Int} (hx : x ∈ Ss h) : 1 ≤ h ∧ (cellW W x).home = h ∧ inW W x = true ∧ ∃ k : Nat, x = k ∧ k < W.cells.length ∧ homeAt W k = h := by
  by_cases e : h = 0
  · subst e; rw [I.zero] at hx; cases hx
  · have h1 := (I.mem h x (by omega)).1 hx
    obtain ⟨k, h2, h3, h4, h5⟩ := dcell_in (by omega) h1
    exact ⟨by omega, h1, h5, k, h2, h3, h4⟩
theorem HomeInv.one (I : HomeInv W Ss) {g h : Nat} {x : Int} (h1 : x ∈ Ss g) (h2 : x ∈ Ss h) : g = h := by
  rw [← (I.in' h1).2.1, (I.in' h2).2.1]
theorem HomeInv.home (I : HomeInv W Ss) {x : Int} (h : inW W x = true) : 1 ≤ (cellW W x).home ∧ x ∈ Ss (cellW W x).home := by
  have h1 : 1 ≤ (cellW W x).home := by
    unfold inW at h
    have : (cellW W x).home ≠ 0 := by simpa using h
    omega
  exact ⟨h1, (I.mem _ x h1).2 rfl⟩
theorem HomeInv.size (I : HomeInv W Ss) (h : Nat) (hp : 1 ≤ h) : (Ss h).length = lenW W h := by
  have hl : lenW W h = ((List.range W.cells.length).filter fun x => homeAt W x == h).length := by
    unfold lenW
    rw [if_pos (by omega), ← List.countP_eq_length_filter]
    have e : W.cells = (List.range W.cells.length).map fun x => W.cells.getD x .off := by
      apply List.ext_getElem
      · simp
      · intro n h1 h2
        simp [List.getD_eq_getElem?_getD, h1]
    conv => lhs; rw [e]
    rw [List.countP_map]
    refine List.countP_congr fun x _ => ?_
    simp only [Function.comp, homeAt, beq_iff_eq]
    omega
  rw [hl, ← List.length_map (f := fun i : Nat => (i : Int))]
  refine List.Perm.length_eq ((List.perm_ext_iff_of_nodup (I.nodup h) ?_).2 fun x => ?_)
  · rw [List.nodup_iff_pairwise_ne, List.pairwise_map]
    exact (List.nodup_range.filter _).imp (fun h e => h (by omega))
  · rw [List.mem_map]
    constructor
    · intro hx
      obtain ⟨_, _, _, k, h2, h3, h4⟩ := I.in' hx
      exact ⟨k, by rw [List.mem_filter, List.mem_range]; exact ⟨h3, by simp [h4]⟩, h2.symm⟩
    · rintro ⟨k, hk, rfl⟩
      rw [List.mem_filter, List.mem_range] at hk
      rw [I.mem h _ hp, cell_nat W k hk.1]
      have := hk.2
      simp only [beq_iff_eq] at this
      exact this
theorem HomeInv.empty (I : HomeInv W Ss) {h : Nat} (hp : 1 ≤ h) : Ss h = [] ↔ lenW W h = 0 := by
  rw [← I.size h hp]; exact List.length_eq_zero_iff.symm
theorem HomeInv.few (I : HomeInv W Ss) (hf : W.Fit) (h : Nat) : (Ss h).length ≤ 65536 := by
  by_cases e : h = 0
  · subst e; rw [I.zero]; simp
  · rw [I.size h (by omega)]; exact Nat.le_trans (len_le W h) hf.cap
/-- Only heaps that are there have slots. -/
theorem HomeInv.has (I : HomeInv W Ss) (hf : W.Fit) {h : Nat} (hn : Ss h ≠ []) : hasW W h = true := by
  obtain ⟨x, hx⟩ := List.exists_mem_of_ne_nil _ hn
  obtain ⟨h1, _, h3, k, h4, h5, h6⟩ := I.in' hx
  have h7 := hf.home k h5
  have e : (W.cells.getD k .off).home = h := h6
  rw [e] at h7
  rcases h7 with h7 | h7
  · omega
  · exact h7
theorem HomeInv.keyLt (I : HomeInv W Ss) (hf : W.Fit) {h : Nat} (hn : Ss h ≠ []) : 1 ≤ h ∧ h < 65537 := by
  obtain ⟨i, hi, h1, hl, _⟩ := has_nat (I.has hf hn)
  have := hf.len
  omega
/-- One that no other is ahead of is ahead of all others. -/
theorem HomeInv.min (I : HomeInv W Ss) {h : Nat} {x : Int} (hx : x ∈ Ss h) (hle : ∀ y ∈ Ss h, aheadW W y x = false) : ∃ k : Nat, x = k ∧ IsMin W h k := by
  obtain ⟨h1, _, hin2, k, h2, h3, h4⟩ := I.in' hx
  refine ⟨k, h2, ⟨h3, by omega, by omega, fun j hj hh hne => ?_⟩⟩
  have hm : (j : Int) ∈ Ss h := (I.mem h j h1).2 (by rw [cell_nat W j hj]; show homeAt W j = h; omega)
  have h7 := dahead_total (I.in' hm).2.2.1 hin2 (fun e2 : (j : Int) = x => hne (by omega)) (hle j hm)
  rw [h2] at h7
  exact h7
theorem homes_new (n : Nat) : HomeInv (newW n) (fun _ => []) := by
  refine ⟨fun h x hp => ?_, rfl, fun _ => List.nodup_nil⟩
  simp only [List.not_mem_nil, false_iff]
  intro e
  obtain ⟨k, _, h3, h4, _⟩ := dcell_in hp e
  simp only [newW, List.length_replicate] at h3
  simp [homeAt, newW, List.getD_eq_getElem?_getD, h3, CellD.off] at h4
  omega
theorem HomeInv.congr {W' : WS} (I : HomeInv W Ss) (h1 : W'.cells = W.cells) : HomeInv W' Ss :=
  ⟨fun h x hp => by rw [dcells_eq h1]; exact I.mem h x hp, I.zero, I.nodup⟩
theorem HomeInv.perm {Ss' : Nat → List Int} (I : HomeInv W Ss) (h : ∀ g, (Ss' g).Perm (Ss g)) : HomeInv W Ss' :=
  ⟨fun g x hg => by rw [(h g).mem_iff]; exact I.mem g x hg, by have := h 0; rw [I.zero] at this; exact this.eq_nil, fun g => (h g).nodup_iff.2 (I.nodup g)⟩
/-- One slot comes in. -/
theorem homes_put (I : HomeInv W Ss) {h : Nat} {x k s : Int} (hp : putB W h x = true) (h1 : 1 ≤ h) :
    (∀ g, x ∉ Ss g) ∧ inW W x = false ∧ inW (putW W h x k s) x = true ∧ (∀ y, y ≠ x → cellW (putW W h x k s) y = cellW W y) ∧
    ∀ T : Nat → List Int, (T h).Perm (x :: Ss h) → (∀ g, g ≠ h → (T g).Perm (Ss g)) → HomeInv (putW W h x k s) T := by
  have hp' := hp
  simp only [putB, Bool.and_eq_true, Bool.not_eq_true'] at hp
  obtain ⟨_, h2, h3⟩ := hp
  obtain ⟨x', e, hx⟩ := slot_nat h2
  subst e
  have h0 : (cellW W x').home = 0 := by unfold inW at h3; simpa using h3
  have e1 : putW W h x' k s = ⟨W.heaps, W.cells.set x' ⟨h, k, s⟩⟩ := by simp [putW, hp']
  have hc : ∀ y, cellW (putW W h x' k s) y = if y = (x' : Int) then ⟨h, k, s⟩ else cellW W y := fun y => by rw [e1]; exact dcell_set W hx _ y
  have hnot : ∀ g, (x' : Int) ∉ Ss g := fun g hm => by
    have := I.in' hm
    omega
  refine ⟨hnot, h3, ?_, fun y hy => by rw [hc, if_neg hy], fun T Pm Po => ⟨fun g y hg => ?_, ?_, fun g => ?_⟩⟩
  · unfold inW; rw [hc, if_pos rfl]; exact bne_iff_ne.2 (by show h ≠ 0; omega)
  · rw [hc]
    by_cases e : g = h
    · subst e
      rw [Pm.mem_iff, List.mem_cons, I.mem g y hg]
      by_cases e2 : y = x'
      · rw [if_pos e2]; simp [e2]
      · rw [if_neg e2]; simp [e2]
    · rw [(Po g e).mem_iff, I.mem g y hg]
      by_cases e2 : y = x'
      · rw [if_pos e2, e2, h0]; constructor
        · intro h; omega
        · intro h5; exact absurd h5.symm e
      · rw [if_neg e2]
  · have := Po 0 (by omega); rw [I.zero] at this; exact this.eq_nil
  · by_cases e : g = h
    · rw [e, Pm.nodup_iff]; exact List.nodup_cons.2 ⟨hnot h, I.nodup h⟩
    · rw [(Po g e).nodup_iff]; exact I.nodup g
/-- One slot comes out. -/
theorem homes_drop (I : HomeInv W Ss) {h : Nat} {x : Int} (hx : x ∈ Ss h) : inW (dropW W x) x = false ∧ (∀ y, y ≠ x → cellW (dropW W x) y = cellW W y) ∧
    ∀ T : Nat → List Int, (x :: T h).Perm (Ss h) → (∀ g, g ≠ h → (T g).Perm (Ss g)) → HomeInv (dropW W x) T := by
  obtain ⟨h1, hh, hin, x', e, hxl, hx2⟩ := I.in' hx
  subst e
  have e1 : dropW W x' = ⟨W.heaps, W.cells.set x' .off⟩ := by simp [dropW, hin]
  have hc : ∀ y, cellW (dropW W x') y = if y = (x' : Int) then .off else cellW W y := fun y => by rw [e1]; exact dcell_set W hxl _ y
  refine ⟨by unfold inW; rw [hc, if_pos rfl]; rfl, fun y hy => by rw [hc, if_neg hy], fun T Pm Po => ?_⟩
  have hnd := Pm.nodup_iff.2 (I.nodup h)
  rw [List.nodup_cons] at hnd
  have hym : ∀ y, y ∈ T h ↔ y ∈ Ss h ∧ y ≠ x' := fun y => by
    rw [← Pm.mem_iff, List.mem_cons]
    constructor
    · intro hy; exact ⟨Or.inr hy, fun e => hnd.1 (by rw [← e]; exact hy)⟩
    · rintro ⟨h2 | h2, h3⟩
      · exact absurd h2 h3
      · exact h2
  refine ⟨fun g y hg => ?_, ?_, fun g => ?_⟩
  · rw [hc]
    by_cases e : g = h
    · subst e
      rw [hym, I.mem g y hg]
      by_cases e2 : y = x'
      · rw [if_pos e2]; show _ ↔ (0 : Nat) = g
        constructor
        · intro h; exact absurd e2 h.2
        · intro h; omega
      · rw [if_neg e2]; simp [e2]
    · rw [(Po g e).mem_iff, I.mem g y hg]
      by_cases e2 : y = x'
      · rw [if_pos e2]; show _ ↔ (0 : Nat) = g
        constructor
        · intro h5; rw [e2, hh] at h5; exact absurd h5.symm e
        · intro h; omega
      · rw [if_neg e2]
  · have := Po 0 (by omega); rw [I.zero] at this; exact this.eq_nil
  · by_cases e : g = h
    · rw [e]; exact hnd.2
    · rw [(Po g e).nodup_iff]; exact I.nodup g
/-- A slot's entry becomes another one. -/
theorem homes_lower (I : HomeInv W Ss) {x k s : Int} (hb : lowerB W x k s = true) : inW W x = true ∧ (∀ y, inW (lowerW W x k s) y = inW W y) ∧ (∀ y, (cellW (lowerW W x k s) y).home = (cellW W y).home) ∧
    (∀ a b, a ≠ x → b ≠ x → aheadW (lowerW W x k s) a b = aheadW W a b) ∧ (∀ y, inW W y = true → y ≠ x → aheadW W y x = false → aheadW (lowerW W x k s) y x = false) ∧
    HomeInv (lowerW W x k s) Ss := by
  have hb' := hb
  simp only [lowerB, Bool.and_eq_true, Bool.not_eq_true'] at hb
  obtain ⟨x', e, hx, hne⟩ := in_nat hb.1
  subst e
  obtain ⟨h, hh⟩ : ∃ h, h = (cellW W x').home := ⟨_, rfl⟩
  have e1 : lowerW W x' k s = ⟨W.heaps, W.cells.set x' ⟨h, k, s⟩⟩ := by simp only [lowerW, hb', if_true, Int.toNat_natCast, hh]
  have hc : ∀ y, cellW (lowerW W x' k s) y = if y = (x' : Int) then ⟨h, k, s⟩ else cellW W y := fun y => by rw [e1]; exact dcell_set W hx _ y
  have hhome : ∀ y, (cellW (lowerW W x' k s) y).home = (cellW W y).home := fun y => by
    rw [hc]; split
    · rename_i e; rw [e]; exact hh
    · rfl
  have hinS : ∀ y, inW (lowerW W x' k s) y = inW W y := fun y => by unfold inW; rw [hhome]
  have hsm : ∀ a b : Int, a ≠ x' → b ≠ x' → aheadW (lowerW W x' k s) a b = aheadW W a b := fun a b ha hb => dahead_same (by rw [hc, if_neg ha]) (by rw [hc, if_neg hb])
  have hmore : ∀ b : Int, b ≠ x' → aheadW W x' b = true → aheadW (lowerW W x' k s) x' b = true := fun b hbx h2 => by
    unfold aheadW at h2 ⊢
    rw [hinS, hinS]
    simp only [Bool.and_eq_true] at h2 ⊢
    refine ⟨h2.1, ?_⟩
    have a := (ahead_iff _ _ _ _).1 h2.2
    rw [ahead_iff, hc, if_pos rfl, hc, if_neg hbx]
    have hl := hb.2
    have hl2 : ¬ ((cellW W x').key < k ∨ ((cellW W x').key = k ∧ (cellW W x').seq < s)) := fun e => by
      have : lessB (cellW W x').key (cellW W x').seq k s = true := by
        simp only [lessB, Bool.or_eq_true, Bool.and_eq_true, decide_eq_true_eq, beq_iff_eq]; exact e
      rw [this] at hl; cases hl
    show k < _ ∨ (k = _ ∧ (s < _ ∨ (s = _ ∧ _)))
    omega
  refine ⟨hb.1, hinS, hhome, hsm, fun y hy hyx h2 => hm_asym (hmore y hyx (dahead_total hy hb.1 hyx h2)), ⟨fun g y hg => by rw [hhome]; exact I.mem g y hg, I.zero, I.nodup⟩⟩
/-- Two heaps become one. -/
theorem homes_join (I : HomeInv W Ss) {a b : Nat} (hb : joinBW W a b = true) (ha1 : 1 ≤ a) (hb1 : 1 ≤ b) :
    a ≠ b ∧ aheadW (joinW W a b) = aheadW W ∧ (∀ y, inW (joinW W a b) y = inW W y) ∧ (∀ y ∈ Ss a, y ∉ Ss b) ∧
    ∀ T : Nat → List Int, (T a).Perm (Ss a ++ Ss b) → T b = [] → (∀ g, g ≠ a → g ≠ b → (T g).Perm (Ss g)) → HomeInv (joinW W a b) T := by
  have hb' := hb
  simp only [joinBW, Bool.and_eq_true, decide_eq_true_eq] at hb
  have hne : a ≠ b := fun e => hb.2.2 (by rw [e])
  have e1 : joinW W a b = ⟨W.heaps.set b false, W.cells.map fun c => if c.home = b then ⟨a, c.key, c.seq⟩ else c⟩ := by simp [joinW, hb']
  have hc : ∀ y, cellW (joinW W a b) y = if (cellW W y).home = b then ⟨a, (cellW W y).key, (cellW W y).seq⟩ else cellW W y := fun y => by
    by_cases hx : 0 ≤ y ∧ y < W.cells.length
    · obtain ⟨j, rfl⟩ : ∃ j : Nat, y = j := ⟨y.toNat, by omega⟩
      have hj : j < W.cells.length := by omega
      rw [cell_nat W j hj, e1, cell_nat _ j (by show j < (W.cells.map _).length; rw [List.length_map]; exact hj)]
      simp [List.getD_eq_getElem?_getD, hj]
    · have h2 : cellW (joinW W a b) y = .off := by
        rw [e1]
        exact dcell_off (by show ¬ (0 ≤ y ∧ y < ((W.cells.map _).length : Int)); rw [List.length_map]; exact hx)
      rw [h2, dcell_off hx, if_neg (by show ¬ (0 : Nat) = b; omega)]
  have hin : ∀ y, inW (joinW W a b) y = inW W y := fun y => by
    unfold inW
    rw [hc]
    split
    · rename_i e
      rw [e]
      have h1 : (a != 0) = true := bne_iff_ne.2 (by omega)
      have h2 : (b != 0) = true := bne_iff_ne.2 (by omega)
      show (a != 0) = (b != 0)
      rw [h1, h2]
    · rfl
  have hk : ∀ y, (cellW (joinW W a b) y).key = (cellW W y).key ∧ (cellW (joinW W a b) y).seq = (cellW W y).seq := fun y => by rw [hc]; split <;> exact ⟨rfl, rfl⟩
  have hah : aheadW (joinW W a b) = aheadW W := by
    funext x y
    unfold aheadW aheadC
    rw [hin, hin, (hk x).1, (hk x).2, (hk y).1, (hk y).2]
  have hapart : ∀ y ∈ Ss a, y ∉ Ss b := fun y h1 h2 => hne (I.one h1 h2)
  have hnd : (Ss a ++ Ss b).Nodup := by
    rw [List.nodup_append]
    exact ⟨I.nodup a, I.nodup b, fun x hx y hy e => hapart x hx (by rw [e]; exact hy)⟩
  refine ⟨hne, hah, hin, hapart, fun T Pm Pb Po => ⟨fun g y hg => ?_, ?_, fun g => ?_⟩⟩
  · have hm : (cellW (joinW W a b) y).home = if (cellW W y).home = b then a else (cellW W y).home := by rw [hc]; split <;> rfl
    rw [hm]
    by_cases e2 : g = a
    · rw [e2, Pm.mem_iff, List.mem_append, I.mem a y ha1, I.mem b y hb1]
      split
      · rename_i h2; simp [h2]
      · rename_i h2; simp [h2]
    · by_cases e : g = b
      · rw [e, Pb]
        constructor
        · intro h; cases h
        · intro h
          split at h
          · exact absurd h hne
          · rename_i h2; exact absurd h h2
      · rw [(Po g e2 e).mem_iff, I.mem g y hg]
        split
        · rename_i h2
          constructor
          · intro h; exact absurd (h.symm.trans h2) e
          · intro h; exact absurd h.symm e2
        · rfl
  · have := Po 0 (by omega) (by omega); rw [I.zero] at this; exact this.eq_nil
  · by_cases e2 : g = a
    · rw [e2, Pm.nodup_iff]; exact hnd
    · by_cases e : g = b
      · rw [e, Pb]; exact List.nodup_nil
      · rw [(Po g e2 e).nodup_iff]; exact I.nodup g
end
end Go.Proofs.Ytcjjglaimfhofaa
