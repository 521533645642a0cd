/- Merged of TreeInv, ZMap. -/
import Derived.Test.YtehoejoeoaimjaaDaryInv
import Derived.Test.YtehoejoeoaimjaaSkewPotMath
import Derived.Test.YtehoejoeoaimjaaStage
namespace Go.Proofs.Ytehoejoeoaimjaa

/-- The trees Ts are those of the nest W. -/
structure TInv (W : WS) (Ts : Nat → Tr) : Prop where
  mem : ∀ h x, 1 ≤ h → (x ∈ (Ts h).slots ↔ (cellW W x).home = h)
  zero : Ts 0 = .nil
  nodup : ∀ h, (Ts h).slots.Nodup
  ok : ∀ h, Tr.Ok (aheadW W) (Ts h)
def updT (g : Nat → Tr) (h : Nat) (t : Tr) : Nat → Tr := fun i => if i = h then t else g i
theorem updT_at (g : Nat → Tr) (h : Nat) (t : Tr) : updT g h t h = t := by simp [updT]
theorem updT_ne (g : Nat → Tr) {h i : Nat} (t : Tr) (e : i ≠ h) : updT g h t i = g i := by simp [updT, e]
/-- What isn't ahead of what isn't ahead. -/
theorem ahead_neg {W : WS} {x y z : Int} (hx : inW W x = true) (hy : inW W y = true) (_hz : inW W z = true) (h1 : aheadW W x y = false) (h2 : aheadW W y z = false) : aheadW W x z = false := by
  cases h : aheadW W x z with
  | false => rfl
  | true =>
    by_cases e : x = y
    · subst e; rw [h2] at h; cases h
    · have h3 := dahead_trans (dahead_total hx hy e h1) h
      rw [h2] at h3; cases h3
theorem ahead_asym {W : WS} {x y : Int} (h : aheadW W x y = true) : aheadW W y x = false := by
  cases h2 : aheadW W y x with
  | false => rfl
  | true => have := dahead_trans h h2; rw [dahead_irr] at this; cases this
theorem tok_same {W W' : WS} {t : Tr} (hk : Tr.Ok (aheadW W) t) (h : ∀ x ∈ t.slots, cellW W' x = cellW W x) : Tr.Ok (aheadW W') t :=
  Tr.ok_congr (fun a ha b hb => dahead_same (h a ha) (h b hb)) hk
section
variable {W : WS} {Ts : Nat → Tr}
theorem TInv.in' (I : TInv W Ts) {h : Nat} {x : Int} (hx : x ∈ (Ts h).slots) : 1 ≤ h ∧ (cellW W x).home = h ∧ inW W x = true ∧ ∃ k : Nat, x = k ∧ k < W.cells.length ∧ homeAt W k = h := by
  by_cases e : h = 0
  · subst e; rw [I.zero] at hx; simp [Tr.slots] at hx
  · have h1 := (I.mem h x (by omega)).1 hx
    obtain ⟨k, h2, h3, h4, h5⟩ := dcell_in (by omega) h1
    exact ⟨by omega, h1, h5, k, h2, h3, h4⟩
theorem TInv.one (I : TInv W Ts) {g h : Nat} {x : Int} (h1 : x ∈ (Ts g).slots) (h2 : x ∈ (Ts h).slots) : g = h := by
  rw [← (I.in' h1).2.1, (I.in' h2).2.1]
theorem TInv.home (I : TInv W Ts) {x : Int} (h : inW W x = true) : 1 ≤ (cellW W x).home ∧ x ∈ (Ts (cellW W x).home).slots := by
  have h1 : 1 ≤ (cellW W x).home := by
    unfold inW at h
    have : (cellW W x).home ≠ 0 := by simpa using h
    omega
  exact ⟨h1, (I.mem _ x h1).2 rfl⟩
theorem TInv.size (I : TInv W Ts) (h : Nat) (hp : 1 ≤ h) : (Ts h).size = lenW W h := by
  have hl : lenW W h = ((List.range W.cells.length).filter fun x => homeAt W x == h).length := by
    unfold lenW
    rw [if_pos (by omega), ← List.countP_eq_length_filter]
    have e : W.cells = (List.range W.cells.length).map fun x => W.cells.getD x .off := by
      apply List.ext_getElem
      · simp
      · intro n h1 h2
        simp [List.getD_eq_getElem?_getD, h1]
    conv => lhs; rw [e]
    rw [List.countP_map]
    refine List.countP_congr fun x _ => ?_
    simp only [Function.comp, homeAt, beq_iff_eq]
    omega
  rw [← Tr.size_slots, hl, ← List.length_map (f := fun i : Nat => (i : Int))]
  refine List.Perm.length_eq ((List.perm_ext_iff_of_nodup (I.nodup h) ?_).2 fun x => ?_)
  · rw [List.nodup_iff_pairwise_ne, List.pairwise_map]
    exact (List.nodup_range.filter _).imp (fun h e => h (by omega))
  · rw [List.mem_map]
    constructor
    · intro hx
      obtain ⟨_, _, _, k, h2, h3, h4⟩ := I.in' hx
      exact ⟨k, by rw [List.mem_filter, List.mem_range]; exact ⟨h3, by simp [h4]⟩, h2.symm⟩
    · rintro ⟨k, hk, rfl⟩
      rw [List.mem_filter, List.mem_range] at hk
      rw [I.mem h _ hp, cell_nat W k hk.1]
      have := hk.2
      simp only [beq_iff_eq] at this
      exact this
theorem TInv.empty (I : TInv W Ts) {h : Nat} (hp : 1 ≤ h) : Ts h = .nil ↔ lenW W h = 0 := by
  rw [← I.size h hp]
  cases Ts h <;> simp [Tr.size]
theorem TInv.keyLt (I : TInv W Ts) (hf : W.Fit) {h : Nat} (hn : Ts h ≠ .nil) : 1 ≤ h ∧ h < 65537 := by
  obtain ⟨x, hx⟩ : ∃ x, x ∈ (Ts h).slots := by
    cases e : Ts h with
    | nil => exact absurd e hn
    | node x l r => exact ⟨x, by simp [Tr.slots]⟩
  obtain ⟨h1, _, h3, k, h4, h5, h6⟩ := I.in' hx
  have h7 := hf.home k h5
  have e : (W.cells.getD k .off).home = h := h6
  rw [e] at h7
  rcases h7 with h7 | h7
  · omega
  · obtain ⟨i, hi, _, hl, _⟩ := has_nat h7
    have := hf.len
    exact ⟨h1, by omega⟩
/-- The topmost slot is ahead of all others. -/
theorem TInv.min (I : TInv W Ts) {h : Nat} {x : Int} (hx : (Ts h).top = some x) : ∃ k : Nat, x = k ∧ IsMin W h k := by
  obtain ⟨h1, _, _, k, h2, h3, h4⟩ := I.in' (Tr.top_in hx)
  refine ⟨k, h2, ⟨h3, by omega, by omega, fun j hj hh hne => ?_⟩⟩
  have hm : (j : Int) ∈ (Ts h).slots := (I.mem h j h1).2 (by rw [cell_nat W j hj]; show homeAt W j = h; omega)
  have hin := (I.in' hm).2.2.1
  have hin2 := (I.in' (Tr.top_in hx)).2.2.1
  obtain ⟨l, r, e⟩ := Tr.top_node hx
  have hk := I.ok h
  rw [e] at hk hm
  simp only [Tr.slots, List.mem_cons, List.mem_append] at hm
  have h6 : aheadW W j x = false := by
    rcases hm with hm | hm | hm
    · exact absurd (show j = k by omega) hne
    · exact hk.1 j hm
    · exact hk.2.1 j hm
  have h7 := dahead_total hin hin2 (fun e2 : (j : Int) = x => hne (by omega)) h6
  rw [h2] at h7
  exact h7
theorem tinv_new (n : Nat) : TInv (newW n) (fun _ => .nil) := by
  refine ⟨fun h x hp => ?_, rfl, fun _ => List.nodup_nil, fun _ => trivial⟩
  simp only [Tr.slots, List.not_mem_nil, false_iff]
  intro e
  obtain ⟨k, _, h3, h4, _⟩ := dcell_in hp e
  simp only [newW, List.length_replicate] at h3
  simp [homeAt, newW, List.getD_eq_getElem?_getD, h3, CellD.off] at h4
  omega
theorem TInv.congr {W' : WS} (I : TInv W Ts) (h1 : W'.cells = W.cells) : TInv W' Ts :=
  ⟨fun h x hp => by rw [dcells_eq h1]; exact I.mem h x hp, I.zero, I.nodup, fun h => tok_same (I.ok h) fun x _ => dcells_eq h1 x⟩
/-- One slot comes in. -/
theorem tinv_put (I : TInv W Ts) {h : Nat} {x k s : Int} (hp : putB W h x = true) (h1 : 1 ≤ h) :
    (∀ g, x ∉ (Ts g).slots) ∧ Tr.Ok (aheadW (putW W h x k s)) (Ts h) ∧ (∀ y ∈ (Ts h).slots, inW (putW W h x k s) y = true) ∧ inW (putW W h x k s) x = true ∧
    ∀ T, Tr.Ok (aheadW (putW W h x k s)) T → T.slots.Perm ((Ts h).slots ++ [x]) → TInv (putW W h x k s) (updT Ts h T) := by
  have hp' := hp
  simp only [putB, Bool.and_eq_true, Bool.not_eq_true'] at hp
  obtain ⟨_, h2, h3⟩ := hp
  obtain ⟨x', e, hx⟩ := slot_nat h2
  subst e
  have h0 : (cellW W x').home = 0 := by unfold inW at h3; simpa using h3
  have e1 : putW W h x' k s = ⟨W.heaps, W.cells.set x' ⟨h, k, s⟩⟩ := by simp [putW, hp']
  have hc : ∀ y, cellW (putW W h x' k s) y = if y = (x' : Int) then ⟨h, k, s⟩ else cellW W y := fun y => by rw [e1]; exact dcell_set W hx _ y
  have hnot : ∀ g, (x' : Int) ∉ (Ts g).slots := fun g hm => by
    have := I.in' hm
    omega
  have hsame : ∀ g, ∀ y ∈ (Ts g).slots, cellW (putW W h x' k s) y = cellW W y := fun g y hy => by
    rw [hc, if_neg (fun e : y = x' => hnot g (by rw [← e]; exact hy))]
  have hnd : ((Ts h).slots ++ [(x' : Int)]).Nodup := by
    rw [List.nodup_append]
    exact ⟨I.nodup h, by simp, fun a ha b hb e => hnot h (by rw [← List.mem_singleton.1 hb, ← e]; exact ha)⟩
  refine ⟨hnot, tok_same (I.ok h) (hsame h), fun y hy => ?_, ?_, fun T H Pm => ⟨fun g y hg => ?_, ?_, fun g => ?_, fun g => ?_⟩⟩
  · unfold inW; rw [hsame h y hy]; exact (I.in' hy).2.2.1
  · unfold inW; rw [hc, if_pos rfl]; exact bne_iff_ne.2 (by show h ≠ 0; omega)
  · rw [hc]
    unfold updT
    by_cases e : g = h
    · subst e
      rw [if_pos rfl, Pm.mem_iff, List.mem_append, List.mem_singleton, I.mem g y hg]
      by_cases e2 : y = x'
      · rw [if_pos e2]; simp [e2]
      · rw [if_neg e2]; simp [e2]
    · rw [if_neg e, I.mem g y hg]
      by_cases e2 : y = x'
      · rw [if_pos e2, e2, h0]; constructor
        · intro h; omega
        · intro h5; exact absurd h5.symm e
      · rw [if_neg e2]
  · unfold updT; rw [if_neg (by omega)]; exact I.zero
  · unfold updT
    by_cases e : g = h
    · rw [if_pos e]; exact Pm.nodup_iff.2 hnd
    · rw [if_neg e]; exact I.nodup g
  · unfold updT
    by_cases e : g = h
    · rw [if_pos e]; exact H
    · rw [if_neg e]; exact tok_same (I.ok g) (hsame g)
/-- One slot comes out. -/
theorem tinv_drop (I : TInv W Ts) {h : Nat} {x : Int} (hx : x ∈ (Ts h).slots) : ∀ T, Tr.Ok (aheadW W) T → (x :: T.slots).Perm (Ts h).slots → TInv (dropW W x) (updT Ts h T) := by
  obtain ⟨h1, hh, hin, x', e, hxl, hx2⟩ := I.in' hx
  subst e
  have e1 : dropW W x' = ⟨W.heaps, W.cells.set x' .off⟩ := by simp [dropW, hin]
  have hc : ∀ y, cellW (dropW W x') y = if y = (x' : Int) then .off else cellW W y := fun y => by rw [e1]; exact dcell_set W hxl _ y
  intro T H Pm
  have hnd := Pm.nodup_iff.2 (I.nodup h)
  rw [List.nodup_cons] at hnd
  have hym : ∀ y, y ∈ T.slots ↔ y ∈ (Ts h).slots ∧ y ≠ x' := fun y => by
    rw [← Pm.mem_iff, List.mem_cons]
    constructor
    · intro hy; exact ⟨Or.inr hy, fun e => hnd.1 (by rw [← e]; exact hy)⟩
    · rintro ⟨h2 | h2, h3⟩
      · exact absurd h2 h3
      · exact h2
  have hother : ∀ g, g ≠ h → (x' : Int) ∉ (Ts g).slots := fun g hg hm => hg (I.one hm hx)
  refine ⟨fun g y hg => ?_, ?_, fun g => ?_, fun g => ?_⟩
  · rw [hc]
    unfold updT
    by_cases e : g = h
    · subst e
      rw [if_pos rfl, hym, I.mem g y hg]
      by_cases e2 : y = x'
      · rw [if_pos e2]; show _ ↔ (0 : Nat) = g
        constructor
        · intro h; exact absurd e2 h.2
        · intro h; omega
      · rw [if_neg e2]; simp [e2]
    · rw [if_neg e, I.mem g y hg]
      by_cases e2 : y = x'
      · rw [if_pos e2]; show _ ↔ (0 : Nat) = g
        constructor
        · intro h5; rw [e2, hh] at h5; exact absurd h5.symm e
        · intro h; omega
      · rw [if_neg e2]
  · unfold updT; rw [if_neg (by omega)]; exact I.zero
  · unfold updT
    by_cases e : g = h
    · rw [if_pos e]; exact hnd.2
    · rw [if_neg e]; exact I.nodup g
  · unfold updT
    by_cases e : g = h
    · rw [if_pos e]; exact tok_same H fun y hy => by rw [hc, if_neg ((hym y).1 hy).2]
    · rw [if_neg e]; exact tok_same (I.ok g) fun y hy => by rw [hc, if_neg (fun e2 : y = x' => hother g e (by rw [← e2]; exact hy))]
/-- A slot's entry becomes another one. -/
theorem tinv_lower (I : TInv W Ts) {x k s : Int} (hb : lowerB W x k s = true) : ∃ h : Nat, 1 ≤ h ∧ x ∈ (Ts h).slots ∧ (cellW W x).home = h ∧ (∀ y, inW (lowerW W x k s) y = inW W y) ∧
    (∀ a b, a ≠ x → b ≠ x → aheadW (lowerW W x k s) a b = aheadW W a b) ∧ (∀ y, y ∈ (Ts h).slots → y ≠ x → aheadW W y x = false → aheadW (lowerW W x k s) y x = false) ∧
    ∀ T, Tr.Ok (aheadW (lowerW W x k s)) T → T.slots.Perm (Ts h).slots → TInv (lowerW W x k s) (updT Ts h T) := by
  have hb' := hb
  simp only [lowerB, Bool.and_eq_true, Bool.not_eq_true'] at hb
  obtain ⟨x', e, hx, hne⟩ := in_nat hb.1
  subst e
  obtain ⟨h, hh⟩ : ∃ h, h = (cellW W x').home := ⟨_, rfl⟩
  have h1 : 1 ≤ h := by
    have h2 := hb.1; unfold inW at h2; rw [← hh] at h2
    have : h ≠ 0 := by simpa using h2
    omega
  have hm := (I.mem h x' h1).2 hh.symm
  have e1 : lowerW W x' k s = ⟨W.heaps, W.cells.set x' ⟨h, k, s⟩⟩ := by simp only [lowerW, hb', if_true, Int.toNat_natCast, hh]
  have hc : ∀ y, cellW (lowerW W x' k s) y = if y = (x' : Int) then ⟨h, k, s⟩ else cellW W y := fun y => by rw [e1]; exact dcell_set W hx _ y
  have hhome : ∀ y, (cellW (lowerW W x' k s) y).home = (cellW W y).home := fun y => by
    rw [hc]; split
    · rename_i e; rw [e]; exact hh
    · rfl
  have hinS : ∀ y, inW (lowerW W x' k s) y = inW W y := fun y => by unfold inW; rw [hhome]
  have hsm : ∀ a b : Int, a ≠ x' → b ≠ x' → aheadW (lowerW W x' k s) a b = aheadW W a b := fun a b ha hb => dahead_same (by rw [hc, if_neg ha]) (by rw [hc, if_neg hb])
  have hmore : ∀ b : Int, b ≠ x' → aheadW W x' b = true → aheadW (lowerW W x' k s) x' b = true := fun b hbx h2 => by
    unfold aheadW at h2 ⊢
    rw [hinS, hinS]
    simp only [Bool.and_eq_true] at h2 ⊢
    refine ⟨h2.1, ?_⟩
    have a := (ahead_iff _ _ _ _).1 h2.2
    rw [ahead_iff, hc, if_pos rfl, hc, if_neg hbx]
    have hl := hb.2
    have hl2 : ¬ ((cellW W x').key < k ∨ ((cellW W x').key = k ∧ (cellW W x').seq < s)) := fun e => by
      have : lessB (cellW W x').key (cellW W x').seq k s = true := by
        simp only [lessB, Bool.or_eq_true, Bool.and_eq_true, decide_eq_true_eq, beq_iff_eq]; exact e
      rw [this] at hl; cases hl
    show k < _ ∨ (k = _ ∧ (s < _ ∨ (s = _ ∧ _)))
    omega
  refine ⟨h, h1, hm, hh.symm, hinS, hsm, fun y hy hyx h2 => ?_, fun T H Pm => ⟨fun g y hg => ?_, ?_, fun g => ?_, fun g => ?_⟩⟩
  · exact ahead_asym (hmore y hyx (dahead_total (I.in' hy).2.2.1 hb.1 hyx h2))
  · rw [hhome]
    unfold updT
    by_cases e : g = h
    · subst e; rw [if_pos rfl, Pm.mem_iff]; exact I.mem g y hg
    · rw [if_neg e]; exact I.mem g y hg
  · unfold updT; rw [if_neg (by omega)]; exact I.zero
  · unfold updT
    by_cases e : g = h
    · rw [if_pos e]; exact Pm.nodup_iff.2 (I.nodup h)
    · rw [if_neg e]; exact I.nodup g
  · unfold updT
    by_cases e : g = h
    · rw [if_pos e]; exact H
    · rw [if_neg e]; exact tok_same (I.ok g) fun y hy => by rw [hc, if_neg (fun e2 : y = x' => e (I.one (by rw [← e2]; exact hy) hm))]
/-- Two heaps become one. -/
theorem tinv_join (I : TInv W Ts) {a b : Nat} (hb : joinBW W a b = true) (ha1 : 1 ≤ a) (hb1 : 1 ≤ b) :
    a ≠ b ∧ aheadW (joinW W a b) = aheadW W ∧ (∀ y, inW (joinW W a b) y = inW W y) ∧ (∀ y ∈ (Ts a).slots, y ∉ (Ts b).slots) ∧ ∀ T, Tr.Ok (aheadW W) T → T.slots.Perm ((Ts a).slots ++ (Ts b).slots) → TInv (joinW W a b) (updT (updT Ts b .nil) a T) := by
  have hb' := hb
  simp only [joinBW, Bool.and_eq_true, decide_eq_true_eq] at hb
  have hne : a ≠ b := fun e => hb.2.2 (by rw [e])
  have e1 : joinW W a b = ⟨W.heaps.set b false, W.cells.map fun c => if c.home = b then ⟨a, c.key, c.seq⟩ else c⟩ := by simp [joinW, hb']
  have hc : ∀ y, cellW (joinW W a b) y = if (cellW W y).home = b then ⟨a, (cellW W y).key, (cellW W y).seq⟩ else cellW W y := fun y => by
    by_cases hx : 0 ≤ y ∧ y < W.cells.length
    · obtain ⟨j, rfl⟩ : ∃ j : Nat, y = j := ⟨y.toNat, by omega⟩
      have hj : j < W.cells.length := by omega
      rw [cell_nat W j hj, e1, cell_nat _ j (by show j < (W.cells.map _).length; rw [List.length_map]; exact hj)]
      simp [List.getD_eq_getElem?_getD, hj]
    · have h2 : cellW (joinW W a b) y = .off := by
        rw [e1]
        exact dcell_off (by show ¬ (0 ≤ y ∧ y < ((W.cells.map _).length : Int)); rw [List.length_map]; exact hx)
      rw [h2, dcell_off hx, if_neg (by show ¬ (0 : Nat) = b; omega)]
  have hin : ∀ y, inW (joinW W a b) y = inW W y := fun y => by
    unfold inW
    rw [hc]
    split
    · rename_i e
      rw [e]
      have h1 : (a != 0) = true := bne_iff_ne.2 (by omega)
      have h2 : (b != 0) = true := bne_iff_ne.2 (by omega)
      show (a != 0) = (b != 0)
      rw [h1, h2]
    · rfl
  have hk : ∀ y, (cellW (joinW W a b) y).key = (cellW W y).key ∧ (cellW (joinW W a b) y).seq = (cellW W y).seq := fun y => by rw [hc]; split <;> exact ⟨rfl, rfl⟩
  have hah : aheadW (joinW W a b) = aheadW W := by
    funext x y
    unfold aheadW aheadC
    rw [hin, hin, (hk x).1, (hk x).2, (hk y).1, (hk y).2]
  have hapart : ∀ y ∈ (Ts a).slots, y ∉ (Ts b).slots := fun y h1 h2 => hne (I.one h1 h2)
  have hnd : ((Ts a).slots ++ (Ts b).slots).Nodup := by
    rw [List.nodup_append]
    exact ⟨I.nodup a, I.nodup b, fun x hx y hy e => hapart x hx (by rw [e]; exact hy)⟩
  refine ⟨hne, hah, hin, hapart, fun T H Pm => ⟨fun g y hg => ?_, ?_, fun g => ?_, fun g => ?_⟩⟩
  · have hm : (cellW (joinW W a b) y).home = if (cellW W y).home = b then a else (cellW W y).home := by rw [hc]; split <;> rfl
    rw [hm]
    unfold updT
    by_cases e2 : g = a
    · rw [if_pos e2, e2, Pm.mem_iff, List.mem_append, I.mem a y ha1, I.mem b y hb1]
      split
      · rename_i h2; simp [h2]
      · rename_i h2; simp [h2]
    · rw [if_neg e2]
      by_cases e : g = b
      · rw [if_pos e, e]
        constructor
        · intro h; simp [Tr.slots] at h
        · intro h
          split at h
          · exact absurd h hne
          · rename_i h2; exact absurd h h2
      · rw [if_neg e, I.mem g y hg]
        split
        · rename_i h2
          constructor
          · intro h; exact absurd (h.symm.trans h2) e
          · intro h; exact absurd h.symm e2
        · rfl
  · unfold updT; rw [if_neg (by omega), if_neg (by omega)]; exact I.zero
  · unfold updT
    split
    · exact Pm.nodup_iff.2 hnd
    · split
      · exact List.nodup_nil
      · exact I.nodup g
  · rw [hah]
    unfold updT
    split
    · exact H
    · split
      · trivial
      · exact I.ok g
end
end Go.Proofs.Ytehoejoeoaimjaa

namespace Go.Proofs.Ytehoejoeoaimjaa
open Go.RowKit Go.Sort

/-- What a map holds at a key, if it has it, and how many keys it has. -/
structure ZMapIs (D : DataW Unit) (f : Int → Option Int) (n : Nat) : Prop where
  at' : ∀ h : Int, D.atKey (.int .i64 h) (.lit (.int .i64 0)) = .lit (.int .i64 ((f h).getD 0))
  has' : ∀ h : Int, Maps.has D (.int .i64 h) = (f h).isSome
  tidy : Maps.Tidy D
  size : Maps.size D = n
def setZ (f : Int → Option Int) (k : Int) (o : Option Int) : Int → Option Int := fun h => if h = k then o else f h
theorem setZ_same (f : Int → Option Int) (k : Int) (o : Option Int) : setZ f k o k = o := by simp [setZ]
theorem setZ_other (f : Int → Option Int) {k h : Int} (o : Option Int) (hn : h ≠ k) : setZ f k o h = f h := by simp [setZ, hn]
theorem setZ_set (f : Int → Option Int) (k : Int) (o p : Option Int) : setZ (setZ f k o) k p = setZ f k p := by
  funext h; unfold setZ; split <;> rfl
theorem ZMapIs.empty : ZMapIs (.map []) (fun _ => none) 0 := ⟨fun _ => rfl, fun _ => rfl, ⟨[], rfl, List.Pairwise.nil⟩, rfl⟩
theorem ZMapIs.put {D : DataW Unit} {f : Int → Option Int} {n : Nat} (h : ZMapIs D f n) (k v : Int) : ZMapIs (D.put (.int .i64 k) (.lit (.int .i64 v))) (setZ f k (some v)) (if (f k).isSome then n else n + 1) := by
  have hk : WideAt.IsKeyLit (.int .i64 k) := trivial
  have hm := h.tidy.isMap
  refine ⟨fun x => ?_, fun x => ?_, h.tidy.put hk _, ?_⟩
  · by_cases hx : x = k
    · subst hx
      rw [Maps.atKey_put_same hm hk, setZ_same]; rfl
    · rw [Maps.atKey_put_other (by simpa using hx), h.at', setZ_other _ _ hx]
  · by_cases hx : x = k
    · subst hx
      rw [Maps.has_put_same hm hk, setZ_same]; rfl
    · rw [Maps.has_put_other (by simpa using hx), h.has', setZ_other _ _ hx]
  · rw [Maps.size_put h.tidy, h.has', h.size]
theorem ZMapIs.del {D : DataW Unit} {f : Int → Option Int} {n : Nat} (h : ZMapIs D f n) (k : Int) : ZMapIs (D.del (.int .i64 k)) (setZ f k none) (if (f k).isSome then n - 1 else n) := by
  refine ⟨fun x => ?_, fun x => ?_, h.tidy.del _, ?_⟩
  · by_cases hx : x = k
    · subst hx
      rw [Maps.atKey_del_same, setZ_same]; rfl
    · rw [Maps.atKey_del_other (by simpa using hx), h.at', setZ_other _ _ hx]
  · by_cases hx : x = k
    · subst hx
      rw [Maps.has_del_same, setZ_same]; rfl
    · rw [Maps.has_del_other (by simpa using hx), h.has', setZ_other _ _ hx]
  · have h1 := Maps.size_del (k := .int .i64 k) h.tidy
    rw [h.has', h.size] at h1
    split
    · rename_i e; rw [if_pos e] at h1; omega
    · rename_i e; rw [if_neg e] at h1; omega
/-- At block b lies a map of integers that holds f, of n keys. -/
def Ob.zmap (P : Program) (k e : TypeId) (b : Nat) (f : Int → Option Int) (n : Nat) : Ob where
  holds w F := (∃ D, w.ownsMap (H := Unit) P k (plainElem P e) b n D ∧ ZMapIs D f n) ∧ F = (· = b)
  keeps := by
    rintro w w' F G ⟨⟨D, h, hm⟩, rfl⟩ kp hg
    refine ⟨⟨D, ?_, hm⟩, rfl⟩
    have hlt := h.lt
    obtain ⟨es, clock, hb, r⟩ := h
    exact ⟨es, clock, by rw [kp.block b hlt (hg b rfl)]; exact hb, r⟩
  lt := by rintro w F ⟨⟨D, h, _⟩, rfl⟩ k rfl; exact h.lt
namespace Stage
variable {F0 : Nat → Prop} {W w w' : World} {l : List Ob} {P : Program} {t k e : TypeId} {b n : Nat} {f : Int → Option Int}
theorem newZMap (h : Stage F0 W l w) (P : Program) (k e : TypeId) {b : Nat} (hb : w.heap.size = b) : Stage F0 W (l ++ [Ob.zmap P k e b (fun _ => none) 0]) (w.alloc (.map #[] 0)) := by
  subst hb
  exact h.add ((Below.refl _ _).alloc (Nat.le_refl _) _) ⟨⟨_, World.ownsMap_made w P k _, ZMapIs.empty⟩, rfl⟩ (fun _ hk => Nat.le_of_eq hk.symm)
/-- 'm[k]': an equation that the walk takes. -/
theorem lookZ (h : Stage F0 W l w) (i : Nat) (hi : l[i]? = some (Ob.zmap P k e b f n)) (ht : P.underlying t = some (.map k e)) (hk : P.underlying k = some (.int .i64)) (he : P.underlying e = some (.int .i64)) (hz : (zeroValue e).run P w = .ok (.int .i64 0) w)
    (x : Int) (hx : -9223372036854775808 ≤ x ∧ x ≤ 9223372036854775807) : (Instr.lookup t (.map (some b)) (.int .i64 x) false).run P w = .ok (.int .i64 ((f x).getD 0)) w := by
  obtain ⟨_, ⟨D, hown, hm⟩, _⟩ := h.get hi
  obtain ⟨c, hrun, hat, _⟩ := hown.lookup_int (Maps.int_keyed hk) ht he hz (Maps.keyOf_int_mk hk (wf_i64' hx))
  rw [hm.at' x] at hat
  injection hat with hat
  injection hat with _ hat
  rw [hrun, hat]
/-- 'v, ok := m[k]'. -/
theorem lookOkZ (h : Stage F0 W l w) (i : Nat) (hi : l[i]? = some (Ob.zmap P k e b f n)) (ht : P.underlying t = some (.map k e)) (hk : P.underlying k = some (.int .i64)) (he : P.underlying e = some (.int .i64)) (hz : (zeroValue e).run P w = .ok (.int .i64 0) w)
    (x : Int) (hx : -9223372036854775808 ≤ x ∧ x ≤ 9223372036854775807) : (Instr.lookup t (.map (some b)) (.int .i64 x) true).run P w = .ok (.tuple #[.int .i64 ((f x).getD 0), .bool (f x).isSome]) w := by
  obtain ⟨_, ⟨D, hown, hm⟩, _⟩ := h.get hi
  obtain ⟨v, ps, hrun, hv⟩ := hown.look_ok (Maps.int_keyed hk) ht hz (plainElem_int he (by decide)) (Maps.keyOf_int_mk hk (wf_i64' hx))
  rw [hm.at' x] at hv
  obtain ⟨c, rfl, hc, _⟩ := plainElem_int_inv he hv
  simp only [Prod.mk.injEq, DataW.lit.injEq, Lit.int.injEq, true_and] at hc
  rw [hrun, hm.has' x, hc.1]
/-- 'len(m)'. -/
theorem lenZ (h : Stage F0 W l w) (i : Nat) (hi : l[i]? = some (Ob.zmap P k e b f n)) (ht : P.underlying t = some (.map k e)) (ty : TypeId) : (Builtin.len_ #[t] ty #[.map (some b)]).run P w = .ok (.int .i64 n) w := by
  obtain ⟨_, ⟨D, hown, hm⟩, _⟩ := h.get hi
  rw [hown.len ht ty, hm.size]
/-- 'm[k] = v' at the operation. -/
theorem wp_putZ {ops : Array Oper} {rest : List Oper} {o : Oper} {a : Act} {Q : Exit → Act → World → Prop} (h : Stage F0 W l w) (i : Nat) (hi : l[i]? = some (Ob.zmap P k e b f n)) (hg : o.guard = none) (m x v : Operand) (hop : o.op = Op.mapUpdate t m x v)
    (ht : P.underlying t = some (.map k e)) (hk : P.underlying k = some (.int .i64)) (he : P.underlying e = some (.int .i64)) (hM : n < maxLen)
    (hm : a.eval m = .map (some b)) (key val : Int) (hx : a.eval x = .int .i64 key) (hv : a.eval v = .int .i64 val) (hkey : -9223372036854775808 ≤ key ∧ key ≤ 9223372036854775807) (hval : -9223372036854775808 ≤ val ∧ val ≤ 9223372036854775807)
    (hK : ∀ w', Stage F0 W (l.set i (Ob.zmap P k e b (setZ f key (some val)) (if (f key).isSome then n else n + 1))) w' → wpList P ops Q rest (a.put o.dst undef) w') : wpList P ops Q (o :: rest) a w := by
  obtain ⟨_, ⟨D, hown, hmi⟩, _⟩ := h.get hi
  refine wpList_mapUpdate_own w hg m x v t hop k e (Maps.int_keyed hk) ht _ b n D hm hown hM _ _ _ hx hv (Maps.keyOf_int_mk hk (wf_i64' hkey)) _ [] (plainElem_int he (wf_i64' hval)) fun w' h1 h2 => hK w' ?_
  have h3 := hmi.put key val
  exact h.moved hi fun F hF => ⟨(· = b), ⟨⟨_, owns_tight h1 (Nat.le_of_eq h3.size), h3⟩, rfl⟩, by
    have e2 : F = (· = b) := hF.2
    subst e2
    exact ⟨keeps_of_grown h2, fun k hk => Or.inl hk⟩⟩
/-- 'delete(m, k)' at the operation. -/
theorem wp_deleteZ {ops : Array Oper} {rest : List Oper} {o : Oper} {a : Act} {Q : Exit → Act → World → Prop} (h : Stage F0 W l w) (i : Nat) (hi : l[i]? = some (Ob.zmap P k e b f n)) (hg : o.guard = none) (m x : Operand) (hop : o.op = Op.call { callee := Callee.builtin Builtin.delete, args := #[m, x], argTypes := #[t, k] })
    (ht : P.underlying t = some (.map k e)) (hk : P.underlying k = some (.int .i64))
    (hm : a.eval m = .map (some b)) (key : Int) (hx : a.eval x = .int .i64 key) (hkey : -9223372036854775808 ≤ key ∧ key ≤ 9223372036854775807)
    (hK : ∀ w', Stage F0 W (l.set i (Ob.zmap P k e b (setZ f key none) (if (f key).isSome then n - 1 else n))) w' → wpList P ops Q rest (a.put o.dst (.tuple #[])) w') : wpList P ops Q (o :: rest) a w := by
  obtain ⟨_, ⟨D, hown, hmi⟩, _⟩ := h.get hi
  refine wpList_delete_own w hg m x t k hop e (Maps.int_keyed hk) ht _ b n D hm hown _ _ hx (Maps.keyOf_int_mk hk (wf_i64' hkey)) fun w' h1 h2 => hK w' ?_
  have h3 := hmi.del key
  exact h.moved hi fun F hF => ⟨(· = b), ⟨⟨_, owns_tight h1 (Nat.le_of_eq h3.size), h3⟩, rfl⟩, by
    have e2 : F = (· = b) := hF.2
    subst e2
    exact ⟨keeps_of_grown h2.grown, fun k hk => Or.inl hk⟩⟩
end Stage
end Go.Proofs.Ytehoejoeoaimjaa
