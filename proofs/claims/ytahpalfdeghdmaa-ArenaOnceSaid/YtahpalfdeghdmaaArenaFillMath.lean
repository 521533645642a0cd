/- Taking all that can be taken, and giving all back, round by round: plain data alone. -/
import Derived.Test.YtahpalfdeghdmaaArenaMath
namespace Go.Proofs.Ytahpalfdeghdmaa

def leftN (k n m : Nat) : Nat := if k < m then n else 0
structure FillA (k n m i : Nat) (A : AS) (l : List (Nat × Nat)) : Prop where
  fit : A.Fit
  cap : A.cap = n
  most : A.most = m
  live : A.live = i
  usable : usableN A + i = leftN k n m
  len : l.length = i
  nodup : (l.map (·.1)).Nodup
  mem : ∀ h ∈ l, h.1 < A.used.length ∧ A.used.getD h.1 (0, false) = (h.2, true)
  gens : ∀ s, s < A.used.length → A.used.getD s (0, false) = (k + 1, true) ∨ (A.used.getD s (0, false)).2 = false ∧ 0 < k ∧ (A.used.getD s (0, false)).1 = min k m
  full : k = 0 ∨ A.used.length = n

theorem fill_start (n m : Nat) (hn : n ≤ 65536) (hm : 1 ≤ m ∧ m ≤ 4294967295) : FillA 0 n m 0 ⟨n, m, [], [], 0⟩ [] :=
  ⟨⟨hn, hm, by simp, by simp, by simp, by simp, by simp, by simp⟩, rfl, rfl, rfl, by simp [usableN, leftN]; omega, rfl, by simp, by simp, by simp, Or.inl rfl⟩
theorem take_shape {A A' : AS} {s g : Nat} (hA : A.Fit) (h : takeA A = some (s, g, A')) : (s < A.used.length ∧ A'.used = A.used.set s (g, true) ∧ (A.used.getD s (0, false)).2 = false ∧ g = (A.used.getD s (0, false)).1 + 1 ∧ g ≤ A.most) ∨ (s = A.used.length ∧ A.used.length < A.cap ∧ A'.used = A.used ++ [(1, true)] ∧ g = 1 ∧ A.waiting = []) := by
  rcases take_cases A with ⟨ws, k, hw, ht⟩ | ⟨hw, hc, ht⟩ | ⟨_, _, ht⟩
  · rw [ht] at h
    simp only [Option.some.injEq, Prod.mk.injEq] at h
    obtain ⟨rfl, rfl, rfl⟩ := h
    have hk := hA.waits k (by rw [hw]; simp)
    exact Or.inl ⟨hk.1, rfl, hk.2.1, rfl, hk.2.2⟩
  · rw [ht] at h
    simp only [Option.some.injEq, Prod.mk.injEq] at h
    obtain ⟨rfl, rfl, rfl⟩ := h
    exact Or.inr ⟨rfl, hc, rfl, rfl, hw⟩
  · rw [ht] at h; cases h
theorem fill_take {k n m i : Nat} {A A' : AS} {l : List (Nat × Nat)} {s g : Nat} (h : FillA k n m i A l) (ht : takeA A = some (s, g, A')) : FillA k n m (i + 1) A' (l ++ [(s, g)]) ∧ s < n ∧ g = k + 1 := by
  obtain ⟨hf, hc, hmo, hl, hu, hs, hget, _, _⟩ := take_fit h.fit ht
  have hcap := h.cap
  have hmost := h.most
  have hnew : ∀ x ∈ l, x.1 ≠ s := fun x hx e => by
    have hx' := h.mem x hx
    rcases take_shape h.fit ht with ⟨h1, h2, h3, h4⟩ | ⟨h1, h2, _⟩
    · rw [e] at hx'; rw [hx'.2] at h3; simp at h3
    · omega
  have hold : ∀ j, j < A.used.length → j ≠ s → A'.used.getD j (0, false) = A.used.getD j (0, false) := fun j hj hne => by
    rcases take_shape h.fit ht with ⟨h1, h2, h3, h4⟩ | ⟨h1, h2, h3, _⟩
    · rw [h2, getD_set _ _ _ _ _ h1, if_neg (fun e => hne e.symm)]
    · rw [h3, getD_snoc, if_neg (by omega)]
  have hlen : A.used.length ≤ A'.used.length ∧ ∀ j, j < A'.used.length → j = s ∨ j < A.used.length := by
    rcases take_shape h.fit ht with ⟨h1, h2, h3, h4⟩ | ⟨h1, h2, h3, _⟩
    · rw [h2, List.length_set]; exact ⟨Nat.le_refl _, fun j hj => Or.inr hj⟩
    · rw [h3, List.length_append]; exact ⟨by omega, fun j hj => by simp at hj; omega⟩
  have hg : g = k + 1 := by
    rcases take_shape h.fit ht with ⟨h1, h2, h3, h4, h5⟩ | ⟨h1, h2, h3, h4, _⟩
    · rcases h.gens s h1 with e | ⟨_, _, e⟩
      · rw [e] at h3; simp at h3
      · omega
    · rcases h.full with e | e <;> omega
  have hsn : s < n := by have := hf.used; omega
  refine ⟨⟨hf, by omega, by omega, by have := h.live; omega, by have := h.usable; omega, by simp [h.len], ?_, ?_, ?_, ?_⟩, hsn, hg⟩
  · rw [List.map_append, List.nodup_append]
    exact ⟨h.nodup, by simp, fun a ha b hb => by
      simp at hb ha
      obtain ⟨x, hx⟩ := ha
      exact fun e => hnew (a, x) hx (by simp [e, hb])⟩
  · intro x hx
    simp only [List.mem_append, List.mem_singleton] at hx
    rcases hx with hx | rfl
    · have := h.mem x hx
      exact ⟨by omega, by rw [hold _ this.1 (hnew x hx)]; exact this.2⟩
    · exact ⟨hs, hget⟩
  · intro j hj
    by_cases hjs : j = s
    · subst hjs; left; rw [hget, hg]
    · rcases hlen.2 j hj with h1 | h1
      · exact absurd h1 hjs
      · rw [hold j h1 hjs]; exact h.gens j h1
  · rcases h.full with e | e
    · exact Or.inl e
    · right; have := hf.used; omega
theorem fill_more {k n m i : Nat} {A : AS} {l : List (Nat × Nat)} (h : FillA k n m i A l) (hi : i < leftN k n m) : ∃ s g A', takeA A = some (s, g, A') := by
  cases ht : takeA A with
  | none => have := (take_none h.fit).1 ht; have := h.usable; omega
  | some x => exact ⟨x.1, x.2.1, x.2.2, rfl⟩
theorem fill_full {k n m : Nat} {A : AS} {l : List (Nat × Nat)} (h : FillA k n m (leftN k n m) A l) : takeA A = none ∧ usableN A = 0 := by
  have : usableN A = 0 := by have := h.usable; omega
  exact ⟨(take_none h.fit).2 this, this⟩

theorem mem_getD {α : Type} (l : List α) (i : Nat) (d : α) (h : i < l.length) : l.getD i d ∈ l := by
  simp [List.getD_eq_getElem?_getD, h]
theorem all_live (l : List (Nat × Bool)) (h : l.countP (·.2) = l.length) (i : Nat) (hi : i < l.length) : (l.getD i (0, false)).2 = true := by
  rw [List.countP_eq_length] at h
  exact h _ (mem_getD l i _ hi)
theorem none_live (l : List (Nat × Bool)) (h : l.countP (·.2) = 0) (i : Nat) (hi : i < l.length) : (l.getD i (0, false)).2 = false := by
  rw [List.countP_eq_zero] at h
  simpa using h _ (mem_getD l i (0, false) hi)
theorem cover_le : ∀ (n : Nat) (l : List Nat), (∀ i, i < n → i ∈ l) → n ≤ l.length := by
  intro n
  induction n with
  | zero => intro l _; omega
  | succ n ih =>
    intro l h
    have hn := h n (by omega)
    have := ih (l.erase n) (fun i hi => (List.mem_erase_of_ne (by omega)).2 (h i (by omega)))
    have h2 := List.length_erase_of_mem hn
    have h3 := List.length_pos_of_mem hn
    omega

structure GiveA (k n m j : Nat) (A : AS) (l : List (Nat × Nat)) : Prop where
  fit : A.Fit
  cap : A.cap = n
  most : A.most = m
  used : A.used.length = n
  gens : ∀ s, s < n → (A.used.getD s (0, false)).1 = min (k + 1) m
  live : A.live + j = l.length
  mem : ∀ h ∈ l.drop j, h.1 < n ∧ A.used.getD h.1 (0, false) = (h.2, true)
  nodup : (l.map (·.1)).Nodup
theorem fill_give {k n m : Nat} {A : AS} {l : List (Nat × Nat)} (h : FillA k n m (leftN k n m) A l) : GiveA k n m 0 A l := by
  have h1 := h.fit.liveLe
  have h2 := h.fit.used
  have h3 := h.live
  have h4 := h.cap
  have h5 := h.fit.live
  have h6 := h.most
  have h7 := h.fit.most
  have hlen : A.used.length = n := by
    rcases h.full with e | e
    · subst e
      have : leftN 0 n m = n := by unfold leftN; rw [if_pos (by omega)]
      omega
    · exact e
  refine ⟨h.fit, h4, h6, hlen, fun s hs => ?_, by have := h.len; omega, fun x hx => ?_, h.nodup⟩
  · by_cases hk : k < m
    · have e : leftN k n m = n := by unfold leftN; rw [if_pos hk]
      have := all_live A.used (by omega) s (by omega)
      rcases h.gens s (by omega) with hg | hg
      · rw [hg]; simp only; omega
      · rw [hg.1] at this; cases this
    · have e : leftN k n m = 0 := by unfold leftN; rw [if_neg hk]
      have := none_live A.used (by omega) s (by omega)
      rcases h.gens s (by omega) with hg | hg
      · rw [hg] at this; cases this
      · rw [hg.2.2]; omega
  · have := h.mem x (by simpa using hx)
    exact ⟨by omega, this.2⟩
theorem give_step {k n m j : Nat} {A : AS} {l : List (Nat × Nat)} (h : GiveA k n m j A l) (hj : j < l.length) : (l.getD j (0, 0)).1 < A.used.length ∧ A.used.getD (l.getD j (0, 0)).1 (0, false) = ((l.getD j (0, 0)).2, true) ∧ GiveA k n m (j + 1) (giveA A (l.getD j (0, 0)).1 (l.getD j (0, 0)).2) l := by
  have hd : l.drop j = l.getD j (0, 0) :: l.drop (j + 1) := by
    rw [List.drop_eq_getElem_cons hj]; simp [List.getD_eq_getElem?_getD, hj]
  have hm := h.mem (l.getD j (0, 0)) (by rw [hd]; simp)
  have hu := h.used
  have hn := h.nodup
  rw [← List.take_append_drop j l, List.map_append, List.nodup_append] at hn
  have hn2 := hn.2.1
  rw [hd, List.map_cons, List.nodup_cons] at hn2
  generalize l.getD j (0, 0) = x at *
  have gf := give_fit h.fit (i := x.1) (g := x.2) (by omega) hm.2
  refine ⟨by omega, hm.2, ⟨gf.1, h.cap, h.most, by simp [giveA, hu], fun s hs => ?_, by have := h.live; have := gf.2.1; omega, fun y hy => ?_, h.nodup⟩⟩
  · simp only [giveA]
    rw [getD_set _ _ _ _ _ (by omega)]
    split
    · rename_i e
      have := h.gens x.1 hm.1
      rw [hm.2] at this
      exact this
    · exact h.gens s hs
  · have := h.mem y (by rw [hd]; exact List.mem_cons_of_mem _ hy)
    refine ⟨this.1, ?_⟩
    simp only [giveA]
    rw [getD_set _ _ _ _ _ (by omega), if_neg]
    · exact this.2
    · intro e
      exact hn2.1 (List.mem_map.2 ⟨y, hy, e.symm⟩)
theorem give_end {k n m : Nat} {A : AS} {l : List (Nat × Nat)} (h : GiveA k n m l.length A l) : FillA (k + 1) n m 0 A [] := by
  have h1 := h.live
  have h2 := h.fit.live
  have h3 := h.used
  have h4 := h.cap
  have h5 := h.most
  have hn := fun s (hs : s < n) => none_live A.used (by omega) s (by omega)
  refine ⟨h.fit, h.cap, h.most, by omega, ?_, rfl, by simp, by simp, fun s hs => Or.inr ⟨hn s (by omega), by omega, h.gens s (by omega)⟩, Or.inr h.used⟩
  unfold usableN leftN
  by_cases hk : k + 1 < m
  · rw [if_pos hk]
    have := cover_le n A.waiting (fun i hi => h.fit.all i (by omega) (hn i hi) (by rw [h.gens i hi]; omega))
    have := h.fit.wait
    omega
  · rw [if_neg hk]
    have : A.waiting = [] := by
      apply List.eq_nil_iff_forall_not_mem.2
      intro i hi
      have := h.fit.waits i hi
      have := h.gens i (by omega)
      omega
    rw [this]
    simp; omega
end Go.Proofs.Ytahpalfdeghdmaa
