/- Handles that are live, and all that ever were: plain data alone. -/
import Derived.Test.YtahpalfdeghdmaaArenaFillMath
namespace Go.Proofs.Ytahpalfdeghdmaa

structure OnceA (A : AS) (l e : List (Nat × Nat)) (nl ne : Nat) : Prop where
  fit : A.Fit
  live : A.live = nl
  len : l.length = nl
  elen : e.length = ne
  nodup : (l.map (·.1)).Nodup
  mem : ∀ h ∈ l, h.1 < A.used.length ∧ A.used.getD h.1 (0, false) = (h.2, true)
  ever : ∀ h ∈ e, h.1 < A.used.length ∧ h.2 ≤ (A.used.getD h.1 (0, false)).1
theorem once_start (n m : Nat) (hn : n ≤ 65536) (hm : 1 ≤ m ∧ m ≤ 4294967295) : OnceA ⟨n, m, [], [], 0⟩ [] [] 0 0 :=
  ⟨⟨hn, hm, by simp, by simp, by simp, by simp, by simp, by simp⟩, rfl, rfl, rfl, by simp, by simp, by simp⟩
theorem once_take {A A' : AS} {l e : List (Nat × Nat)} {nl ne s g : Nat} (h : OnceA A l e nl ne) (ht : takeA A = some (s, g, A')) : (∀ x ∈ e, ¬ (x.1 = s ∧ x.2 = g)) ∧ OnceA A' (l ++ [(s, g)]) (e ++ [(s, g)]) (nl + 1) (ne + 1) := by
  obtain ⟨hf, hc, hmo, hl, hu, hs, hget, _, _⟩ := take_fit h.fit ht
  have hnew : ∀ x ∈ l, x.1 ≠ s := fun x hx e => by
    have hx' := h.mem x hx
    rcases take_shape h.fit ht with ⟨h1, h2, h3, h4⟩ | ⟨h1, h2, _⟩
    · rw [e] at hx'; rw [hx'.2] at h3; simp at h3
    · omega
  have hold : ∀ j, j < A.used.length → j ≠ s → A'.used.getD j (0, false) = A.used.getD j (0, false) := fun j hj hne => by
    rcases take_shape h.fit ht with ⟨h1, h2, h3, h4⟩ | ⟨h1, h2, h3, _⟩
    · rw [h2, getD_set _ _ _ _ _ h1, if_neg (fun e => hne e.symm)]
    · rw [h3, getD_snoc, if_neg (by omega)]
  have hlen : A.used.length ≤ A'.used.length := by
    rcases take_shape h.fit ht with ⟨h1, h2, h3, h4⟩ | ⟨h1, h2, h3, _⟩
    · rw [h2, List.length_set]; exact Nat.le_refl _
    · rw [h3, List.length_append]; omega
  have hless : s < A.used.length → (A.used.getD s (0, false)).1 < g := fun hs' => by
    rcases take_shape h.fit ht with ⟨h1, h2, h3, h4, _⟩ | ⟨h1, _⟩ <;> omega
  refine ⟨fun x hx => ?_, ⟨hf, by have := h.live; omega, by simp [h.len], by simp [h.elen], ?_, fun x hx => ?_, fun x hx => ?_⟩⟩
  · rintro ⟨e1, e2⟩
    have h1 := h.ever x hx
    rw [e1] at h1
    have := hless h1.1
    omega
  · rw [List.map_append, List.nodup_append]
    exact ⟨h.nodup, by simp, fun a ha b hb => by
      simp at hb ha
      obtain ⟨x, hx⟩ := ha
      exact fun e => hnew (a, x) hx (by simp [e, hb])⟩
  · simp only [List.mem_append, List.mem_singleton] at hx
    rcases hx with hx | rfl
    · have := h.mem x hx
      exact ⟨by omega, by rw [hold _ this.1 (hnew x hx)]; exact this.2⟩
    · exact ⟨hs, hget⟩
  · simp only [List.mem_append, List.mem_singleton] at hx
    rcases hx with hx | rfl
    · have := h.ever x hx
      refine ⟨by omega, ?_⟩
      by_cases he : x.1 = s
      · rw [he, hget]
        rw [he] at this
        have := hless this.1
        simp only; omega
      · rw [hold _ this.1 he]; exact this.2
    · exact ⟨hs, by rw [hget]; simp⟩
theorem once_give {A : AS} {l e : List (Nat × Nat)} {nl ne k : Nat} (h : OnceA A l e nl ne) (hk : k < nl) : (l.getD k (0, 0)).1 < A.used.length ∧ A.used.getD (l.getD k (0, 0)).1 (0, false) = ((l.getD k (0, 0)).2, true) ∧
    OnceA (giveA A (l.getD k (0, 0)).1 (l.getD k (0, 0)).2) (l.take k ++ l.drop (k + 1)) e (nl - 1) ne ∧ liveB (giveA A (l.getD k (0, 0)).1 (l.getD k (0, 0)).2) (l.getD k (0, 0)).1 (l.getD k (0, 0)).2 = false := by
  have hl := h.len
  have hd : l = l.take k ++ (l.getD k (0, 0) :: l.drop (k + 1)) := by
    have : l.drop k = l.getD k (0, 0) :: l.drop (k + 1) := by rw [List.drop_eq_getElem_cons (by omega)]; simp [List.getD_eq_getElem?_getD, show k < l.length by omega]
    rw [← this, List.take_append_drop]
  have hm := h.mem (l.getD k (0, 0)) (mem_getD l k _ (by omega))
  have hn := h.nodup
  rw [hd, List.map_append, List.map_cons, List.nodup_append, List.nodup_cons] at hn
  have hsub : ∀ y ∈ l.take k ++ l.drop (k + 1), y ∈ l ∧ y.1 ≠ (l.getD k (0, 0)).1 := fun y hy => by
    simp only [List.mem_append] at hy
    rcases hy with hy | hy
    · exact ⟨List.mem_of_mem_take hy, hn.2.2 y.1 (List.mem_map.2 ⟨y, hy, rfl⟩) _ (by simp)⟩
    · exact ⟨List.mem_of_mem_drop hy, fun e => hn.2.1.1 (List.mem_map.2 ⟨y, hy, e⟩)⟩
  have hlen : (l.take k ++ l.drop (k + 1)).length = nl - 1 := by simp; omega
  have hnod : ((l.take k ++ l.drop (k + 1)).map (·.1)).Nodup := by
    rw [List.map_append, List.nodup_append]
    exact ⟨hn.1, hn.2.1.2, fun a ha b hb => hn.2.2 a ha b (List.mem_cons_of_mem _ hb)⟩
  clear hd hn
  generalize l.getD k (0, 0) = x at *
  have gf := give_fit h.fit hm.1 hm.2
  refine ⟨hm.1, hm.2, ⟨gf.1, by have := gf.2.1; have := h.live; omega, hlen, h.elen, hnod, fun y hy => ?_, fun y hy => ?_⟩, ?_⟩
  · have h1 := hsub y hy
    have h2 := h.mem y h1.1
    simp only [giveA, List.length_set]
    exact ⟨h2.1, by rw [getD_set _ _ _ _ _ hm.1, if_neg (fun e => h1.2 e.symm)]; exact h2.2⟩
  · have h2 := h.ever y hy
    simp only [giveA, List.length_set]
    refine ⟨h2.1, ?_⟩
    rw [getD_set _ _ _ _ _ hm.1]
    split
    · rename_i e
      rw [← e, hm.2] at h2
      exact h2.2
    · exact h2.2
  · simp only [liveB, giveA, Int.toNat_natCast]
    rw [getD_set _ _ _ _ _ hm.1, if_pos rfl]
    simp
theorem once_live {A : AS} {l e : List (Nat × Nat)} {nl ne k : Nat} (h : OnceA A l e nl ne) (hk : k < nl) : liveB A (l.getD k (0, 0)).1 (l.getD k (0, 0)).2 = true := by
  have hm := h.mem (l.getD k (0, 0)) (mem_getD l k _ (by have := h.len; omega))
  exact live_of hm.1 hm.2
end Go.Proofs.Ytahpalfdeghdmaa
