/- Arenas as plain data: what Take and Give do, and what stays true. No program is named here. -/
import GoSem.ClaimData
namespace Go.Proofs.Ytahpalfdeghdmaa

/-- An arena: how many slots, the greatest generation; of each slot that was ever given out its generation, and whether it is out; those that wait; how many are out. -/
structure AS where
  cap : Nat
  most : Nat
  used : List (Nat × Bool)
  waiting : List Nat
  live : Nat
/-- Was there ever a handle of that slot? -/
def hasB (s : Int) (n : Nat) : Bool := decide (0 ≤ s ∧ s < n)
def liveB (A : AS) (s g : Int) : Bool := hasB s A.used.length && (((A.used.getD s.toNat (0, false)).1 : Int) == g && (A.used.getD s.toNat (0, false)).2)
/-- What holds of an arena's numbers. -/
structure AS.Fit (A : AS) : Prop where
  cap : A.cap ≤ 65536
  most : 1 ≤ A.most ∧ A.most ≤ 4294967295
  used : A.used.length ≤ A.cap
  nodup : A.waiting.Nodup
  live : A.live = A.used.countP (·.2)
  gen : ∀ i, i < A.used.length → 1 ≤ (A.used.getD i (0, false)).1 ∧ (A.used.getD i (0, false)).1 ≤ A.most
  waits : ∀ i, i ∈ A.waiting → i < A.used.length ∧ (A.used.getD i (0, false)).2 = false ∧ (A.used.getD i (0, false)).1 < A.most
  all : ∀ i, i < A.used.length → (A.used.getD i (0, false)).2 = false → (A.used.getD i (0, false)).1 < A.most → i ∈ A.waiting

theorem nodup_le : ∀ (n : Nat) (l : List Nat), l.Nodup → (∀ i ∈ l, i < n) → l.length ≤ n := by
  intro n
  induction n with
  | zero =>
    intro l _ h
    cases l with
    | nil => simp
    | cons a r => exact absurd (h a (List.mem_cons_self ..)) (by omega)
  | succ n ih =>
    intro l hd h
    by_cases hn : n ∈ l
    · have h1 := ih (l.erase n) (hd.erase n) (fun i hi => by
        have := (hd.mem_erase_iff).1 hi
        have := h i this.2
        omega)
      have h2 := List.length_erase_of_mem hn
      have h3 := List.length_pos_of_mem hn
      omega
    · have := ih l hd (fun i hi => by have := h i hi; have : i ≠ n := fun e => hn (e ▸ hi); omega)
      omega
theorem AS.Fit.wait {A : AS} (h : A.Fit) : A.waiting.length ≤ A.used.length := nodup_le _ _ h.nodup (fun i hi => (h.waits i hi).1)
theorem AS.Fit.liveLe {A : AS} (h : A.Fit) : A.live ≤ A.used.length := by rw [h.live]; exact List.countP_le_length

theorem getD_set {α : Type} (l : List α) (i j : Nat) (x d : α) (hi : i < l.length) : (l.set i x).getD j d = if i = j then x else l.getD j d := by
  simp only [List.getD_eq_getElem?_getD, List.getElem?_set]
  by_cases h : i = j
  · subst h; simp [hi]
  · simp [h]
theorem getD_snoc {α : Type} (l : List α) (j : Nat) (x d : α) : (l ++ [x]).getD j d = if j = l.length then x else l.getD j d := by
  simp only [List.getD_eq_getElem?_getD, List.getElem?_append]
  by_cases h : j < l.length
  · simp [h]; omega
  · by_cases h2 : j = l.length
    · subst h2; simp
    · have h3 : l.length < j := by omega
      simp only [h, if_false, h2]
      rw [List.getElem?_eq_none (by simp; omega), List.getElem?_eq_none (by omega)]
theorem count_set (l : List (Nat × Bool)) (i g : Nat) (b : Bool) (hi : i < l.length) : (l.set i (g, b)).countP (·.2) + (if (l.getD i (0, false)).2 then 1 else 0) = l.countP (·.2) + (if b then 1 else 0) := by
  induction l generalizing i with
  | nil => simp at hi
  | cons p r ih =>
    cases i with
    | zero => simp [List.countP_cons]; omega
    | succ i =>
      have := ih i (by simpa using hi)
      simp only [List.set_cons_succ, List.countP_cons, List.getD_cons_succ] at this ⊢
      omega

/-- Take: which slot, with which generation, and what then is. -/
def takeA (A : AS) : Option (Nat × Nat × AS) :=
  match A.waiting.getLast? with
  | some i => some (i, (A.used.getD i (0, false)).1 + 1, ⟨A.cap, A.most, A.used.set i ((A.used.getD i (0, false)).1 + 1, true), A.waiting.dropLast, A.live + 1⟩)
  | none => if A.used.length < A.cap then some (A.used.length, 1, ⟨A.cap, A.most, A.used ++ [(1, true)], A.waiting, A.live + 1⟩) else none
/-- Give of a live handle. -/
def giveA (A : AS) (s g : Nat) : AS := ⟨A.cap, A.most, A.used.set s (g, false), if g = A.most then A.waiting else A.waiting ++ [s], A.live - 1⟩
def usableN (A : AS) : Nat := A.waiting.length + (A.cap - A.used.length)

theorem take_cases (A : AS) : (∃ ws i, A.waiting = ws ++ [i] ∧ takeA A = some (i, (A.used.getD i (0, false)).1 + 1, ⟨A.cap, A.most, A.used.set i ((A.used.getD i (0, false)).1 + 1, true), ws, A.live + 1⟩)) ∨
    (A.waiting = [] ∧ A.used.length < A.cap ∧ takeA A = some (A.used.length, 1, ⟨A.cap, A.most, A.used ++ [(1, true)], [], A.live + 1⟩)) ∨ (A.waiting = [] ∧ A.cap ≤ A.used.length ∧ takeA A = none) := by
  rcases List.eq_nil_or_concat A.waiting with h | ⟨ws, i, h⟩
  · by_cases hc : A.used.length < A.cap
    · exact Or.inr (Or.inl ⟨h, hc, by simp [takeA, h, hc]⟩)
    · exact Or.inr (Or.inr ⟨h, by omega, by simp [takeA, h, hc]⟩)
  · rw [List.concat_eq_append] at h
    exact Or.inl ⟨ws, i, h, by simp [takeA, h]⟩

theorem take_fit {A A' : AS} {i g : Nat} (hA : A.Fit) (h : takeA A = some (i, g, A')) : A'.Fit ∧ A'.cap = A.cap ∧ A'.most = A.most ∧ A'.live = A.live + 1 ∧ usableN A = usableN A' + 1 ∧ i < A'.used.length ∧ A'.used.getD i (0, false) = (g, true) ∧ liveB A i g = false ∧ 1 ≤ g := by
  rcases take_cases A with ⟨ws, k, hw, ht⟩ | ⟨hw, hc, ht⟩ | ⟨_, _, ht⟩
  · rw [ht] at h
    simp only [Option.some.injEq, Prod.mk.injEq] at h
    obtain ⟨rfl, rfl, rfl⟩ := h
    have hk := hA.waits k (by rw [hw]; simp)
    have hnd := hA.nodup
    rw [hw] at hnd
    have hnk : k ∉ ws := by
      have := List.nodup_append.1 hnd
      intro hm
      exact this.2.2 k hm k (by simp) rfl
    refine ⟨⟨hA.cap, hA.most, by simpa using hA.used, (List.nodup_append.1 hnd).1, ?_, fun j hj => ?_, fun j hj => ?_, fun j hj h1 h2 => ?_⟩, rfl, rfl, rfl, ?_, by simpa using hk.1, ?_, ?_, by omega⟩
    · have := count_set A.used k ((A.used.getD k (0, false)).1 + 1) true hk.1
      rw [hk.2.1] at this
      have := hA.live
      simp at *
      omega
    · simp only [List.length_set] at hj
      rw [getD_set _ _ _ _ _ hk.1]
      split
      · have := hk.2.2
        exact ⟨Nat.le_add_left 1 _, this⟩
      · exact hA.gen j hj
    · have hj' := hA.waits j (by rw [hw]; simp [hj])
      rw [getD_set _ _ _ _ _ hk.1, if_neg (show ¬ k = j from fun e => hnk (e ▸ hj))]
      simpa using hj'
    · simp only [List.length_set] at hj
      rw [getD_set _ _ _ _ _ hk.1] at h1 h2
      split at h1
      · simp at h1
      · rename_i hne
        rw [if_neg hne] at h2
        have := hA.all j hj h1 h2
        rw [hw] at this
        simp at this
        rcases this with h | h
        · exact h
        · exact absurd h.symm hne
    · simp only [usableN, hw, List.length_set, List.length_append, List.length_cons, List.length_nil]; omega
    · rw [getD_set _ _ _ _ _ hk.1, if_pos rfl]
    · simp only [liveB, Int.toNat_natCast, hk.2.1, Bool.and_false]
  · rw [ht] at h
    simp only [Option.some.injEq, Prod.mk.injEq] at h
    obtain ⟨rfl, rfl, rfl⟩ := h
    have hm := hA.most
    refine ⟨⟨hA.cap, hA.most, by simp; omega, by simp, ?_, fun j hj => ?_, fun j hj => by simp at hj, fun j hj h1 h2 => ?_⟩, rfl, rfl, rfl, ?_, by simp, ?_, ?_, by omega⟩
    · have := hA.live
      simp [List.countP_append, this]
    · rw [getD_snoc]
      split
      · exact ⟨Nat.le_refl _, hm.1⟩
      · exact hA.gen j (by simp at hj; omega)
    · rw [getD_snoc] at h1 h2
      split at h1
      · simp at h1
      · rename_i hne
        rw [if_neg hne] at h2
        have := hA.all j (by simp at hj; omega) h1 h2
        rw [hw] at this
        simp at this
    · simp only [usableN, hw, List.length_append, List.length_cons, List.length_nil]; omega
    · rw [getD_snoc, if_pos rfl]
    · simp [liveB, hasB]
  · rw [ht] at h; cases h
theorem take_none {A : AS} (hA : A.Fit) : takeA A = none ↔ usableN A = 0 := by
  have := hA.used
  rcases take_cases A with ⟨ws, k, hw, ht⟩ | ⟨hw, hc, ht⟩ | ⟨hw, hc, ht⟩
  · simp [ht, usableN, hw]
  · simp [ht, usableN, hw]; omega
  · simp [ht, usableN, hw]; omega

theorem live_at {A : AS} {s g : Int} (h : liveB A s g = true) : ∃ i k : Nat, s = i ∧ g = k ∧ i < A.used.length ∧ A.used.getD i (0, false) = (k, true) := by
  simp only [liveB, hasB, Bool.and_eq_true, decide_eq_true_eq, beq_iff_eq] at h
  obtain ⟨⟨h1, h2⟩, h3, h4⟩ := h
  refine ⟨s.toNat, (A.used.getD s.toNat (0, false)).1, by omega, h3.symm, by omega, ?_⟩
  rw [← h4]
theorem live_of {A : AS} {i k : Nat} (hi : i < A.used.length) (h : A.used.getD i (0, false) = (k, true)) : liveB A i k = true := by
  simp only [liveB, hasB, Int.toNat_natCast, h]
  simp [hi]
theorem give_fit {A : AS} {i g : Nat} (hA : A.Fit) (hi : i < A.used.length) (h : A.used.getD i (0, false) = (g, true)) : (giveA A i g).Fit ∧ (giveA A i g).live + 1 = A.live ∧ usableN (giveA A i g) = usableN A + (if g = A.most then 0 else 1) := by
  have hg := hA.gen i hi
  rw [h] at hg
  simp only at hg
  have hni : i ∉ A.waiting := fun hm => by have := (hA.waits i hm).2.1; rw [h] at this; simp at this
  have hc := count_set A.used i g false hi
  rw [h] at hc
  simp only [if_true] at hc
  have hl := hA.live
  refine ⟨⟨hA.cap, hA.most, by simpa [giveA] using hA.used, ?_, ?_, fun j hj => ?_, fun j hj => ?_, fun j hj h1 h2 => ?_⟩, ?_, ?_⟩
  · simp only [giveA]
    split
    · exact hA.nodup
    · rw [List.nodup_append]
      exact ⟨hA.nodup, by simp, fun a ha b hb => by simp at hb; subst hb; exact fun e => hni (e ▸ ha)⟩
  · simp only [giveA]; simp at hc; omega
  · simp only [giveA, List.length_set] at hj ⊢
    rw [getD_set _ _ _ _ _ hi]
    split
    · exact hg
    · exact hA.gen j hj
  · simp only [giveA, List.length_set] at hj ⊢
    rw [getD_set _ _ _ _ _ hi]
    by_cases hm : g = A.most
    · rw [if_pos hm] at hj
      rw [if_neg (show ¬ i = j from fun e => hni (e ▸ hj))]
      exact hA.waits j hj
    · rw [if_neg hm] at hj
      simp only [List.mem_append, List.mem_singleton] at hj
      rcases hj with hj | hj
      · rw [if_neg (show ¬ i = j from fun e => hni (e ▸ hj))]
        exact hA.waits j hj
      · subst hj
        rw [if_pos rfl]
        exact ⟨hi, rfl, by simp; omega⟩
  · simp only [giveA, List.length_set] at hj h1 h2 ⊢
    rw [getD_set _ _ _ _ _ hi] at h1 h2
    by_cases he : i = j
    · subst he
      rw [if_pos rfl] at h2
      simp only at h2
      rw [if_neg (by omega)]
      simp
    · rw [if_neg he] at h1 h2
      have := hA.all j hj h1 h2
      split
      · exact this
      · simp [this]
  · simp only [giveA]; simp at hc; omega
  · simp only [giveA, usableN, List.length_set]
    split <;> simp <;> omega
end Go.Proofs.Ytahpalfdeghdmaa
