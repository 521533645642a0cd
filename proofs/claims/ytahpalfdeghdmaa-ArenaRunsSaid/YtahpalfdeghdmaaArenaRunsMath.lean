/- The document's arena, which keeps what was taken and what was given back, and the program's: plain data alone. -/
import Derived.Test.YtahpalfdeghdmaaArenaOnceMath
namespace Go.Proofs.Ytahpalfdeghdmaa

def hasH (l : List (Nat × Nat)) (s g : Int) : Bool := l.any fun x => (x.1 : Int) == s && (x.2 : Int) == g
def lastH (l : List (Nat × Nat)) (s : Int) : Nat := l.foldl (fun a x => if (x.1 : Int) = s then x.2 else a) 0
def freshH (l : List (Nat × Nat)) : Nat := l.countP fun x => x.2 == 1
def waitB (m : Nat) (T : List (Nat × Nat)) (h : Nat × Nat) : Bool := decide (h.2 < m) && lastH T h.1 == h.2
def waitsH (m : Nat) (T G : List (Nat × Nat)) : List Nat := (G.reverse.filter (waitB m T)).map (·.1)
def atH (T G : List (Nat × Nat)) (s : Int) : Option (Nat × Nat) := T.find? fun h => (h.1 : Int) == s && !hasH G h.1 h.2

theorem hasH_mem (l : List (Nat × Nat)) (s g : Nat) : hasH l s g = true ↔ (s, g) ∈ l := by
  simp only [hasH, List.any_eq_true, Bool.and_eq_true, beq_iff_eq]
  constructor
  · rintro ⟨x, hx, h1, h2⟩
    have : x = (s, g) := Prod.ext (by simp only; omega) (by simp only; omega)
    exact this ▸ hx
  · intro h
    exact ⟨(s, g), h, rfl, rfl⟩
theorem hasH_nat (l : List (Nat × Nat)) (s g : Int) (h : hasH l s g = true) : ∃ i k : Nat, s = i ∧ g = k := by
  simp only [hasH, List.any_eq_true, Bool.and_eq_true, beq_iff_eq] at h
  obtain ⟨x, _, h1, h2⟩ := h
  exact ⟨x.1, x.2, h1.symm, h2.symm⟩
theorem lastH_snoc (l : List (Nat × Nat)) (x : Nat × Nat) (s : Int) : lastH (l ++ [x]) s = if (x.1 : Int) = s then x.2 else lastH l s := by simp [lastH, List.foldl_append]
theorem freshH_snoc (l : List (Nat × Nat)) (x : Nat × Nat) : freshH (l ++ [x]) = freshH l + (if x.2 = 1 then 1 else 0) := by
  simp only [freshH, List.countP_append, List.countP_cons, List.countP_nil, beq_iff_eq]; omega
theorem hasH_snoc (l : List (Nat × Nat)) (x : Nat × Nat) (s g : Int) : hasH (l ++ [x]) s g = (hasH l s g || ((x.1 : Int) == s && (x.2 : Int) == g)) := by simp [hasH]

structure Sim (A : AS) (T G : List (Nat × Nat)) : Prop where
  fit : A.Fit
  fresh : freshH T = A.used.length
  last : ∀ s : Nat, lastH T s = (A.used.getD s (0, false)).1
  mem : ∀ s g : Nat, (s, g) ∈ T ↔ s < A.used.length ∧ 1 ≤ g ∧ g ≤ (A.used.getD s (0, false)).1
  giv : ∀ s g : Nat, (s, g) ∈ G ↔ (s, g) ∈ T ∧ A.used.getD s (0, false) ≠ (g, true)
  wait : waitsH A.most T G = A.waiting.reverse
  cnt : T.length = G.length + A.live

theorem sim_start (n m : Nat) (hn : n ≤ 65536) (hm : 1 ≤ m ∧ m ≤ 4294967295) : Sim ⟨n, m, [], [], 0⟩ [] [] :=
  ⟨⟨hn, hm, by simp, by simp, by simp, by simp, by simp, by simp⟩, rfl, by simp [lastH], by simp, by simp, by simp [waitsH], rfl⟩
theorem sim_live {A : AS} {T G : List (Nat × Nat)} (h : Sim A T G) (s g : Int) : (hasH T s g && !hasH G s g) = liveB A s g := by
  rw [Bool.eq_iff_iff]
  constructor
  · intro hx
    simp only [Bool.and_eq_true, Bool.not_eq_true'] at hx
    obtain ⟨h1, h2⟩ := hx
    obtain ⟨i, k, rfl, rfl⟩ := hasH_nat T s g h1
    have hT := (hasH_mem T i k).1 h1
    have hG : (i, k) ∉ G := fun hm => by rw [(hasH_mem G i k).2 hm] at h2; cases h2
    have hi := ((h.mem i k).1 hT).1
    have : A.used.getD i (0, false) = (k, true) := Classical.byContradiction fun hne => hG ((h.giv i k).2 ⟨hT, hne⟩)
    exact live_of hi this
  · intro hl
    obtain ⟨i, k, rfl, rfl, hi, hg⟩ := live_at hl
    have hgen := h.fit.gen i hi
    rw [hg] at hgen
    have hT : (i, k) ∈ T := (h.mem i k).2 ⟨hi, hgen.1, by rw [hg]; exact Nat.le_refl _⟩
    have hG : (i, k) ∉ G := fun hm => ((h.giv i k).1 hm).2 hg
    simp only [Bool.and_eq_true, Bool.not_eq_true']
    refine ⟨(hasH_mem T i k).2 hT, ?_⟩
    cases hh : hasH G i k
    · rfl
    · exact absurd ((hasH_mem G i k).1 hh) hG
theorem sim_at {A : AS} {T G : List (Nat × Nat)} (h : Sim A T G) (s : Int) : atH T G s = if hasB s A.used.length && (A.used.getD s.toNat (0, false)).2 then some (s.toNat, (A.used.getD s.toNat (0, false)).1) else none := by
  by_cases hc : (hasB s A.used.length && (A.used.getD s.toNat (0, false)).2) = true
  · rw [if_pos hc]
    simp only [hasB, Bool.and_eq_true, decide_eq_true_eq] at hc
    obtain ⟨i, rfl⟩ : ∃ i : Nat, s = i := ⟨s.toNat, by omega⟩
    simp only [Int.toNat_natCast] at *
    have hg : A.used.getD i (0, false) = ((A.used.getD i (0, false)).1, true) := by rw [← hc.2]
    have hlv := live_of (by omega : i < A.used.length) hg
    rw [← sim_live h] at hlv
    simp only [Bool.and_eq_true, Bool.not_eq_true'] at hlv
    cases hf : atH T G i with
    | none =>
      unfold atH at hf
      rw [List.find?_eq_none] at hf
      have := hf _ ((hasH_mem T i _).1 hlv.1)
      simp only [beq_self_eq_true, Bool.true_and, Bool.not_eq_true', hlv.2] at this
      exact absurd trivial this
    | some x =>
      unfold atH at hf
      have h1 := List.find?_some hf
      have h2 := List.mem_of_find?_eq_some hf
      simp only [Bool.and_eq_true, beq_iff_eq, Bool.not_eq_true'] at h1
      have hx1 : x.1 = i := by omega
      have hl2 : liveB A x.1 x.2 = true := by
        rw [← sim_live h]
        simp only [Bool.and_eq_true, Bool.not_eq_true']
        exact ⟨(hasH_mem T x.1 x.2).2 h2, h1.2⟩
      obtain ⟨i', k', e1, e2, hi', hg'⟩ := live_at hl2
      obtain rfl : i = i' := by omega
      obtain rfl : x.2 = k' := by omega
      rw [hg']
      exact congrArg some (Prod.ext hx1 rfl)
  · rw [if_neg hc]
    cases hf : atH T G s with
    | none => rfl
    | some x =>
      exfalso
      apply hc
      unfold atH at hf
      have h1 := List.find?_some hf
      have h2 := List.mem_of_find?_eq_some hf
      simp only [Bool.and_eq_true, beq_iff_eq, Bool.not_eq_true'] at h1
      have hl2 : liveB A x.1 x.2 = true := by
        rw [← sim_live h]
        simp only [Bool.and_eq_true, Bool.not_eq_true']
        exact ⟨(hasH_mem T x.1 x.2).2 h2, h1.2⟩
      rw [← h1.1]
      simp only [liveB, Bool.and_eq_true] at hl2
      simp only [Bool.and_eq_true]
      exact ⟨hl2.1, hl2.2.2⟩
theorem sim_usable {A : AS} {T G : List (Nat × Nat)} (h : Sim A T G) : (waitsH A.most T G).length + A.cap = usableN A + freshH T := by
  rw [h.wait, h.fresh, List.length_reverse]
  have := h.fit.used
  unfold usableN
  omega
theorem filter_fst {l : List (Nat × Nat)} {p q : Nat × Nat → Bool} {i : Nat} (h : ∀ x ∈ l, q x = (p x && decide (x.1 ≠ i))) : (l.filter q).map (·.1) = ((l.filter p).map (·.1)).filter (fun n => decide (n ≠ i)) := by
  induction l with
  | nil => rfl
  | cons a r ih =>
    have ha := h a (List.mem_cons_self ..)
    have hr := ih (fun x hx => h x (List.mem_cons_of_mem _ hx))
    simp only [List.filter_cons, ha]
    cases hp : p a
    · simp only [Bool.false_and, if_false, Bool.false_eq_true]; exact hr
    · by_cases hn : a.1 = i
      · simp only [hn, ne_eq, not_true, decide_false, Bool.and_false, Bool.false_eq_true, if_false, if_true, List.map_cons, List.filter_cons]
        simpa using hr
      · simp only [ne_eq, hn, not_false_eq_true, decide_true, Bool.and_true, if_true, List.map_cons, List.filter_cons]
        rw [hr]
theorem sim_take {A A' : AS} {T G : List (Nat × Nat)} {s g : Nat} (h : Sim A T G) (ht : takeA A = some (s, g, A')) : Sim A' (T ++ [(s, g)]) G := by
  obtain ⟨hf, hc, hmo, hl, hu, hs, hget, hdead, hg1⟩ := take_fit h.fit ht
  have hlast : ∀ j : Nat, lastH (T ++ [(s, g)]) j = if s = j then g else lastH T j := fun j => by
    rw [lastH_snoc]
    by_cases he : s = j
    · subst he; simp
    · rw [if_neg he, if_neg (by simp only; omega)]
  rcases take_shape h.fit ht with ⟨h1, h2, h3, h4, h5⟩ | ⟨h1, h2, h3, h4, h6⟩
  · -- one that waited
    have hgen := h.fit.gen s h1
    have hget' : ∀ j, A'.used.getD j (0, false) = if s = j then (g, true) else A.used.getD j (0, false) := fun j => by rw [h2, getD_set _ _ _ _ _ h1]
    have hw : ∃ ws, A.waiting = ws ++ [s] ∧ A'.waiting = ws := by
      rcases take_cases A with ⟨ws, k, hw, ht'⟩ | ⟨hw, hc', ht'⟩ | ⟨_, _, ht'⟩
      · rw [ht'] at ht
        simp only [Option.some.injEq, Prod.mk.injEq] at ht
        obtain ⟨rfl, _, rfl⟩ := ht
        exact ⟨ws, hw, rfl⟩
      · rw [ht'] at ht
        simp only [Option.some.injEq, Prod.mk.injEq] at ht
        omega
      · rw [ht'] at ht; cases ht
    obtain ⟨ws, hw1, hw2⟩ := hw
    refine ⟨hf, ?_, fun j => ?_, fun j k => ?_, fun j k => ?_, ?_, ?_⟩
    · rw [freshH_snoc, if_neg (by simp only; omega), h2, List.length_set]; exact h.fresh
    · rw [hlast, hget']
      split
      · rfl
      · exact h.last j
    · rw [List.mem_append, List.mem_singleton, Prod.mk.injEq, h.mem, hget', h2, List.length_set]
      by_cases he : s = j
      · subst he; simp only [if_true, true_and]; omega
      · rw [if_neg he]; constructor
        · rintro (hx | hx)
          · exact hx
          · exact absurd hx.1.symm he
        · exact Or.inl
    · rw [h.giv, List.mem_append, List.mem_singleton, Prod.mk.injEq, hget']
      by_cases he : s = j
      · subst he
        simp only [if_true, true_and, ne_eq, Prod.mk.injEq, and_true]
        have hne : ¬ A.used.getD s (0, false) = (k, true) := fun e => by rw [e] at h3; cases h3
        constructor
        · rintro ⟨hx, _⟩
          have := ((h.mem s k).1 hx).2.2
          exact ⟨Or.inl hx, by omega⟩
        · rintro ⟨hx | hx, hy⟩
          · exact ⟨hx, hne⟩
          · exact absurd hx.symm hy
      · rw [if_neg he]
        constructor
        · rintro ⟨hx, hy⟩; exact ⟨Or.inl hx, hy⟩
        · rintro ⟨hx | hx, hy⟩
          · exact ⟨hx, hy⟩
          · exact absurd hx.1.symm he
    · rw [hmo, hw2]
      have hnd := h.fit.nodup
      rw [hw1, List.nodup_append] at hnd
      have hnot : s ∉ ws := fun hm => hnd.2.2 s hm s (by simp) rfl
      have := filter_fst (l := G.reverse) (p := waitB A.most T) (q := waitB A.most (T ++ [(s, g)])) (i := s) (fun x hx => by
        have hxG : (x.1, x.2) ∈ G := by simpa using hx
        have hxT := ((h.mem x.1 x.2).1 ((h.giv x.1 x.2).1 hxG).1).2.2
        unfold waitB
        rw [hlast]
        by_cases he : x.1 = s
        · rw [if_pos he.symm]
          rw [he] at hxT
          have : ¬ g = x.2 := by omega
          simp [he, this]
        · rw [if_neg (fun e => he e.symm)]
          simp [he])
      unfold waitsH
      rw [this]
      have hwt := h.wait
      unfold waitsH at hwt
      rw [hwt, hw1, List.reverse_append]
      simp only [List.reverse_cons, List.reverse_nil, List.nil_append, List.singleton_append, List.filter_cons, ne_eq, not_true, decide_false, Bool.false_eq_true, if_false]
      rw [List.filter_eq_self]
      intro a ha
      simp only [decide_not, Bool.not_eq_true', decide_eq_false_iff_not]
      exact fun e => hnot (by rw [← e]; simpa using ha)
    · rw [List.length_append]; have := h.cnt; simp only [List.length_cons, List.length_nil]; omega
  · -- a new one
    subst h4
    have hget' : ∀ j, A'.used.getD j (0, false) = if s = j then (1, true) else A.used.getD j (0, false) := fun j => by
      rw [h3, getD_snoc]
      by_cases he : s = j
      · rw [if_pos he, if_pos (by omega)]
      · rw [if_neg he, if_neg (by omega)]
    have hz : A.used.getD s (0, false) = (0, false) := by simp [List.getD_eq_getElem?_getD, h1]
    have hnT : ∀ k, (s, k) ∉ T := fun k hm => by have := ((h.mem s k).1 hm).1; omega
    have hlen : A'.used.length = A.used.length + 1 := by rw [h3]; simp
    have hw2 : A'.waiting = [] := by
      rcases take_cases A with ⟨ws, k, hw, ht'⟩ | ⟨hw, hc', ht'⟩ | ⟨_, _, ht'⟩
      · rw [hw] at h6; simp at h6
      · rw [ht'] at ht
        simp only [Option.some.injEq, Prod.mk.injEq] at ht
        obtain ⟨_, _, rfl⟩ := ht
        rfl
      · rw [ht'] at ht; cases ht
    refine ⟨hf, ?_, fun j => ?_, fun j k => ?_, fun j k => ?_, ?_, ?_⟩
    · rw [freshH_snoc, if_pos rfl, hlen]; have := h.fresh; omega
    · rw [hlast, hget']
      split
      · rfl
      · exact h.last j
    · rw [List.mem_append, List.mem_singleton, Prod.mk.injEq, h.mem, hget', hlen]
      by_cases he : s = j
      · subst he; rw [if_pos rfl]; simp only [hz, true_and]; omega
      · rw [if_neg he]; constructor
        · rintro (hx | hx)
          · exact ⟨by omega, hx.2⟩
          · exact absurd hx.1.symm he
        · rintro ⟨hx, hy⟩; exact Or.inl ⟨by omega, hy⟩
    · rw [h.giv, List.mem_append, List.mem_singleton, Prod.mk.injEq, hget']
      by_cases he : s = j
      · subst he
        rw [if_pos rfl]
        constructor
        · rintro ⟨hx, _⟩; exact absurd hx (hnT k)
        · rintro ⟨hx | hx, hy⟩
          · exact absurd hx (hnT k)
          · exact absurd (by rw [hx.2]) hy
      · rw [if_neg he]
        constructor
        · rintro ⟨hx, hy⟩; exact ⟨Or.inl hx, hy⟩
        · rintro ⟨hx | hx, hy⟩
          · exact ⟨hx, hy⟩
          · exact absurd hx.1.symm he
    · rw [hmo, hw2]
      have hwt := h.wait
      rw [h6] at hwt
      unfold waitsH at *
      rw [List.reverse_nil] at *
      rw [List.map_eq_nil_iff] at *
      rw [List.filter_eq_nil_iff] at *
      intro x hx
      have hxG : (x.1, x.2) ∈ G := by simpa using hx
      have hxT := ((h.mem x.1 x.2).1 ((h.giv x.1 x.2).1 hxG).1).1
      have := hwt x hx
      unfold waitB at *
      rw [hlast, if_neg (by omega)]
      exact this
    · rw [List.length_append]; have := h.cnt; simp only [List.length_cons, List.length_nil]; omega
theorem sim_give {A : AS} {T G : List (Nat × Nat)} {s g : Nat} (h : Sim A T G) (hi : s < A.used.length) (hg : A.used.getD s (0, false) = (g, true)) : Sim (giveA A s g) T (G ++ [(s, g)]) := by
  have gf := give_fit h.fit hi hg
  have hgen := h.fit.gen s hi
  rw [hg] at hgen
  simp only at hgen
  have hget' : ∀ j, (giveA A s g).used.getD j (0, false) = if s = j then (g, false) else A.used.getD j (0, false) := fun j => by simp only [giveA]; rw [getD_set _ _ _ _ _ hi]
  have hlen : (giveA A s g).used.length = A.used.length := by simp [giveA]
  have hlast := h.last s
  rw [hg] at hlast
  simp only at hlast
  refine ⟨gf.1, by rw [hlen]; exact h.fresh, fun j => ?_, fun j k => ?_, fun j k => ?_, ?_, ?_⟩
  · rw [hget', h.last]
    split
    · rename_i e; rw [← e, hg]
    · rfl
  · rw [h.mem, hget', hlen]
    by_cases he : s = j
    · subst he; rw [if_pos rfl, hg]
    · rw [if_neg he]
  · rw [List.mem_append, List.mem_singleton, Prod.mk.injEq, h.giv, hget']
    by_cases he : s = j
    · subst he
      rw [if_pos rfl, hg]
      simp only [ne_eq, Prod.mk.injEq, and_true, true_and, Bool.false_eq_true, and_false, not_false_eq_true]
      constructor
      · rintro (hx | hx)
        · exact hx.1
        · rw [hx]; exact (h.mem s g).2 ⟨hi, hgen.1, by rw [hg]; exact Nat.le_refl _⟩
      · intro hx
        by_cases hk : k = g
        · exact Or.inr hk
        · exact Or.inl ⟨hx, fun e => hk e.symm⟩
    · rw [if_neg he]
      constructor
      · rintro (hx | hx)
        · exact hx
        · exact absurd hx.1.symm he
      · exact Or.inl
  · have hwt := h.wait
    have hb : waitB A.most T (s, g) = decide (g < A.most) := by simp [waitB, hlast]
    show waitsH A.most T (G ++ [(s, g)]) = _
    unfold waitsH at *
    rw [List.reverse_append]
    simp only [List.reverse_cons, List.reverse_nil, List.nil_append, List.singleton_append, List.filter_cons, hb, decide_eq_true_eq]
    by_cases hm : g = A.most
    · rw [if_neg (by omega), hwt]; simp [giveA, hm]
    · rw [if_pos (by omega), List.map_cons, hwt]; simp [giveA, hm]
  · rw [List.length_append]; have := h.cnt; have := gf.2.1; simp only [List.length_cons, List.length_nil]; omega
end Go.Proofs.Ytahpalfdeghdmaa
