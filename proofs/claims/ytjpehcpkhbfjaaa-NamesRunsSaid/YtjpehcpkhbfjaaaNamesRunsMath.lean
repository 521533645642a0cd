/- The document's names as plain data: who was joined into whom, in order; beside the program's. No program is named here. -/
import Derived.Test.YtjpehcpkhbfjaaaNamesMath
namespace Go.Proofs.Ytjpehcpkhbfjaaa

def stepJ (i : Nat) (p : Nat × Nat) : Nat := if p.2 = i then p.1 else i
def rootJ (J : List (Nat × Nat)) (i : Nat) : Nat := J.foldl stepJ i
def anyJ (J : List (Nat × Nat)) (s : Int) : Bool := J.any fun p => (p.2 : Int) == s
def hasJ (J : List (Nat × Nat)) (last : Nat) (s : Int) : Bool := !(anyJ J s) && decide (1 ≤ s ∧ s ≤ last)
def rootJI (J : List (Nat × Nat)) (last : Nat) (s : Int) : Int := if 1 ≤ s ∧ s ≤ last then rootJ J s.toNat else 0
theorem rootJ_snoc (J : List (Nat × Nat)) (p : Nat × Nat) (i : Nat) : rootJ (J ++ [p]) i = stepJ (rootJ J i) p := by simp [rootJ]
theorem anyJ_snoc (J : List (Nat × Nat)) (p : Nat × Nat) (s : Int) : anyJ (J ++ [p]) s = (anyJ J s || (p.2 : Int) == s) := by simp [anyJ]
structure Sim (N : NS) (last : Nat) (J : List (Nat × Nat)) : Prop where
  fit : N.Fit
  len : N.roots.length = last + 1
  root : ∀ i, i ≤ last → N.at i = rootJ J i
  has : ∀ i : Nat, 1 ≤ i → i ≤ last → (N.at i = i ↔ anyJ J i = false)
  count : N.count + J.length = last
  old : ∀ p ∈ J, p.2 ≤ last
theorem sim_new {m : Nat} (h : m ≤ 65536) : Sim (newN m) 0 [] := by
  refine ⟨new_fit h, rfl, fun i hi => ?_, fun i h1 h2 => by omega, rfl, by simp⟩
  obtain rfl : i = 0 := by omega
  rfl
theorem sim_made {N : NS} {last : Nat} {J : List (Nat × Nat)} (h : Sim N last J) (s : Int) : madeB N s = decide (1 ≤ s ∧ s ≤ last) := by
  unfold madeB
  rw [h.len]
  congr 1
  apply propext
  omega
theorem sim_root {N : NS} {last : Nat} {J : List (Nat × Nat)} (h : Sim N last J) (s : Int) : rootI N s = rootJI J last s := by
  unfold rootI rootJI
  rw [sim_made h]
  by_cases hs : 1 ≤ s ∧ s ≤ last
  · rw [if_pos (by simpa using hs), if_pos hs, h.root _ (by omega)]
  · rw [if_neg (by simpa using hs), if_neg hs]
theorem sim_has {N : NS} {last : Nat} {J : List (Nat × Nat)} (h : Sim N last J) (s : Int) : hasB N s = hasJ J last s := by
  unfold hasB hasJ
  rw [sim_made h]
  by_cases hs : 1 ≤ s ∧ s ≤ last
  · obtain ⟨i, rfl⟩ : ∃ i : Nat, s = i := ⟨s.toNat, by omega⟩
    have hd : decide (1 ≤ (i : Int) ∧ (i : Int) ≤ last) = true := by simpa using hs
    have := h.has i (by omega) (by omega)
    rw [hd, Bool.true_and, Bool.and_true, Int.toNat_natCast]
    cases ha : anyJ J i
    · rw [this.2 ha]; simp
    · have : N.at i ≠ i := fun e => by rw [this.1 e] at ha; cases ha
      simp; omega
  · have hd : decide (1 ≤ s ∧ s ≤ last) = false := by simpa using hs
    rw [hd]; simp
theorem sim_make {N : NS} {last : Nat} {J : List (Nat × Nat)} (h : Sim N last J) : canMake N = decide (last < N.most) ∧ madeI N = (if last < N.most then ((last : Int) + 1) else 0) ∧ Sim (afterM N) (if last < N.most then last + 1 else last) J := by
  have hl := h.len
  have hc : canMake N = decide (last < N.most) := by unfold canMake; rw [hl]; congr 1
  by_cases hm : last < N.most
  · have hct : canMake N = true := by rw [hc]; simpa using hm
    refine ⟨hc, ?_, ?_⟩
    · unfold madeI; rw [if_pos hct, if_pos hm, hl]; omega
    · unfold afterM
      rw [if_pos hct, if_pos hm]
      have hstale : anyJ J ((last + 1 : Nat) : Int) = false := by
        unfold anyJ
        rw [List.any_eq_false]
        intro p hp
        have := h.old p hp
        simp; omega
      have hfix : rootJ J (last + 1) = last + 1 := by
        have : ∀ (K : List (Nat × Nat)), (∀ p ∈ K, p.2 ≤ last) → K.foldl stepJ (last + 1) = last + 1 := by
          intro K
          induction K with
          | nil => intro _; rfl
          | cons p r ih =>
            intro hK
            have h1 := hK p (List.mem_cons_self ..)
            rw [List.foldl_cons, show stepJ (last + 1) p = last + 1 from if_neg (by omega)]
            exact ih fun q hq => hK q (List.mem_cons_of_mem _ hq)
        exact this J h.old
      refine ⟨make_fit h.fit (by omega), by simp [makeN, hl], fun i hi => ?_, fun i h1 hi => ?_, ?_, fun p hp => by have := h.old p hp; omega⟩
      · rw [make_at, hl]
        split
        · rename_i e; subst e; exact hfix.symm
        · exact h.root i (by omega)
      · rw [make_at, hl]
        split
        · rename_i e; subst e; exact ⟨fun _ => hstale, fun _ => rfl⟩
        · exact h.has i h1 (by omega)
      · show N.count + 1 + J.length = _; have := h.count; omega
  · have hct : canMake N = false := by rw [hc]; simpa using hm
    refine ⟨hc, ?_, ?_⟩
    · unfold madeI; rw [hct, if_neg hm]; rfl
    · unfold afterM; rw [hct, if_neg hm]; exact h
theorem sim_joinB {N : NS} {last : Nat} {J : List (Nat × Nat)} (h : Sim N last J) (a b : Int) : joinB N a b = (decide (a ≠ b) && (hasJ J last a && hasJ J last b)) := by
  unfold joinB; rw [sim_has h, sim_has h]
theorem sim_join {N : NS} {last : Nat} {J : List (Nat × Nat)} (h : Sim N last J) {a b : Int} (hj : joinB N a b = true) : Sim (afterJ N a b) last (J ++ [(a.toNat, b.toNat)]) := by
  unfold afterJ
  rw [if_pos hj]
  obtain ⟨i, j, rfl, rfl, hij, hi, hj', ei, ej⟩ := joinB_at hj
  obtain ⟨hf, hc⟩ := join_fit h.fit hi hj' ei ej hij
  have hl := h.len
  simp only [Int.toNat_natCast]
  refine ⟨hf, by rw [join_len, hl], fun x hx => ?_, fun x h1 hx => ?_, ?_, fun p hp => ?_⟩
  · rw [join_at _ _ _ _ (by omega), rootJ_snoc, ← h.root x hx, stepJ]
    simp only [eq_comm]
  · rw [join_at _ _ _ _ (by omega), anyJ_snoc]
    have hh := h.has x h1 hx
    by_cases hxj : N.at x = j
    · rw [if_pos hxj]
      constructor
      · intro e; subst e; exact absurd (ei.symm.trans hxj) hij
      · intro e
        simp only [Bool.or_eq_false_iff, beq_eq_false_iff_ne, ne_eq, Int.natCast_inj] at e
        exact absurd (hxj.symm.trans (hh.2 e.1)) e.2
    · rw [if_neg hxj, hh]
      constructor
      · intro e
        simp only [e, Bool.false_or, beq_eq_false_iff_ne, ne_eq, Int.natCast_inj]
        intro e2
        exact hxj ((hh.2 e).trans e2.symm)
      · intro e
        simp only [Bool.or_eq_false_iff] at e
        exact e.1
  · have := h.count
    rw [List.length_append, List.length_singleton]; omega
  · rw [List.mem_append] at hp
    rcases hp with hp | hp
    · exact h.old p hp
    · obtain rfl := List.mem_singleton.1 hp
      simp only; omega
theorem sim_noJoin {N : NS} {last : Nat} {J : List (Nat × Nat)} (h : Sim N last J) {a b : Int} (hj : joinB N a b = false) : Sim (afterJ N a b) last J := by
  unfold afterJ; rw [hj]; exact h
theorem sim_last {N : NS} {last : Nat} {J : List (Nat × Nat)} (h : Sim N last J) : (N.roots.length : Int) - 1 = last := by rw [h.len]; omega
theorem sim_count {N : NS} {last : Nat} {J : List (Nat × Nat)} (h : Sim N last J) : (N.count : Int) = (last : Int) - J.length := by have := h.count; omega
theorem sim_lastLe {N : NS} {last : Nat} {J : List (Nat × Nat)} (h : Sim N last J) : last ≤ N.most := by have := h.len; have := h.fit.len; omega
theorem most_afterM (N : NS) : (afterM N).most = N.most := by unfold afterM; split <;> rfl
theorem most_afterJ (N : NS) (a b : Int) : (afterJ N a b).most = N.most := by unfold afterJ; split <;> rfl
end Go.Proofs.Ytjpehcpkhbfjaaa
