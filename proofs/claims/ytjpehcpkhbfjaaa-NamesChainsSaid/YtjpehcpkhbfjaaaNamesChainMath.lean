/- A chain of joins, from either end, as plain data. No program is named here. -/
import Derived.Test.YtjpehcpkhbfjaaaNamesMath
namespace Go.Proofs.Ytjpehcpkhbfjaaa

def chainF (up : Bool) (k i x : Nat) : Nat := if up then (if 1 ≤ x ∧ x ≤ i then i else x) else (if k + 1 - i ≤ x then k + 1 - i else x)
/-- So many were made, and so many (less one) joined. -/
def chainN (up : Bool) (k i : Nat) : NS := ⟨k, (List.range (k + 1)).map (chainF up k i), k + 1 - i⟩
theorem chain_len (up : Bool) (k i : Nat) : (chainN up k i).roots.length = k + 1 := by simp [chainN]
theorem chain_at (up : Bool) (k i x : Nat) (hx : x ≤ k) : (chainN up k i).at x = chainF up k i x := by
  unfold NS.at chainN
  simp only
  rw [getD_mapf (chainF up k i) (List.range (k + 1)) x 0 0 (by simp; omega)]
  congr 1
  simp [List.getD_eq_getElem?_getD, show x < k + 1 by omega]
theorem ext_getD {a b : List Nat} (h : a.length = b.length) (hh : ∀ i, i < a.length → a.getD i 0 = b.getD i 0) : a = b := by
  apply List.ext_getElem? 
  intro i
  by_cases hi : i < a.length
  · have := hh i hi
    simp only [List.getD_eq_getElem?_getD] at this
    rw [List.getElem?_eq_getElem hi, List.getElem?_eq_getElem (h ▸ hi)] at this ⊢
    simpa using this
  · rw [List.getElem?_eq_none (by omega), List.getElem?_eq_none (by omega)]
theorem chain_start (up : Bool) (k : Nat) (hk : 1 ≤ k) : (⟨k, List.range (k + 1), k⟩ : NS) = chainN up k 1 := by
  have h : (List.range (k + 1)) = (List.range (k + 1)).map (chainF up k 1) := by
    refine ext_getD (by simp) fun i hi => ?_
    simp only [List.length_range] at hi
    rw [getD_mapf (chainF up k 1) (List.range (k + 1)) i 0 0 (by simp; omega)]
    have : (List.range (k + 1)).getD i 0 = i := by simp [List.getD_eq_getElem?_getD, hi]
    rw [this]
    cases up <;> simp only [chainF]
    · simp only [Bool.false_eq_true, if_false]; split <;> omega
    · simp only [if_true]; split <;> omega
  unfold chainN
  rw [← h]
  rfl
theorem chain_has (up : Bool) (k i x : Nat) (h1 : 1 ≤ x) (hx : x ≤ k) (e : chainF up k i x = x) : hasB (chainN up k i) x = true :=
  has_of h1 (by rw [chain_len]; omega) (by rw [chain_at _ _ _ _ hx]; exact e)
theorem chain_join (up : Bool) (k i a b : Nat) (hi : 1 ≤ i ∧ i < k) (hab : if up then a = i + 1 ∧ b = i else a + i = k ∧ b = a + 1) :
    joinB (chainN up k i) a b = true ∧ afterJ (chainN up k i) a b = chainN up k (i + 1) := by
  obtain ⟨hi1, hi2⟩ := hi
  have h0 : 1 ≤ a ∧ a ≤ k ∧ 1 ≤ b ∧ b ≤ k ∧ a ≠ b := by cases up <;> simp at hab <;> omega
  have ha : chainF up k i a = a := by cases up <;> simp at hab <;> simp [chainF] <;> omega
  have hb : chainF up k i b = b := by cases up <;> simp at hab <;> simp [chainF] <;> omega
  have hj : joinB (chainN up k i) a b = true := by
    simp only [joinB, chain_has up k i a h0.1 h0.2.1 ha, chain_has up k i b h0.2.2.1 h0.2.2.2.1 hb, Bool.and_self, Bool.and_true, decide_eq_true_eq]
    omega
  refine ⟨hj, ?_⟩
  unfold afterJ
  rw [if_pos hj, Int.toNat_natCast, Int.toNat_natCast]
  have hr : (chainN up k i).roots.map (fun r => if r = b then a else r) = (chainN up k (i + 1)).roots := by
    refine ext_getD (by simp [chainN]) fun x hx => ?_
    rw [List.length_map, chain_len] at hx
    have h1 := join_at (chainN up k i) a b x (by rw [chain_len]; exact hx)
    have h2 := chain_at up k (i + 1) x (by omega)
    have h3 := chain_at up k i x (by omega)
    rw [h3] at h1
    unfold NS.at joinN at h1
    unfold NS.at at h2
    simp only at h1
    rw [h1, h2]
    cases up <;> simp only [chainF, Bool.false_eq_true, if_false, if_true] at hab ⊢
    · by_cases c1 : k + 1 - i ≤ x
      · rw [if_pos c1, if_pos (show k + 1 - (i + 1) ≤ x by omega), if_pos (by omega)]; omega
      · rw [if_neg c1, if_neg (by omega)]
        by_cases c2 : k + 1 - (i + 1) ≤ x
        · rw [if_pos c2]; omega
        · rw [if_neg c2]
    · by_cases c1 : 1 ≤ x ∧ x ≤ i
      · rw [if_pos c1, if_pos (by omega), if_pos (by omega)]; omega
      · rw [if_neg c1, if_neg (by omega)]
        by_cases c2 : 1 ≤ x ∧ x ≤ i + 1
        · rw [if_pos c2]; omega
        · rw [if_neg c2]
  unfold joinN
  rw [hr]
  have e : (chainN up k i).count - 1 = (chainN up k (i + 1)).count := by simp only [chainN]; omega
  rw [e]
  rfl
theorem chain_end (up : Bool) (k x : Nat) (h1 : 1 ≤ x) (hx : x ≤ k) : madeB (chainN up k k) x = true ∧ rootI (chainN up k k) x = if up then (k : Int) else 1 := by
  have hm : madeB (chainN up k k) x = true := by simp only [madeB, chain_len, decide_eq_true_eq]; omega
  refine ⟨hm, ?_⟩
  unfold rootI
  rw [if_pos hm, Int.toNat_natCast, chain_at _ _ _ _ hx]
  cases up <;> simp [chainF, h1, hx]
theorem chain_full (up : Bool) (k i : Nat) : canMake (chainN up k i) = false ∧ madeI (chainN up k i) = 0 ∧ afterM (chainN up k i) = chainN up k i := by
  have hc : canMake (chainN up k i) = false := by simp only [canMake, chain_len, decide_eq_false_iff_not]; show ¬ k + 1 ≤ k; omega
  refine ⟨hc, ?_, ?_⟩
  · unfold madeI; rw [hc]; rfl
  · unfold afterM; rw [hc]; rfl
end Go.Proofs.Ytjpehcpkhbfjaaa
