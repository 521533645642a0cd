/- The document's answers for layer 2, as plain functions of numbers; of the number of binary digits what the walks need. No program is named here. -/
import Derived.Lib.BitFns
import Derived.Lib.ItoaNum
import Derived.Lib.Hide
import GoSem.ClaimJoined
namespace Go.Proofs.Ytehoejoeoaimjaa

def fitsB (k d : Int) : Bool := (k == 2 && decide (2 ≤ d) && decide (d ≤ 16)) || (k != 2 && d == 0)
def checkI (k d : Int) : Int := if k < 1 then 21 else if 8 < k then 21 else if fitsB k d then 0 else 22
def arityI (k d : Int) : Int := if checkI k d = 0 then (if k = 1 then 2 else if k = 2 then d else 0) else 0
def bitsI (n : Int) : Int := (Lib.bitLen n.toNat : Int)
def nearI (n : Int) : Int := if n < 0 then 0 else if 1099511627776 < n then 1099511627776 else n
def callI (k d : Int) : Int := if checkI k d = 0 then (if k = 1 then 2 else if k = 2 then d else if k = 3 ∨ k = 6 ∨ k = 8 then 4 else 0) else 0
def wholeFI (k d : Int) : Int := if checkI k d = 0 then (if k = 4 ∨ k = 5 ∨ k = 7 then 16 else 0) else 0
def limitI (k d m : Int) : Int := callI k d * (2 + bitsI (nearI m))
def wholeI (k d n : Int) : Int := wholeFI k d * nearI n * (2 + bitsI (nearI n))

theorem check_cases (k d : Int) : (checkI k d = 21 ∧ (k < 1 ∨ 8 < k)) ∨ (checkI k d = 0 ∧ 1 ≤ k ∧ k ≤ 8 ∧ fitsB k d = true) ∨ (checkI k d = 22 ∧ 1 ≤ k ∧ k ≤ 8 ∧ fitsB k d = false) := by
  unfold checkI
  by_cases h1 : k < 1
  · simp [h1]
  · by_cases h2 : 8 < k
    · simp [h1, h2]
    · cases h3 : fitsB k d <;> simp [h1, h2] <;> omega
theorem fits_cases {k d : Int} (h : fitsB k d = true) : (k = 2 ∧ 2 ≤ d ∧ d ≤ 16) ∨ (k ≠ 2 ∧ d = 0) := by
  unfold fitsB at h
  simp at h
  omega
theorem near_range (n : Int) : 0 ≤ nearI n ∧ nearI n ≤ 1099511627776 := by unfold nearI; split <;> (try split) <;> omega
theorem near_mono {a b : Int} (h : a ≤ b) : nearI a ≤ nearI b := by
  unfold nearI; repeat' split
  all_goals omega
theorem bits_neg {n : Int} (h : n < 0) : bitsI n = 0 := by
  unfold bitsI; rw [show n.toNat = 0 by omega]; decide
theorem bits_range (n : Int) (h : n ≤ 9223372036854775807) : 0 ≤ bitsI n ∧ bitsI n ≤ 64 := by
  unfold bitsI
  have : Lib.bitLen n.toNat ≤ 64 := Lib.bitLen_le n.toNat 64 (by omega) (by omega)
  omega
theorem bits_near (n : Int) : 0 ≤ bitsI (nearI n) ∧ bitsI (nearI n) ≤ 41 := by
  have ⟨h0, h1⟩ := near_range n
  unfold bitsI
  have : Lib.bitLen (nearI n).toNat ≤ 41 := Lib.bitLen_le _ 41 (by omega) (by omega)
  omega
theorem bitLen_mono {a b : Nat} (h : a ≤ b) (hb : b < 2 ^ 64) : Lib.bitLen a ≤ Lib.bitLen b := by
  have hle : Lib.bitLen b ≤ 64 := Lib.bitLen_le b 64 (by omega) hb
  by_cases h0 : b = 0
  · rw [show a = b by omega]; exact Nat.le_refl _
  · exact Lib.bitLen_le a (Lib.bitLen b) hle (Nat.lt_of_le_of_lt h (Lib.bitLenAux_bounds 64 b hb h0).2.2)
theorem bits_mono {a b : Int} (h : a ≤ b) (hb : b ≤ 9223372036854775807) : bitsI a ≤ bitsI b := by
  unfold bitsI
  have := bitLen_mono (a := a.toNat) (b := b.toNat) (by omega) (by omega)
  omega
theorem call_range (k d : Int) : 0 ≤ callI k d ∧ callI k d ≤ 16 := by
  unfold callI
  split
  · rename_i h
    rcases check_cases k d with ⟨h', _⟩ | ⟨_, _, _, hf⟩ | ⟨h', _⟩
    · omega
    · have := fits_cases hf
      repeat' split
      all_goals omega
    · omega
  · omega
theorem whole_range (k d : Int) : wholeFI k d = 0 ∨ wholeFI k d = 16 := by
  unfold wholeFI
  repeat' split
  all_goals simp
theorem arity_range (k d : Int) : 0 ≤ arityI k d ∧ arityI k d ≤ 16 := by
  unfold arityI
  split
  · rcases check_cases k d with ⟨h', _⟩ | ⟨_, _, _, hf⟩ | ⟨h', _⟩
    · omega
    · have := fits_cases hf
      repeat' split
      all_goals omega
    · omega
  · omega
theorem mul_range {a b : Int} {m n : Int} (ha : 0 ≤ a ∧ a ≤ m) (hb : 0 ≤ b ∧ b ≤ n) : 0 ≤ a * b ∧ a * b ≤ m * n :=
  ⟨Int.mul_nonneg ha.1 hb.1, Int.mul_le_mul ha.2 hb.2 hb.1 (by omega)⟩
theorem limit_range (k d m : Int) : 0 ≤ limitI k d m ∧ limitI k d m ≤ 688 := by
  have := bits_near m
  have h := mul_range (call_range k d) (b := 2 + bitsI (nearI m)) (n := 43) (by omega)
  unfold limitI
  omega
theorem wholeN_range (k d n : Int) : 0 ≤ wholeFI k d * nearI n ∧ wholeFI k d * nearI n ≤ 17592186044416 := by
  have := mul_range (a := wholeFI k d) (m := 16) (by have := whole_range k d; omega) (near_range n)
  omega
theorem whole_all_range (k d n : Int) : 0 ≤ wholeI k d n ∧ wholeI k d n ≤ 756463999909888 := by
  have := bits_near n
  have h := mul_range (wholeN_range k d n) (b := 2 + bitsI (nearI n)) (n := 43) (by omega)
  unfold wholeI
  omega
theorem limit_mono (k d : Int) {a b : Int} (h : a ≤ b) : limitI k d a ≤ limitI k d b := by
  have h1 := bits_mono (near_mono h) (by have := near_range b; omega)
  unfold limitI
  exact Int.mul_le_mul_of_nonneg_left (by omega) (call_range k d).1
theorem whole_mono (k d : Int) {a b : Int} (h : a ≤ b) : wholeI k d a ≤ wholeI k d b := by
  have h1 := bits_mono (near_mono h) (by have := near_range b; omega)
  have h2 : 0 ≤ wholeFI k d := by have := whole_range k d; omega
  unfold wholeI
  refine Int.mul_le_mul (Int.mul_le_mul_of_nonneg_left (near_mono h) h2) (by omega) (by have := bits_near a; omega) (wholeN_range k d b).1
/-- Of each kind there is one bound, and just one. -/
theorem one_bound (k d a : Int) (h : checkI k d = 0) : decide (0 < limitI k d a) = !decide (0 < wholeI k d 1) := by
  rcases check_cases k d with ⟨h', _⟩ | ⟨_, h1, h8, hf⟩ | ⟨h', _⟩
  · omega
  · have hc := fits_cases hf
    have hb := bits_near a
    have hw : wholeI k d 1 = wholeFI k d * 3 := by
      unfold wholeI
      rw [show nearI 1 = 1 by decide, show bitsI 1 = 1 by decide]
      omega
    rw [hw]
    unfold limitI
    have e : wholeFI k d = if k = 4 ∨ k = 5 ∨ k = 7 then 16 else 0 := by unfold wholeFI; rw [if_pos h]
    have e2 : callI k d = if k = 1 then 2 else if k = 2 then d else if k = 3 ∨ k = 6 ∨ k = 8 then 4 else 0 := by unfold callI; rw [if_pos h]
    by_cases hk : k = 4 ∨ k = 5 ∨ k = 7
    · have z : callI k d = 0 := by rw [e2]; repeat' split
                                   all_goals omega
      rw [z, e, if_pos hk]; simp
    · rw [e, if_neg hk]
      have z : 1 ≤ callI k d := by rw [e2]; repeat' split
                                   all_goals omega
      have : 0 < callI k d * (2 + bitsI (nearI a)) := Int.mul_pos (by omega) (by omega)
      simp [this]
  · omega
theorem limit_none {k d : Int} (h : ¬ checkI k d = 0) (a : Int) : limitI k d a = 0 := by unfold limitI callI; simp [h]
theorem whole_none {k d : Int} (h : ¬ checkI k d = 0) (a : Int) : wholeI k d a = 0 := by unfold wholeI wholeFI; simp [h]
theorem limit_steps (k d m : Int) : limitI k d m = if checkI k d ≠ 0 then 0 else if k ≤ 2 then arityI k d * (2 + bitsI (nearI m)) else if k = 3 ∨ k = 6 ∨ k = 8 then 4 * (2 + bitsI (nearI m)) else 0 := by
  by_cases h : checkI k d = 0
  · rcases check_cases k d with ⟨h', _⟩ | ⟨_, h1, h8, hf⟩ | ⟨h', _⟩
    · omega
    · unfold limitI callI arityI
      simp only [h, if_true, ne_eq, not_true_eq_false, if_false]
      by_cases e1 : k = 1
      · simp [e1]
      · by_cases e2 : k = 2
        · simp [e2]
        · rw [if_neg e1, if_neg e2, if_neg (by omega : ¬ k ≤ 2)]
          split <;> simp
    · omega
  · rw [limit_none h, if_pos h]
theorem whole_steps (k d n : Int) : wholeI k d n = if checkI k d ≠ 0 then 0 else if k = 4 ∨ k = 5 ∨ k = 7 then 16 * nearI n * (2 + bitsI (nearI n)) else 0 := by
  by_cases h : checkI k d = 0
  · unfold wholeI wholeFI
    simp only [h, if_true, ne_eq, not_true_eq_false, if_false]
    split <;> simp
  · rw [whole_none h, if_pos h]
theorem bits_half (m : Nat) (h0 : 0 < m) (h : m ≤ 9223372036854775807) : Lib.bitLen m = 1 + Lib.bitLen (m / 2) := Lib.bitLen_half m (by omega) (by omega)
end Go.Proofs.Ytehoejoeoaimjaa
