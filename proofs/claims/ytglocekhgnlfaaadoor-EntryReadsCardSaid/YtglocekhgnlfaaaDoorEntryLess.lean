/- The program's Less, Compare and Turn, and the document's Less and Compare, return what they should, for every pair of entries; of what was in memory nothing is changed. -/
import Derived.Test.YtglocekhgnlfaaaDoorBase
import Derived.Test.YtglocekhgnlfaaaDoorChecked
import Derived.WalkLawsBesides
import Derived.WalkSpells
namespace Go.Proofs.YtglocekhgnlfaaaDoor
open Go.RowKit

/-- Goes the one ahead of the other? -/
def lessB (k1 s1 k2 s2 : Int) : Bool := decide (k1 < k2) || (k1 == k2 && decide (s1 < s2))
def cmpI (k1 s1 k2 s2 : Int) : Int := if lessB k1 s1 k2 s2 then -1 else if lessB k2 s2 k1 s1 then 1 else 0
theorem lessB_same (k s1 s2 : Int) : lessB k s1 k s2 = decide (s1 < s2) := by simp [lessB]
theorem lessB_other {k1 k2 : Int} (h : ¬ k1 = k2) (s1 s2 : Int) : lessB k1 s1 k2 s2 = decide (k1 < k2) := by simp [lessB, h]
theorem ret_bool {a b : Bool} (h : a = b) : Ending.returned (.bool a) = .returned (.bool b) := by rw [h]
theorem ret_int {k : IntKind} {a b : Int} (h : a = b) : Ending.returned (.int k a) = .returned (.int k b) := by rw [h]

theorem less_any (k1 s1 k2 s2 : Int) (w : World) :
    Calls Tryd.prog 11 #[.agg #[.int .i64 k1, .int .u64 s1], .agg #[.int .i64 k2, .int .u64 s2]] w fun e w' => e = .returned (.bool (lessB k1 s1 k2 s2)) ∧ Below w.heap.size w w' := by
  by_cases hk : k1 = k2
  · subst hk
    go_enter Tryd.func11, Tryd.ntmps11
    go_wp2
    go_ret
    exact ⟨ret_bool (lessB_same _ _ _).symm, ((Below.refl _ _).alloc (Nat.le_refl _) _).alloc (by simp) _⟩
  · have hk1 : (k1 == k2) = false := by simpa using hk
    have hk2 : (k1 != k2) = true := by simpa using hk
    have HL := Lib.hid (lessB_other hk s1 s2)
    clear hk
    go_enter Tryd.func11, Tryd.ntmps11
    go_wp2
    go_ret
    exact ⟨ret_bool HL.out.symm, ((Below.refl _ _).alloc (Nat.le_refl _) _).alloc (by simp) _⟩

theorem refLess_any (k1 s1 k2 s2 : Int) (w : World) :
    Calls Tryd.prog 12 #[.agg #[.int .i64 k1, .int .u64 s1], .agg #[.int .i64 k2, .int .u64 s2]] w fun e w' => e = .returned (.bool (lessB k1 s1 k2 s2)) ∧ Below w.heap.size w w' := by
  by_cases hk : k1 = k2
  · subst hk
    go_enter Tryd.func12, Tryd.ntmps12
    go_wp2
    go_ret
    exact ⟨ret_bool (lessB_same _ _ _).symm, ((Below.refl _ _).alloc (Nat.le_refl _) _).alloc (by simp) _⟩
  · have hk1 : (k1 == k2) = false := by simpa using hk
    have hk2 : (k1 != k2) = true := by simpa using hk
    have HL := Lib.hid (lessB_other hk s1 s2)
    clear hk
    go_enter Tryd.func12, Tryd.ntmps12
    go_wp2
    go_ret
    exact ⟨ret_bool HL.out.symm, ((Below.refl _ _).alloc (Nat.le_refl _) _).alloc (by simp) _⟩

/-- Compare's last step: what lay below is as it was. -/
theorem cmp_below {w w1 : World} {o1 o2 : Obj} (h : Below ((w.alloc o1).alloc o2).heap.size ((w.alloc o1).alloc o2) w1) : Below w.heap.size w w1 :=
  (((Below.refl _ _).alloc (Nat.le_refl _) o1).alloc (by simp) o2).trans (h.mono (by simp; omega))
theorem cmp_cells {w w1 : World} {x y : Array Value} {t : TypeId} (h : Below ((w.alloc (.cells x t)).alloc (.cells y t)).heap.size ((w.alloc (.cells x t)).alloc (.cells y t)) w1) (o : Nat) :
    w1.cell? ⟨w.heap.size, o, none⟩ = ((w.alloc (.cells x t)).alloc (.cells y t)).cell? ⟨w.heap.size, o, none⟩ ∧ w1.cell? ⟨w.heap.size + 1, o, none⟩ = ((w.alloc (.cells x t)).alloc (.cells y t)).cell? ⟨w.heap.size + 1, o, none⟩ :=
  ⟨h.cell (p := ⟨w.heap.size, o, none⟩) (by simp; omega), h.cell (p := ⟨w.heap.size + 1, o, none⟩) (by simp)⟩

theorem compare_any (k1 s1 k2 s2 : Int) (w : World) :
    Calls Tryd.prog 13 #[.agg #[.int .i64 k1, .int .u64 s1], .agg #[.int .i64 k2, .int .u64 s2]] w fun e w' => e = .returned (.int .i64 (cmpI k1 s1 k2 s2)) ∧ Below w.heap.size w w' := by
  go_enter Tryd.func13, Tryd.ntmps13
  go_wp2_with fail
  refine (less_any _ _ _ _ _).mono ?_
  rintro e w1 ⟨rfl, hb1⟩
  have hc0 := cmp_cells hb1 0
  have hc1 := cmp_cells hb1 1
  have c0 : w1.cell? ⟨w.heap.size, 0, none⟩ = some (.int .i64 k1) := by rw [hc0.1]; go_simp
  have c1 : w1.cell? ⟨w.heap.size, 1, none⟩ = some (.int .u64 s1) := by rw [hc1.1]; go_simp
  have c2 : w1.cell? ⟨w.heap.size + 1, 0, none⟩ = some (.int .i64 k2) := by rw [hc0.2]; go_simp
  have c3 : w1.cell? ⟨w.heap.size + 1, 1, none⟩ = some (.int .u64 s2) := by rw [hc1.2]; go_simp
  clear hc0 hc1
  have hb := cmp_below hb1
  clear hb1
  cases hl : lessB k1 s1 k2 s2
  · go_wp2_with fail
    refine (less_any _ _ _ _ _).mono ?_
    rintro e w2 ⟨rfl, hb2⟩
    cases hm : lessB k2 s2 k1 s1
    · go_wp2_with fail
      go_ret
      exact ⟨ret_int (by simp [cmpI, hl, hm]), below_chain hb hb2⟩
    · go_wp2_with fail
      go_ret
      exact ⟨ret_int (by simp [cmpI, hl, hm]), below_chain hb hb2⟩
  · go_wp2_with fail
    go_ret
    exact ⟨ret_int (by simp [cmpI, hl]), hb⟩
theorem refCompare_any (k1 s1 k2 s2 : Int) (w : World) :
    Calls Tryd.prog 14 #[.agg #[.int .i64 k1, .int .u64 s1], .agg #[.int .i64 k2, .int .u64 s2]] w fun e w' => e = .returned (.int .i64 (cmpI k1 s1 k2 s2)) ∧ Below w.heap.size w w' := by
  go_enter Tryd.func14, Tryd.ntmps14
  go_wp2_with fail
  refine (refLess_any _ _ _ _ _).mono ?_
  rintro e w1 ⟨rfl, hb1⟩
  have hc0 := cmp_cells hb1 0
  have hc1 := cmp_cells hb1 1
  have c0 : w1.cell? ⟨w.heap.size, 0, none⟩ = some (.int .i64 k1) := by rw [hc0.1]; go_simp
  have c1 : w1.cell? ⟨w.heap.size, 1, none⟩ = some (.int .u64 s1) := by rw [hc1.1]; go_simp
  have c2 : w1.cell? ⟨w.heap.size + 1, 0, none⟩ = some (.int .i64 k2) := by rw [hc0.2]; go_simp
  have c3 : w1.cell? ⟨w.heap.size + 1, 1, none⟩ = some (.int .u64 s2) := by rw [hc1.2]; go_simp
  clear hc0 hc1
  have hb := cmp_below hb1
  clear hb1
  cases hl : lessB k1 s1 k2 s2
  · go_wp2_with fail
    refine (refLess_any _ _ _ _ _).mono ?_
    rintro e w2 ⟨rfl, hb2⟩
    cases hm : lessB k2 s2 k1 s1
    · go_wp2_with fail
      go_ret
      exact ⟨ret_int (by simp [cmpI, hl, hm]), below_chain hb hb2⟩
    · go_wp2_with fail
      go_ret
      exact ⟨ret_int (by simp [cmpI, hl, hm]), below_chain hb hb2⟩
  · go_wp2_with fail
    go_ret
    exact ⟨ret_int (by simp [cmpI, hl]), hb⟩
theorem turn_any (k : Int) (h0 : -9223372036854775808 ≤ k) (h1 : k ≤ 9223372036854775807) (w : World) :
    Calls Tryd.prog 15 #[.int .i64 k] w fun e w' => e = .returned (.int .i64 (-1 - k)) ∧ Below w.heap.size w w' := by
  go_enter Tryd.func15, Tryd.ntmps15
  go_wp2
  go_ret
  exact ⟨rfl, Below.refl _ _⟩
end Go.Proofs.YtglocekhgnlfaaaDoor
