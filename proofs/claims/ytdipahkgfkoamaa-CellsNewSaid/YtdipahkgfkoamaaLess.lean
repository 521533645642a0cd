/- The program's Less and the document's, of two entries; the meter's Count and Steps. -/
import Derived.Test.YtdipahkgfkoamaaMem
import Derived.Test.YtdipahkgfkoamaaNestMath
import Derived.Test.YtdipahkgfkoamaaChecked
import Derived.WalkLawsBesides
import Derived.WalkSpells
import Derived.IntWalk
import Derived.StillTailTactics
import Derived.BigRegion
namespace Go.Proofs.Ytdipahkgfkoamaa
open Go.RowKit Go.Sort

theorem less_any (k1 s1 k2 s2 : Int) (w : World) :
    Calls Try.prog 39 #[.agg #[.int .i64 k1, .int .u64 s1], .agg #[.int .i64 k2, .int .u64 s2]] w fun e w' => e = .returned (.bool (lessB k1 s1 k2 s2)) ∧ Below w.heap.size w w' := by
  by_cases hk : k1 = k2
  · subst hk
    go_enter Try.func39, Try.ntmps39
    go_wp2
    go_ret
    exact ⟨ret_bool (lessB_same _ _ _).symm, ((Below.refl _ _).alloc (Nat.le_refl _) _).alloc (by simp) _⟩
  · have hk1 : (k1 == k2) = false := by simpa using hk
    have hk2 : (k1 != k2) = true := by simpa using hk
    have HL := Lib.hid (lessB_other hk s1 s2)
    clear hk
    go_enter Try.func39, Try.ntmps39
    go_wp2
    go_ret
    exact ⟨ret_bool HL.out.symm, ((Below.refl _ _).alloc (Nat.le_refl _) _).alloc (by simp) _⟩
theorem refLess_any (k1 s1 k2 s2 : Int) (w : World) :
    Calls Try.prog 38 #[.agg #[.int .i64 k1, .int .u64 s1], .agg #[.int .i64 k2, .int .u64 s2]] w fun e w' => e = .returned (.bool (lessB k1 s1 k2 s2)) ∧ Below w.heap.size w w' := by
  by_cases hk : k1 = k2
  · subst hk
    go_enter Try.func38, Try.ntmps38
    go_wp2
    go_ret
    exact ⟨ret_bool (lessB_same _ _ _).symm, ((Below.refl _ _).alloc (Nat.le_refl _) _).alloc (by simp) _⟩
  · have hk1 : (k1 == k2) = false := by simpa using hk
    have hk2 : (k1 != k2) = true := by simpa using hk
    have HL := Lib.hid (lessB_other hk s1 s2)
    clear hk
    go_enter Try.func38, Try.ntmps38
    go_wp2
    go_ret
    exact ⟨ret_bool HL.out.symm, ((Below.refl _ _).alloc (Nat.le_refl _) _).alloc (by simp) _⟩

/-- What a meter shows, when some are counted. -/
def addI (s n : Int) : Int := if n ≤ 0 then s else if 4611686018427387904 - s ≤ n then 4611686018427387904 else s + n
theorem add_range {s : Int} (hs : 0 ≤ s ∧ s ≤ 4611686018427387904) (n : Int) : 0 ≤ addI s n ∧ addI s n ≤ 4611686018427387904 := by
  unfold addI; repeat' split
  all_goals omega
theorem add_one {s : Int} (hs : s < 4611686018427387904) : addI s 1 = s + 1 := by
  unfold addI; repeat' split
  all_goals omega
theorem meter_steps (b o : Nat) (s : Int) (w : World) (hc : w.cell? ⟨b, o, none⟩ = some (.int .i64 s)) :
    Calls Try.prog 11 #[.pointer (some ⟨b, o, none⟩)] w fun e w' => e = .returned (.int .i64 s) ∧ w = w' := by
  go_enter Try.func11, Try.ntmps11
  go_wp2
  go_ret
  exact ⟨rfl, rfl⟩
theorem meter_count (b o : Nat) (s n : Int) (hs : 0 ≤ s ∧ s ≤ 4611686018427387904) (w : World) (hc : w.cell? ⟨b, o, none⟩ = some (.int .i64 s)) (hf : w.frozen? ⟨b, o, none⟩ = false) :
    Calls Try.prog 41 #[.pointer (some ⟨b, o, none⟩), .int .i64 n] w fun e w' => e = .returned (.tuple #[]) ∧ Wrote ⟨b, o, none⟩ (.int .i64 (addI s n)) w w' := by
  obtain ⟨hs0, hs1⟩ := hs
  by_cases hn : n < 0
  · have hw : Wrote ⟨b, o, none⟩ (.int .i64 (addI s n)) w w := by
      have : addI s n = s := by unfold addI; rw [if_pos (by omega)]
      rw [this]
      exact wrote_same hc
    go_enter Try.func41, Try.ntmps41
    go_wp2
    refine bodyPost_ret (results_none rfl _ _ _) rfl ?_
    exact ⟨rfl, hw⟩
  · have HA : Hid (s + (if 4611686018427387904 - s < n then 4611686018427387904 - s else n) = addI s n) := by
      have : s + (if 4611686018427387904 - s < n then 4611686018427387904 - s else n) = addI s n := by
        unfold addI
        repeat' split
        all_goals omega
      exact Lib.hid this
    go_enter Try.func41, Try.ntmps41
    go_wp2
    go_region
    go_end0
    exact ⟨rfl, by rw [← HA.out]; exact ⟨rfl, rfl, rfl, rfl⟩⟩
end Go.Proofs.Ytdipahkgfkoamaa
