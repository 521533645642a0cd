/- Are two rows one (the document's Same). -/
import Derived.Test.YtfngooaobjafjaaIntsIn
import Derived.Deep.QuietTactic
namespace Go.Proofs.Ytfngooaobjafjaa
open Go.RowKit Go.Sort

variable {w : World}
/-- Are two rows one? -/
theorem same_at (la lb : List Int) (a1 a2 : Option Addr) (c1 c2 : Nat) (hc1 : la.length ≤ c1 ∧ c1 ≤ 9223372036854775807) (hc2 : lb.length ≤ c2 ∧ c2 ≤ 9223372036854775807) (h1 : IntsAt w .i64 a1 la) (h2 : IntsAt w .i64 a2 lb) :
    Calls Try.prog 15 #[.slice a1 la.length c1, .slice a2 lb.length c2] w fun e w' => e = .returned (.bool (decide (la = lb))) ∧ Below w.heap.size w w' := by
  obtain ⟨h11, h12⟩ := hc1
  obtain ⟨h21, h22⟩ := hc2
  by_cases hl : la.length = lb.length
  · have hA : ∀ wr, Below w.heap.size w wr → ∀ k, k < la.length → ∃ g o g' o', a1 = some ⟨g, o, none⟩ ∧ a2 = some ⟨g', o', none⟩ ∧ wr.cell? ⟨g, o + k, none⟩ = some (.int .i64 (la.getD k 0)) ∧ wr.cell? ⟨g', o' + k, none⟩ = some (.int .i64 (lb.getD k 0)) := fun wr hb k hk => by
      obtain ⟨g, o, e1, h5⟩ := h1 k hk
      obtain ⟨g', o', e2, h6⟩ := h2 k (by omega)
      exact ⟨g, o, g', o', e1, e2, later hb h5, later hb h6⟩
    have hne : ∀ k, k < la.length → la.getD k 0 ≠ lb.getD k 0 → decide (la = lb) = false := fun k _ h => decide_eq_false (fun e => h (by rw [e]))
    have heq : (∀ k, k < la.length → la.getD k 0 = lb.getD k 0) → decide (la = lb) = true := fun h => decide_eq_true (by
      apply List.ext_getElem hl
      intro k h1 h2
      have := h k h1
      simpa [List.getD_eq_getElem?_getD, h1, h2] using this)
    rw [← hl] at h21 ⊢
    generalize decide (la = lb) = B at *
    clear h1 h2
    generalize la.length = m at *
    go_enter Try.func15, Try.ntmps15
    go_wp2_with fail
    go_loopw [13] (fun i wr => ∃ k : Nat, i = .int .i64 k ∧ k ≤ m ∧ (∀ i, i < k → la.getD i 0 = lb.getD i 0) ∧ Below w.heap.size w wr) (fun i _ => m - (intOf i).toNat)
    case atStart => exact ⟨0, rfl, Nat.zero_le _, fun i hi => absurd hi (Nat.not_lt_zero _), Below.refl _ _⟩
    case round =>
      obtain ⟨k, rfl, hk, hall, hb⟩ := hrel
      by_cases hkm : k < m
      · have hki : (k : Int) < m := by omega
        obtain ⟨g, o, g', o', rfl, rfl, u1, u2⟩ := hA wr hb k hkm
        by_cases e : la.getD k 0 = lb.getD k 0
        · have hall2 : ∀ i, i < k + 1 → la.getD i 0 = lb.getD i 0 := fun i hi => by
            by_cases e2 : i = k
            · rw [e2]; exact e
            · exact hall i (by omega)
          rw [e] at u1
          generalize lb.getD k 0 = y at *
          clear hA hne heq hall e
          go_wp2_with fail
          go_quiet (fail)
          go_wp2_with fail
          go_roundw
          case rel => exact ⟨k + 1, by go_num, by omega, hall2, below_drewN hb _⟩
          case measure => simp [intOf]; omega
        · have hB := hne k hkm e
          subst hB
          have e1 : (la.getD k 0 == lb.getD k 0) = false := by simpa using e
          have e2 : (la.getD k 0 != lb.getD k 0) = true := by simpa using e
          clear hA hne heq hall e
          generalize la.getD k 0 = x at *
          generalize lb.getD k 0 = y at *
          go_wp2_with fail
          go_quiet (fail)
          go_wp2_with fail
          go_ret
          exact ⟨rfl, below_drewN hb _⟩
      · obtain rfl : k = m := by omega
        have hB := heq hall
        subst hB
        clear hA hne heq hall
        go_wp2_with fail
        go_ret
        exact ⟨rfl, hb⟩
  · rw [decide_eq_false (fun e => hl (by rw [e]))]
    have hl1 : ((la.length : Int) == lb.length) = false := by simp; omega
    have hl2 : ((la.length : Int) != lb.length) = true := by simp; omega
    clear h1 h2
    generalize la.length = m at *
    generalize lb.length = m2 at *
    go_enter Try.func15, Try.ntmps15
    go_wp2_with fail
    go_ret
    exact ⟨rfl, Below.refl _ _⟩
end Go.Proofs.Ytfngooaobjafjaa
