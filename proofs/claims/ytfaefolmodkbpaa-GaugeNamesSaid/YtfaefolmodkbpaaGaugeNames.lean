/- The statement GaugeNames, walked: the call returns true, in every memory; of what was in memory nothing is changed. -/
import Derived.Test.YtfaefolmodkbpaaGaugeKinds
import Derived.Laws.StructEq
namespace Go.Proofs.Ytfaefolmodkbpaa
open Go.RowKit Go.Sort

theorem cellsP_get (l : List (Int × Int)) (i : Nat) (h : i < l.length) : (cellsP l)[i * 2]? = some (.int .i64 (l.getD i (0, 0)).1) ∧ (cellsP l)[i * 2 + 1]? = some (.int .i64 (l.getD i (0, 0)).2) := by
  induction l generalizing i with
  | nil => simp at h
  | cons p r ih =>
    cases i with
    | zero => simp [cellsP]
    | succ i =>
      have := ih i (by simpa using h)
      have e : (i + 1) * 2 = i * 2 + 2 := by omega
      have e2 : (i + 1) * 2 + 1 = i * 2 + 1 + 2 := by omega
      rw [e2, e]
      simpa [cellsP] using this

set_option maxHeartbeats 2000000 in
set_option maxRecDepth 100000 in
theorem names_walk (w : World) : Calls Try.prog 3 #[] w fun e w' => e = .returned (.bool true) ∧ Below w.heap.size w w' := by
  go_enter Try.func3, Try.ntmps3
  go_wp2_with fail
  refine (kinds_any _).mono ?_
  rintro e w1 ⟨v1, rfl, o1, hb1⟩
  go_wp2_with fail
  refine (refKinds_any _).mono ?_
  rintro e w2 ⟨v2, rfl, o2, hb2⟩
  replace o1 := owns_later o1 hb2
  obtain ⟨g1, c1, rfl, hc1, hm1, hg1, _, r1⟩ := owns_slice o1 (by omega)
  obtain ⟨g2, c2, rfl, hc2, hm2, hg2, _, r2⟩ := owns_slice o2 (by omega)
  have hb := below_chain hb1 hb2
  clear o1 o2 hb1 hb2
  unfold maxLen at hm1 hm2
  go_wp2_with fail
  go_loopw [13] (fun i wr => ∃ k : Nat, k ≤ 22 ∧ i = .int .i64 k ∧ Below w2.heap.size w2 wr) (fun i _ => 22 - (intOf i).toNat)
  case atStart => exact ⟨0, Nat.zero_le _, rfl, Below.refl _ _⟩
  case round =>
    obtain ⟨k, hk, rfl, hbr⟩ := hrel
    by_cases hlt : k < 22
    · have hki : (k : Int) < 22 := by omega
      have hd := cellsP_get kindsDoc k (by rw [show kindsDoc.length = 22 by decide +kernel]; exact hlt)
      have a0 := later hbr (r1 _ _ hd.1)
      have a1 := later hbr (r1 _ _ hd.2)
      have b0 := later hbr (r2 _ _ hd.1)
      have b1 := later hbr (r2 _ _ hd.2)
      clear hd
      generalize (kindsDoc.getD k (0, 0)).1 = x at *
      generalize (kindsDoc.getD k (0, 0)).2 = y at *
      go_wp2_with fail
      go_quiet (fail)
      go_wp2_with fail
      go_roundw
      case rel => exact ⟨k + 1, by omega, by go_num, below_drewN hbr _⟩
      case measure => simp [intOf]; omega
    · have e9 : checkI 9 0 = 21 := by decide +kernel
      have e17 : checkI 2 17 = 22 := by decide +kernel
      have hki : ¬ (k : Int) < 22 := by omega
      have C9 := fun w => check_any 9 0 w
      have C17 := fun w => check_any 2 17 w
      rw [e9] at C9
      rw [e17] at C17
      clear e9 e17 r1 r2
      go_wp2_with fail
      refine (alive_any _).mono ?_
      rintro e w3 ⟨rfl, hb3⟩
      go_wp2_with fail
      refine (C9 _).mono ?_
      rintro e w4 ⟨rfl, hb4⟩
      go_wp2_with fail
      refine (C17 _).mono ?_
      rintro e w5 ⟨rfl, hb5⟩
      go_wp2_with fail
      go_ret
      exact ⟨rfl, below_chain (below_chain (below_chain (below_chain hb hbr) hb3) hb4) hb5⟩
end Go.Proofs.Ytfaefolmodkbpaa
