/- The statements' first walk, and NamesNew's: the call returns true, in every memory; of what was in memory nothing is changed. -/
import Derived.Test.YtjpehcpkhbfjaaaNames3
namespace Go.Proofs.Ytjpehcpkhbfjaaa
open Go.RowKit Go.Sort

/-- So many were made, and none is joined. -/
def freshN (m j : Nat) : NS := ⟨m, List.range (j + 1), j⟩
theorem fresh_make {m j : Nat} (h : j < m) : canMake (freshN m j) = true ∧ madeI (freshN m j) = (j : Int) + 1 ∧ afterM (freshN m j) = freshN m (j + 1) := by
  have hc : canMake (freshN m j) = true := by simp [canMake, freshN]; omega
  refine ⟨hc, ?_, ?_⟩
  · unfold madeI
    rw [if_pos hc]
    simp [freshN]
  · unfold afterM
    rw [if_pos hc]
    simp only [makeN, freshN, List.length_range]
    rw [← List.range_succ]
theorem fresh_new (m : Nat) : newN m = freshN m 0 := rfl
theorem below_moved {F F' : Nat → Prop} {a w w' : World} (hb : Below a.heap.size a w) (h : Moved F F' w w') (hF : ∀ k, F k → a.heap.size ≤ k ∧ k < w.heap.size) : Below a.heap.size a w' := hb.trans (h.below_old hF hb.size)

theorem alive_any (w : World) : Calls Try.prog 7 #[] w fun e w' => e = .returned (.bool true) ∧ Below w.heap.size w w' := by
  go_enter Try.func7, Try.ntmps7
  go_wp2_with fail
  refine (new_nm w.heap.size 3 w (by omega) (Nat.le_refl _)).mono ?_
  rintro e w1 ⟨rfl, F, h, hF, hb⟩
  rw [fresh_new] at h
  have hp : w.heap.size ≤ w.heap.size + 1 := Nat.le_succ _
  generalize w.heap.size + 1 = p at *
  clear hF
  go_wp2_with fail
  go_loopw [3] (fun i wr => ∃ (j : Nat) (F : Nat → Prop), j ≤ 3 ∧ i = .int .i64 ((j : Int) + 1) ∧ NR wr w.heap.size p F (freshN 3 j) ∧ Below w.heap.size w wr) (fun i _ => 4 - (intOf i).toNat)
  case atStart => exact ⟨0, F, by omega, rfl, h, hb⟩
  case round =>
    clear h hb F
    obtain ⟨j, F, hj, rfl, h, hb⟩ := hrel
    by_cases hlt : j < 3
    · have hji : (j : Int) + 1 ≤ 3 := by omega
      obtain ⟨e1, e2, e3⟩ := fresh_make (m := 3) hlt
      have hm := make_nm h
      rw [e1, e2, e3] at hm
      clear e1 e2 e3
      go_wp2_with fail
      refine hm.mono ?_
      rintro e w2 ⟨rfl, F2, h2, m2⟩
      have hb2 := below_moved hb m2 h.lt
      clear hm m2 h hb
      go_wp2_with fail
      go_roundw
      case rel => exact ⟨j + 1, F2, by omega, by go_num, h2, hb2⟩
      case measure => simp [intOf]; omega
    · have hji : ¬ (j : Int) + 1 ≤ 3 := by omega
      obtain rfl : j = 3 := by omega
      go_wp2_with fail
      refine (join_nm 2 3 h).mono ?_
      rintro e w2 ⟨rfl, F2, h2, m2⟩
      replace hb := below_moved hb m2 h.lt
      rw [show joinB (freshN 3 3) 2 3 = true from rfl]
      clear m2 h
      go_wp2_with fail
      refine (join_nm 1 2 h2).mono ?_
      rintro e w3 ⟨rfl, F3, h3, m3⟩
      replace hb := below_moved hb m3 h2.lt
      rw [show joinB (afterJ (freshN 3 3) 2 3) 1 2 = true from rfl]
      clear m3 h2
      go_wp2_with fail
      refine (root_nm 3 h3).mono ?_
      rintro e w4 ⟨rfl, F4, h4, m4⟩
      replace hb := below_moved hb m4 h3.lt
      rw [show madeB (afterJ (afterJ (freshN 3 3) 2 3) 1 2) 3 = true from rfl, show rootI (afterJ (afterJ (freshN 3 3) 2 3) 1 2) 3 = 1 from rfl]
      clear m4 h3
      go_wp2_with fail
      refine (has_nm 1 h4).mono ?_
      rintro e w5 ⟨rfl, rfl⟩
      rw [show hasB (afterJ (afterJ (freshN 3 3) 2 3) 1 2) 1 = true from rfl]
      go_wp2_with fail
      refine (has_nm 2 h4).mono ?_
      rintro e w5 ⟨rfl, rfl⟩
      rw [show hasB (afterJ (afterJ (freshN 3 3) 2 3) 1 2) 2 = false from rfl]
      go_wp2_with fail
      refine (has_nm 3 h4).mono ?_
      rintro e w5 ⟨rfl, rfl⟩
      rw [show hasB (afterJ (afterJ (freshN 3 3) 2 3) 1 2) 3 = false from rfl]
      go_wp2_with fail
      refine (count_nm h4).mono ?_
      rintro e w5 ⟨rfl, rfl⟩
      rw [show (afterJ (afterJ (freshN 3 3) 2 3) 1 2).count = 1 from rfl]
      go_wp2_with fail
      go_ret
      exact ⟨rfl, hb⟩

theorem right_any (n : Int) (w : World) : Calls Try.prog 9 #[.int .i64 n] w fun e w' => e = .returned (.bool (decide (0 ≤ n ∧ n ≤ 65536))) ∧ w = w' := by
  by_cases hs : 0 ≤ n
  · rw [show decide (0 ≤ n ∧ n ≤ 65536) = decide (n ≤ 65536) by simp [hs]]
    go_enter Try.func9, Try.ntmps9
    go_wp2
    go_ret
    exact ⟨rfl, rfl⟩
  · rw [show decide (0 ≤ n ∧ n ≤ 65536) = false by simp [hs]]
    go_enter Try.func9, Try.ntmps9
    go_wp2
    go_ret
    exact ⟨rfl, rfl⟩
theorem new_walk (n : Int) (w : World) : Calls Try.prog 3 #[.int .i64 n] w fun e w' => e = .returned (.bool true) ∧ Below w.heap.size w w' := by
  have hR := right_any n
  by_cases hn : 0 ≤ n ∧ n ≤ 65536
  · rw [show decide (0 ≤ n ∧ n ≤ 65536) = true by simp [hn]] at hR
    obtain ⟨k, rfl⟩ : ∃ k : Nat, n = k := ⟨n.toNat, by omega⟩
    have hk : k ≤ 65536 := by omega
    clear hn
    go_enter Try.func3, Try.ntmps3
    go_wp2_with fail
    refine (alive_any w).mono ?_
    rintro e w1 ⟨rfl, hb⟩
    go_wp2_with fail
    refine (new_nm w1.heap.size k w1 hk (Nat.le_refl _)).mono ?_
    rintro e w2 ⟨rfl, F, h, hF, hb2⟩
    replace hb := below_chain hb hb2
    generalize w1.heap.size + 1 = p at *
    clear hF hb2
    go_wp2_with fail
    refine (hR _).mono ?_
    rintro e w3 ⟨rfl, rfl⟩
    go_wp2_with fail
    refine (last_nm h).mono ?_
    rintro e w3 ⟨rfl, rfl⟩
    rw [show ((newN k).roots.length : Int) - 1 = 0 from rfl]
    go_wp2_with fail
    refine (count_nm h).mono ?_
    rintro e w3 ⟨rfl, rfl⟩
    rw [show (newN k).count = 0 from rfl]
    go_wp2_with fail
    refine (has_nm 0 h).mono ?_
    rintro e w3 ⟨rfl, rfl⟩
    rw [show hasB (newN k) 0 = false from rfl]
    go_wp2_with fail
    refine (has_nm 1 h).mono ?_
    rintro e w3 ⟨rfl, rfl⟩
    rw [show hasB (newN k) 1 = false from rfl]
    go_wp2_with fail
    go_ret
    exact ⟨rfl, hb⟩
  · rw [show decide (0 ≤ n ∧ n ≤ 65536) = false by simpa using hn] at hR
    have hN := fun w => new_none n w hn
    clear hn
    go_enter Try.func3, Try.ntmps3
    go_wp2_with fail
    refine (alive_any w).mono ?_
    rintro e w1 ⟨rfl, hb⟩
    go_wp2_with fail
    refine (hN _).mono ?_
    rintro e w2 ⟨rfl, rfl⟩
    go_wp2_with fail
    refine (hR _).mono ?_
    rintro e w3 ⟨rfl, rfl⟩
    go_wp2_with fail
    go_ret
    exact ⟨rfl, hb⟩
end Go.Proofs.Ytjpehcpkhbfjaaa
