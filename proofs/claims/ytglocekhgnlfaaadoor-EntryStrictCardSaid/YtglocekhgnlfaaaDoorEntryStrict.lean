/- The statement EntryStrict, walked: for every three entries the call returns true, in every memory that holds the library's table; of what was in memory nothing is changed. -/
import Derived.Test.YtglocekhgnlfaaaDoorEntryAlive
namespace Go.Proofs.YtglocekhgnlfaaaDoor
open Go.RowKit Go.Sort Go.Lib

theorem lessB_iff (k1 s1 k2 s2 : Int) : lessB k1 s1 k2 s2 = true ↔ (k1 < k2 ∨ (k1 = k2 ∧ s1 < s2)) := by simp [lessB]
theorem lessB_iff' (k1 s1 k2 s2 : Int) : lessB k1 s1 k2 s2 = false ↔ ¬ (k1 < k2 ∨ (k1 = k2 ∧ s1 < s2)) := by rw [← lessB_iff]; simp

/-- The three boxes of the parameters, and what is known of them later. -/
theorem boxes3 {w w1 : World} {x y z : Array Value} {t : TypeId} (h : Below (((w.alloc (.cells x t)).alloc (.cells y t)).alloc (.cells z t)).heap.size (((w.alloc (.cells x t)).alloc (.cells y t)).alloc (.cells z t)) w1) (o : Nat) :
    w1.cell? ⟨w.heap.size, o, none⟩ = (((w.alloc (.cells x t)).alloc (.cells y t)).alloc (.cells z t)).cell? ⟨w.heap.size, o, none⟩ ∧ w1.cell? ⟨w.heap.size + 1, o, none⟩ = (((w.alloc (.cells x t)).alloc (.cells y t)).alloc (.cells z t)).cell? ⟨w.heap.size + 1, o, none⟩ ∧
    w1.cell? ⟨w.heap.size + 1 + 1, o, none⟩ = (((w.alloc (.cells x t)).alloc (.cells y t)).alloc (.cells z t)).cell? ⟨w.heap.size + 1 + 1, o, none⟩ :=
  ⟨h.cell (p := ⟨w.heap.size, o, none⟩) (by simp; omega), h.cell (p := ⟨w.heap.size + 1, o, none⟩) (by simp), h.cell (p := ⟨w.heap.size + 1 + 1, o, none⟩) (by simp)⟩

set_option maxHeartbeats 4000000 in
set_option maxRecDepth 100000 in
theorem strict_walk (ka sa kb sb kc sc : Int) (w : World) (htab : Tab w) :
    Calls Tryd.prog 7 #[.agg #[.int .i64 ka, .int .u64 sa], .agg #[.int .i64 kb, .int .u64 sb], .agg #[.int .i64 kc, .int .u64 sc]] w fun e w' => e = .returned (.bool true) ∧ Below w.heap.size w w' := by
  go_enter Tryd.func7, Tryd.ntmps7
  go_wp2_with fail
  have hb0 : Below w.heap.size w (((w.alloc (.cells #[.int .i64 ka, .int .u64 sa] 24)).alloc (.cells #[.int .i64 kb, .int .u64 sb] 24)).alloc (.cells #[.int .i64 kc, .int .u64 sc] 24)) :=
    ((((Below.refl _ _).alloc (Nat.le_refl _) _).alloc (by simp) _).alloc (by simp; omega) _)
  refine (alive_any _ (tab_below htab hb0)).mono ?_
  rintro e W ⟨rfl, hb1⟩
  have b0 := boxes3 hb1 0
  have b1 := boxes3 hb1 1
  have c00 : W.cell? ⟨w.heap.size, 0, none⟩ = some (.int .i64 ka) := by rw [b0.1]; go_simp
  have c01 : W.cell? ⟨w.heap.size, 1, none⟩ = some (.int .u64 sa) := by rw [b1.1]; go_simp
  have c10 : W.cell? ⟨w.heap.size + 1, 0, none⟩ = some (.int .i64 kb) := by rw [b0.2.1]; go_simp
  have c11 : W.cell? ⟨w.heap.size + 1, 1, none⟩ = some (.int .u64 sb) := by rw [b1.2.1]; go_simp
  have c20 : W.cell? ⟨w.heap.size + 1 + 1, 0, none⟩ = some (.int .i64 kc) := by rw [b0.2.2]; go_simp
  have c21 : W.cell? ⟨w.heap.size + 1 + 1, 1, none⟩ = some (.int .u64 sc) := by rw [b1.2.2]; go_simp
  have hb := below_chain hb0 hb1
  clear b0 b1 hb0 hb1
  go_wp2_with fail
  have k00 := cell_regrown c00
  have k01 := cell_regrown c01
  have k10 := cell_regrown c10
  have k11 := cell_regrown c11
  have k20 := cell_regrown c20
  have k21 := cell_regrown c21
  have cL : ∀ k1 s1 k2 s2 d os, Calls Tryd.prog 11 #[.agg #[.int .i64 k1, .int .u64 s1], .agg #[.int .i64 k2, .int .u64 s2]] (grow (redrawn W d) os) fun e w'' => e = .returned (.bool (lessB k1 s1 k2 s2)) ∧ ∃ p : Regrown, w'' = grow (redrawn W p.d) p.os := fun k1 s1 k2 s2 d os => Calls.regrown_of (less_any k1 s1 k2 s2 _)
  refine wp_region_quiet_below (by kernel_rfl) (by kernel_rfl) ?_
  repeat (go_big_quiet_step (exact cL _ _ _ _ _ _))
  refine wpQuiet_nil ?_
  intro W2 hw'
  have hb2 : Below W.heap.size W W2 := by
    obtain ⟨p, rfl⟩ := hw'
    exact below_regrown _ _ _
  have hbb := below_chain hb hb2
  have f00 : W2.cell? ⟨w.heap.size, 0, none⟩ = some (.int .i64 ka) := by rw [hb2.cell (block_lt_of_cell c00)]; exact c00
  have f01 : W2.cell? ⟨w.heap.size, 1, none⟩ = some (.int .u64 sa) := by rw [hb2.cell (block_lt_of_cell c01)]; exact c01
  have f10 : W2.cell? ⟨w.heap.size + 1, 0, none⟩ = some (.int .i64 kb) := by rw [hb2.cell (block_lt_of_cell c10)]; exact c10
  have f11 : W2.cell? ⟨w.heap.size + 1, 1, none⟩ = some (.int .u64 sb) := by rw [hb2.cell (block_lt_of_cell c11)]; exact c11
  clear hw' hb2 hb c00 c01 c10 c11 c20 c21 k00 k01 k10 k11 k20 k21 cL
  have k00 := cell_regrown f00
  have k01 := cell_regrown f01
  have k10 := cell_regrown f10
  have k11 := cell_regrown f11
  have cL : ∀ k1 s1 k2 s2 d os, Calls Tryd.prog 11 #[.agg #[.int .i64 k1, .int .u64 s1], .agg #[.int .i64 k2, .int .u64 s2]] (grow (redrawn W2 d) os) fun e w'' => e = .returned (.bool (lessB k1 s1 k2 s2)) ∧ ∃ p : Regrown, w'' = grow (redrawn W2 p.d) p.os := fun k1 s1 k2 s2 d os => Calls.regrown_of (less_any k1 s1 k2 s2 _)
  have cC : ∀ k1 s1 k2 s2 d os, Calls Tryd.prog 13 #[.agg #[.int .i64 k1, .int .u64 s1], .agg #[.int .i64 k2, .int .u64 s2]] (grow (redrawn W2 d) os) fun e w'' => e = .returned (.int .i64 (cmpI k1 s1 k2 s2)) ∧ ∃ p : Regrown, w'' = grow (redrawn W2 p.d) p.os := fun k1 s1 k2 s2 d os => Calls.regrown_of (compare_any k1 s1 k2 s2 _)
  have haa : lessB ka sa ka sa = false := (lessB_iff' ..).2 (by omega)
  -- the cases: where the two keys stand, then the two seqs; and, if the first is ahead of the second, whether the second is ahead of the third
  by_cases hk : ka = kb
  · subst hk
    by_cases hs : sa = sb
    · subst hs
      have e3 : cmpI ka sa ka sa = 0 := by simp [cmpI, haa]
      go_wp2_with fail
      refine wp_region_quiet_below (by kernel_rfl) (by kernel_rfl) ?_
      repeat (first | go_big_quiet_step (first | exact cL _ _ _ _ _ _ | exact cC _ _ _ _ _ _) | quiet_step (first | exact cL _ _ _ _ _ _ | exact cC _ _ _ _ _ _))
      refine wpQuiet_nil ?_
      intro W3 hw'
      have hb3 : Below W2.heap.size W2 W3 := by
        obtain ⟨p, rfl⟩ := hw'
        exact below_regrown _ _ _
      go_wp2_with fail
      go_ret
      exact ⟨rfl, below_chain hbb hb3⟩
    · by_cases hl : sa < sb
      · have e1 : lessB ka sa ka sb = true := (lessB_iff ..).2 (by omega)
        have e2 : lessB ka sb ka sa = false := (lessB_iff' ..).2 (by omega)
        have e3 : cmpI ka sa ka sb = -1 := by simp [cmpI, e1]
        have e4 : cmpI ka sb ka sa = 1 := by simp [cmpI, e1, e2]
        cases hbc : lessB ka sb kc sc
        rotate_left
        have hac : lessB ka sa kc sc = true := by rw [lessB_iff] at hbc ⊢; omega
        all_goals
          clear hl
          go_wp2_with fail
          refine wp_region_quiet_below (by kernel_rfl) (by kernel_rfl) ?_
          repeat (first | go_big_quiet_step (first | exact cL _ _ _ _ _ _ | exact cC _ _ _ _ _ _) | quiet_step (first | exact cL _ _ _ _ _ _ | exact cC _ _ _ _ _ _))
          refine wpQuiet_nil ?_
          intro W3 hw'
          have hb3 : Below W2.heap.size W2 W3 := by
            obtain ⟨p, rfl⟩ := hw'
            exact below_regrown _ _ _
          go_wp2_with fail
          go_ret
          exact ⟨rfl, below_chain hbb hb3⟩
      · have e1 : lessB ka sa ka sb = false := (lessB_iff' ..).2 (by omega)
        have e2 : lessB ka sb ka sa = true := (lessB_iff ..).2 (by omega)
        have e3 : cmpI ka sa ka sb = 1 := by simp [cmpI, e1, e2]
        have e4 : cmpI ka sb ka sa = -1 := by simp [cmpI, e2]
        clear hl
        go_wp2_with fail
        refine wp_region_quiet_below (by kernel_rfl) (by kernel_rfl) ?_
        repeat (first | go_big_quiet_step (first | exact cL _ _ _ _ _ _ | exact cC _ _ _ _ _ _) | quiet_step (first | exact cL _ _ _ _ _ _ | exact cC _ _ _ _ _ _))
        refine wpQuiet_nil ?_
        intro W3 hw'
        have hb3 : Below W2.heap.size W2 W3 := by
          obtain ⟨p, rfl⟩ := hw'
          exact below_regrown _ _ _
        go_wp2_with fail
        go_ret
        exact ⟨rfl, below_chain hbb hb3⟩
  · by_cases hl : ka < kb
    · have e1 : lessB ka sa kb sb = true := (lessB_iff ..).2 (by omega)
      have e2 : lessB kb sb ka sa = false := (lessB_iff' ..).2 (by omega)
      have e3 : cmpI ka sa kb sb = -1 := by simp [cmpI, e1]
      have e4 : cmpI kb sb ka sa = 1 := by simp [cmpI, e1, e2]
      cases hbc : lessB kb sb kc sc
      rotate_left
      have hac : lessB ka sa kc sc = true := by rw [lessB_iff] at hbc ⊢; omega
      all_goals
        clear hl
        go_wp2_with fail
        refine wp_region_quiet_below (by kernel_rfl) (by kernel_rfl) ?_
        repeat (first | go_big_quiet_step (first | exact cL _ _ _ _ _ _ | exact cC _ _ _ _ _ _) | quiet_step (first | exact cL _ _ _ _ _ _ | exact cC _ _ _ _ _ _))
        refine wpQuiet_nil ?_
        intro W3 hw'
        have hb3 : Below W2.heap.size W2 W3 := by
          obtain ⟨p, rfl⟩ := hw'
          exact below_regrown _ _ _
        go_wp2_with fail
        go_ret
        exact ⟨rfl, below_chain hbb hb3⟩
    · have e1 : lessB ka sa kb sb = false := (lessB_iff' ..).2 (by omega)
      have e2 : lessB kb sb ka sa = true := (lessB_iff ..).2 (by omega)
      have e3 : cmpI ka sa kb sb = 1 := by simp [cmpI, e1, e2]
      have e4 : cmpI kb sb ka sa = -1 := by simp [cmpI, e2]
      clear hl
      go_wp2_with fail
      refine wp_region_quiet_below (by kernel_rfl) (by kernel_rfl) ?_
      repeat (first | go_big_quiet_step (first | exact cL _ _ _ _ _ _ | exact cC _ _ _ _ _ _) | quiet_step (first | exact cL _ _ _ _ _ _ | exact cC _ _ _ _ _ _))
      refine wpQuiet_nil ?_
      intro W3 hw'
      have hb3 : Below W2.heap.size W2 W3 := by
        obtain ⟨p, rfl⟩ := hw'
        exact below_regrown _ _ _
      go_wp2_with fail
      go_ret
      exact ⟨rfl, below_chain hbb hb3⟩
end Go.Proofs.YtglocekhgnlfaaaDoor
