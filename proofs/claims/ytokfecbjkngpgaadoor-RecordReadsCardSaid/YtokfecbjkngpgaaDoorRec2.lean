/- Package record's Right: for every record, in every memory that holds the table of shapes; of what was in memory nothing is changed. -/
import Derived.Test.YtokfecbjkngpgaaDoorRec
namespace Go.Proofs.YtokfecbjkngpgaaDoor
open Go.RowKit Go.Sort Go.Lib

/-- Two records: one, or where they part first. -/
theorem rec_cases (o a b k o' a' b' k' : Int) : ((⟨o, a, b, k⟩ : Rec.R) = ⟨o', a', b', k'⟩) ∨ ((⟨o, a, b, k⟩ : Rec.R) ≠ ⟨o', a', b', k'⟩ ∧ ((o == o') = false ∨ (o = o' ∧ ((a == a') = false ∨ (a = a' ∧ ((b == b') = false ∨ (b = b' ∧ (k == k') = false))))))) := by
  by_cases h1 : o = o'
  · by_cases h2 : a = a'
    · by_cases h3 : b = b'
      · by_cases h4 : k = k'
        · exact .inl (by simp [h1, h2, h3, h4])
        · exact .inr ⟨by simp [h4], .inr ⟨h1, .inr ⟨h2, .inr ⟨h3, by simpa using h4⟩⟩⟩⟩
      · exact .inr ⟨by simp [h3], .inr ⟨h1, .inr ⟨h2, .inl (by simpa using h3)⟩⟩⟩
    · exact .inr ⟨by simp [h2], .inr ⟨h1, .inl (by simpa using h2)⟩⟩
  · exact .inr ⟨by simp [h1], .inl (by simpa using h1)⟩
/-- What Right does, of a record and what is left of it. -/
theorem right_of (o a b k o' a' b' k' : Int) (w : World) (h : Shapes w) (hc : ∀ w : World, Shapes w → Calls Tryd.prog 13 #[recV ⟨o, a, b, k⟩] w fun e w' => e = .returned (recV ⟨o', a', b', k'⟩) ∧ Below w.heap.size w w') :
    Calls Tryd.prog 11 #[recV ⟨o, a, b, k⟩] w fun e w' => e = .returned (.bool (decide ((⟨o', a', b', k'⟩ : Rec.R) = ⟨o, a, b, k⟩))) ∧ Below w.heap.size w w' := by
  have HC := Lib.hid hc
  clear hc
  have hb0 := (Below.refl w.heap.size w).alloc (Nat.le_refl _) (Obj.cells #[.int .i64 o, .int .u32 a, .int .u32 b, .int .i64 k] 24)
  have hs0 := h.below hb0
  have hz : w.heap.size < (w.alloc (Obj.cells #[.int .i64 o, .int .u32 a, .int .u32 b, .int .i64 k] 24)).heap.size := by simp
  have c0 : (w.alloc (Obj.cells #[.int .i64 o, .int .u32 a, .int .u32 b, .int .i64 k] 24)).cell? ⟨w.heap.size, 0, none⟩ = some (.int .i64 o) := by go_simp
  have c1 : (w.alloc (Obj.cells #[.int .i64 o, .int .u32 a, .int .u32 b, .int .i64 k] 24)).cell? ⟨w.heap.size, 1, none⟩ = some (.int .u32 a) := by go_simp
  have c2 : (w.alloc (Obj.cells #[.int .i64 o, .int .u32 a, .int .u32 b, .int .i64 k] 24)).cell? ⟨w.heap.size, 2, none⟩ = some (.int .u32 b) := by go_simp
  have c3 : (w.alloc (Obj.cells #[.int .i64 o, .int .u32 a, .int .u32 b, .int .i64 k] 24)).cell? ⟨w.heap.size, 3, none⟩ = some (.int .i64 k) := by go_simp
  have k0 := cell_regrown c0
  have k1 := cell_regrown c1
  have k2 := cell_regrown c2
  have k3 := cell_regrown c3
  go_enter Tryd.func11, Tryd.ntmps11
  go_wp2
  generalize w.alloc (Obj.cells #[.int .i64 o, .int .u32 a, .int .u32 b, .int .i64 k] 24) = W at *
  have cA : ∀ d os, Calls Tryd.prog 13 #[recV ⟨o, a, b, k⟩] (grow (redrawn W d) os) fun e w'' => e = .returned (recV ⟨o', a', b', k'⟩) ∧ ∃ p : Regrown, w'' = grow (redrawn W p.d) p.os := fun d os => Calls.regrown_of (HC.out _ (hs0.below (below_regrown W d os)))
  rcases rec_cases o a b k o' a' b' k' with e | ⟨e, g | ⟨rfl, g | ⟨rfl, g | ⟨rfl, g⟩⟩⟩⟩
  · obtain ⟨rfl, rfl, rfl, rfl⟩ := (by simpa using e : o = o' ∧ a = a' ∧ b = b' ∧ k = k')
    refine wp_region_quiet_below (by kernel_rfl) (by kernel_rfl) ?_
    repeat (first | go_big_quiet_step (first | with_reducible exact cA _ _) | quiet_step (fail))
    refine wpQuiet_nil ?_
    intro W3 hw'
    replace hw' := below_regrown' hw'
    go_wp2_with fail
    go_ret
    exact ⟨ret_bool (by simp), below_chain hb0 hw'⟩
  all_goals
    refine wp_region_quiet_below (by kernel_rfl) (by kernel_rfl) ?_
    repeat (first | go_big_quiet_step (first | with_reducible exact cA _ _) | quiet_step (fail))
    refine wpQuiet_nil ?_
    intro W3 hw'
    replace hw' := below_regrown' hw'
    go_wp2_with fail
    go_ret
    exact ⟨ret_bool (decide_eq_false (Ne.symm e)).symm, below_chain hb0 hw'⟩
theorem right_any (r : Rec.R) (w : World) (h : Shapes w) :
    Calls Tryd.prog 11 #[recV r] w fun e w' => e = .returned (.bool (Rec.right r)) ∧ Below w.heap.size w w' := by
  have hc := clean_any r
  unfold Rec.right
  generalize Rec.clean r = c at *
  rcases r with ⟨o, a, b, k⟩
  rcases c with ⟨o', a', b', k'⟩
  exact right_of o a b k o' a' b' k' w h hc
end Go.Proofs.YtokfecbjkngpgaaDoor
