/- The statement's own check of the chapter's examples returns true in every memory that holds the library's table; of what was in memory nothing is changed. -/
import Derived.Test.YtglocekhgnlfaaaDoorEntryLess
import Derived.Test.YtglocekhgnlfaaaDoorEntryText
namespace Go.Proofs.YtglocekhgnlfaaaDoor
open Go.RowKit Go.Sort Go.Lib

theorem alive_text (w : World) (htab : Tab w) :
    Calls Tryd.prog 16 #[.agg #[.int .i64 (-5), .int .u64 7]] w fun e w' => e = .returned (.string ⟨#[45, 53, 35, 55]⟩) ∧ Below w.heap.size w w' := by
  have h := text_any (-5) 7 (by omega) (by omega) (by omega) w htab
  have e : entText (-5) 7 = [45, 53, 35, 55] := by decide +kernel
  rw [e] at h
  exact h

set_option maxHeartbeats 1000000 in
theorem alive_any (w : World) (htab : Tab w) :
    Calls Tryd.prog 10 #[] w fun e w' => e = .returned (.bool true) ∧ Below w.heap.size w w' := by
  have l1 : lessB (-5) 7 (-5) 8 = true := by decide
  have l2 : lessB (-5) 7 (-4) 0 = true := by decide
  go_enter Tryd.func10, Tryd.ntmps10
  go_wp2_with fail
  have hb0 : Below w.heap.size w (((w.alloc (.cells #[.int .i64 (-5), .int .u64 7] 24)).alloc (.cells #[.int .i64 (-5), .int .u64 8] 24)).alloc (.cells #[.int .i64 (-4), .int .u64 0] 24)) :=
    ((((Below.refl _ _).alloc (Nat.le_refl _) _).alloc (by simp) _).alloc (by simp; omega) _)
  refine (alive_text _ (tab_below htab hb0)).mono ?_
  rintro e w1 ⟨rfl, hb1⟩
  have c : ∀ b o, b < w.heap.size + 3 → w1.cell? ⟨b, o, none⟩ = (((w.alloc (.cells #[.int .i64 (-5), .int .u64 7] 24)).alloc (.cells #[.int .i64 (-5), .int .u64 8] 24)).alloc (.cells #[.int .i64 (-4), .int .u64 0] 24)).cell? ⟨b, o, none⟩ := fun b o hb => hb1.cell (p := ⟨b, o, none⟩) (by simp; omega)
  have c00 : w1.cell? ⟨w.heap.size, 0, none⟩ = some (.int .i64 (-5)) := by rw [c _ _ (by omega)]; go_simp
  have c01 : w1.cell? ⟨w.heap.size, 1, none⟩ = some (.int .u64 7) := by rw [c _ _ (by omega)]; go_simp
  have c10 : w1.cell? ⟨w.heap.size + 1, 0, none⟩ = some (.int .i64 (-5)) := by rw [c _ _ (by omega)]; go_simp
  have c11 : w1.cell? ⟨w.heap.size + 1, 1, none⟩ = some (.int .u64 8) := by rw [c _ _ (by omega)]; go_simp
  have c20 : w1.cell? ⟨w.heap.size + 1 + 1, 0, none⟩ = some (.int .i64 (-4)) := by rw [c _ _ (by omega)]; go_simp
  have c21 : w1.cell? ⟨w.heap.size + 1 + 1, 1, none⟩ = some (.int .u64 0) := by rw [c _ _ (by omega)]; go_simp
  have hsz : w.heap.size + 3 ≤ w1.heap.size := by have := hb1.size; simp at this; omega
  have hb := below_chain hb0 hb1
  clear c hb0 hb1
  go_wp2_with fail
  have hl1 := less_any (-5) 7 (-5) 8 w1
  rw [l1] at hl1
  refine hl1.mono ?_
  rintro e w2 ⟨rfl, hb2⟩
  have d00 : w2.cell? ⟨w.heap.size, 0, none⟩ = some (.int .i64 (-5)) := by rw [hb2.cell (p := ⟨w.heap.size, 0, none⟩) (by simp; omega)]; exact c00
  have d01 : w2.cell? ⟨w.heap.size, 1, none⟩ = some (.int .u64 7) := by rw [hb2.cell (p := ⟨w.heap.size, 1, none⟩) (by simp; omega)]; exact c01
  have d20 : w2.cell? ⟨w.heap.size + 1 + 1, 0, none⟩ = some (.int .i64 (-4)) := by rw [hb2.cell (p := ⟨w.heap.size + 1 + 1, 0, none⟩) (by simp; omega)]; exact c20
  have d21 : w2.cell? ⟨w.heap.size + 1 + 1, 1, none⟩ = some (.int .u64 0) := by rw [hb2.cell (p := ⟨w.heap.size + 1 + 1, 1, none⟩) (by simp; omega)]; exact c21
  clear hl1
  go_wp2_with fail
  have hl2 := less_any (-5) 7 (-4) 0 w2
  rw [l2] at hl2
  refine hl2.mono ?_
  rintro e w3 ⟨rfl, hb3⟩
  clear hl2
  go_wp2_with fail
  go_ret
  exact ⟨rfl, below_chain (below_chain hb hb2) hb3⟩
end Go.Proofs.YtglocekhgnlfaaaDoor
