/- The statement RecordTells, walked; of what was in memory nothing is changed. -/
import Derived.Test.YtokfecbjkngpgaaDoorRecAlive
namespace Go.Proofs.YtokfecbjkngpgaaDoor
open Go.RowKit Go.Sort Go.Lib

set_option maxHeartbeats 4000000 in
set_option maxRecDepth 100000 in
theorem tells_walk (o a b k : Int) (hin : Rec.InR ⟨o, a, b, k⟩) (w : World) (h : Env w) :
    Calls Tryd.prog 4 #[recV ⟨o, a, b, k⟩] w fun e w' => e = .returned (.bool true) ∧ Below w.heap.size w w' := by
  have hR := fun w (h : Env w) => right_any ⟨o, a, b, k⟩ w h.sh
  have hC := fun w (h : Env w) => clean_any ⟨o, a, b, k⟩ w h.sh
  have hT := fun w (h : Env w) => text_any ⟨o, a, b, k⟩ hin w h.sh h.at'.tab
  have rR := refRight_any ⟨o, a, b, k⟩
  have rC := refClean_any ⟨o, a, b, k⟩
  have rT := refText_any ⟨o, a, b, k⟩ hin
  generalize Rec.right ⟨o, a, b, k⟩ = R at *
  generalize Rec.clean ⟨o, a, b, k⟩ = c at *
  generalize bs (Rec.txt ⟨o, a, b, k⟩) = T at *
  obtain ⟨o', a', b', k'⟩ := c
  have HR := Lib.hid hR
  have HC := Lib.hid hC
  have HT := Lib.hid hT
  have QR := Lib.hid rR
  have QC := Lib.hid rC
  have QT := Lib.hid rT
  clear hR hC hT rR rC rT hin
  have hs0 := (Stage.start w).alloc #[.int .i64 o, .int .u32 a, .int .u32 b, .int .i64 k] 24
  go_enter Tryd.func4, Tryd.ntmps4
  go_wp2_with fail
  refine (alive_any _ (h.below hs0.below)).mono ?_
  rintro e W ⟨rfl, hb1⟩
  have hs := hs0.later hb1
  clear hs0 hb1
  have he := h.below hs.below
  have k0 := cell_regrown (hs.cell 0 rfl rfl : W.cell? ⟨w.heap.size, 0, none⟩ = some (.int .i64 o))
  have k1 := cell_regrown (hs.cell 0 rfl rfl : W.cell? ⟨w.heap.size, 1, none⟩ = some (.int .u32 a))
  have k2 := cell_regrown (hs.cell 0 rfl rfl : W.cell? ⟨w.heap.size, 2, none⟩ = some (.int .u32 b))
  have k3 := cell_regrown (hs.cell 0 rfl rfl : W.cell? ⟨w.heap.size, 3, none⟩ = some (.int .i64 k))
  have c1 : ∀ d os, Calls Tryd.prog 11 #[recV ⟨o, a, b, k⟩] (grow (redrawn W d) os) fun e w'' => e = .returned (.bool R) ∧ ∃ p : Regrown, w'' = grow (redrawn W p.d) p.os := fun d os => Calls.regrown_of (HR.out _ (he.below (below_regrown W d os)))
  have c2 : ∀ d os, Calls Tryd.prog 12 #[recV ⟨o, a, b, k⟩] (grow (redrawn W d) os) fun e w'' => e = .returned (.bool R) ∧ ∃ p : Regrown, w'' = grow (redrawn W p.d) p.os := fun d os => Calls.regrown_of (QR.out _)
  have c3 : ∀ d os, Calls Tryd.prog 13 #[recV ⟨o, a, b, k⟩] (grow (redrawn W d) os) fun e w'' => e = .returned (recV ⟨o', a', b', k'⟩) ∧ ∃ p : Regrown, w'' = grow (redrawn W p.d) p.os := fun d os => Calls.regrown_of (HC.out _ (he.below (below_regrown W d os)))
  have c4 : ∀ d os, Calls Tryd.prog 14 #[recV ⟨o, a, b, k⟩] (grow (redrawn W d) os) fun e w'' => e = .returned (recV ⟨o', a', b', k'⟩) ∧ ∃ p : Regrown, w'' = grow (redrawn W p.d) p.os := fun d os => Calls.regrown_of (QC.out _)
  have c5 : ∀ d os, Calls Tryd.prog 15 #[recV ⟨o, a, b, k⟩] (grow (redrawn W d) os) fun e w'' => e = .returned (.string T) ∧ ∃ p : Regrown, w'' = grow (redrawn W p.d) p.os := fun d os => Calls.regrown_of (HT.out _ (he.below (below_regrown W d os)))
  have c6 : ∀ d os, Calls Tryd.prog 16 #[recV ⟨o, a, b, k⟩] (grow (redrawn W d) os) fun e w'' => e = .returned (.string T) ∧ ∃ p : Regrown, w'' = grow (redrawn W p.d) p.os := fun d os => Calls.regrown_of (QT.out _)
  go_upto_region 3 with fail
  refine wp_region_quiet_below (by kernel_rfl) (by kernel_rfl) ?_
  repeat (first | go_big_quiet_step (first | with_reducible exact c1 _ _ | with_reducible exact c2 _ _ | with_reducible exact c3 _ _ | with_reducible exact c4 _ _ | with_reducible exact c5 _ _ | with_reducible exact c6 _ _) | quiet_step (fail))
  refine wpQuiet_nil ?_
  intro W3 hw'
  replace hw' := below_regrown' hw'
  go_wp2_with fail
  go_ret
  exact ⟨ret_bool (by cases R <;> simp), (hs.later hw').below⟩
end Go.Proofs.YtokfecbjkngpgaaDoor
