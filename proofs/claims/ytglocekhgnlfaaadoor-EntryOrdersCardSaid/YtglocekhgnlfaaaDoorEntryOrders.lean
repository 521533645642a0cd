/- The statement EntryOrders, walked: for every two entries the call returns true, in every memory that holds the library's table; of what was in memory nothing is changed. -/
import Derived.Test.YtglocekhgnlfaaaDoorEntryAlive
import Derived.IntWalk
namespace Go.Proofs.YtglocekhgnlfaaaDoor
open Go.RowKit Go.Sort Go.Lib

theorem boxes2 {w w1 : World} {x y : Array Value} {t : TypeId} (h : Below ((w.alloc (.cells x t)).alloc (.cells y t)).heap.size ((w.alloc (.cells x t)).alloc (.cells y t)) w1) (o : Nat) :
    w1.cell? ⟨w.heap.size, o, none⟩ = ((w.alloc (.cells x t)).alloc (.cells y t)).cell? ⟨w.heap.size, o, none⟩ ∧ w1.cell? ⟨w.heap.size + 1, o, none⟩ = ((w.alloc (.cells x t)).alloc (.cells y t)).cell? ⟨w.heap.size + 1, o, none⟩ :=
  ⟨h.cell (p := ⟨w.heap.size, o, none⟩) (by simp; omega), h.cell (p := ⟨w.heap.size + 1, o, none⟩) (by simp)⟩

set_option maxHeartbeats 4000000 in
set_option maxRecDepth 100000 in
theorem orders_walk (ka sa kb sb : Int) (ha : -9223372036854775808 ≤ ka ∧ ka ≤ 9223372036854775807) (hbk : -9223372036854775808 ≤ kb ∧ kb ≤ 9223372036854775807) (w : World) (htab : Tab w) :
    Calls Tryd.prog 4 #[.agg #[.int .i64 ka, .int .u64 sa], .agg #[.int .i64 kb, .int .u64 sb]] w fun e w' => e = .returned (.bool true) ∧ Below w.heap.size w w' := by
  obtain ⟨ha0, ha1⟩ := ha
  obtain ⟨hk0, hk1⟩ := hbk
  go_enter Tryd.func4, Tryd.ntmps4
  go_wp2_with fail
  have hb0 : Below w.heap.size w ((w.alloc (.cells #[.int .i64 ka, .int .u64 sa] 24)).alloc (.cells #[.int .i64 kb, .int .u64 sb] 24)) :=
    (((Below.refl _ _).alloc (Nat.le_refl _) _).alloc (by simp) _)
  refine (alive_any _ (tab_below htab hb0)).mono ?_
  rintro e W ⟨rfl, hb1⟩
  have b0 := boxes2 hb1 0
  have b1 := boxes2 hb1 1
  have c00 : W.cell? ⟨w.heap.size, 0, none⟩ = some (.int .i64 ka) := by rw [b0.1]; go_simp
  have c01 : W.cell? ⟨w.heap.size, 1, none⟩ = some (.int .u64 sa) := by rw [b1.1]; go_simp
  have c10 : W.cell? ⟨w.heap.size + 1, 0, none⟩ = some (.int .i64 kb) := by rw [b0.2]; go_simp
  have c11 : W.cell? ⟨w.heap.size + 1, 1, none⟩ = some (.int .u64 sb) := by rw [b1.2]; go_simp
  have hb := below_chain hb0 hb1
  clear b0 b1 hb0 hb1
  go_wp2_with fail
  have k00 := cell_regrown c00
  have k01 := cell_regrown c01
  have k10 := cell_regrown c10
  have k11 := cell_regrown c11
  have cL : ∀ d os, Calls Tryd.prog 11 #[.agg #[.int .i64 ka, .int .u64 sa], .agg #[.int .i64 kb, .int .u64 sb]] (grow (redrawn W d) os) fun e w'' => e = .returned (.bool (lessB ka sa kb sb)) ∧ ∃ p : Regrown, w'' = grow (redrawn W p.d) p.os := fun d os => Calls.regrown_of (less_any ka sa kb sb _)
  have cM : ∀ d os, Calls Tryd.prog 12 #[.agg #[.int .i64 ka, .int .u64 sa], .agg #[.int .i64 kb, .int .u64 sb]] (grow (redrawn W d) os) fun e w'' => e = .returned (.bool (lessB ka sa kb sb)) ∧ ∃ p : Regrown, w'' = grow (redrawn W p.d) p.os := fun d os => Calls.regrown_of (refLess_any ka sa kb sb _)
  have cC : ∀ d os, Calls Tryd.prog 13 #[.agg #[.int .i64 ka, .int .u64 sa], .agg #[.int .i64 kb, .int .u64 sb]] (grow (redrawn W d) os) fun e w'' => e = .returned (.int .i64 (cmpI ka sa kb sb)) ∧ ∃ p : Regrown, w'' = grow (redrawn W p.d) p.os := fun d os => Calls.regrown_of (compare_any ka sa kb sb _)
  have cD : ∀ d os, Calls Tryd.prog 14 #[.agg #[.int .i64 ka, .int .u64 sa], .agg #[.int .i64 kb, .int .u64 sb]] (grow (redrawn W d) os) fun e w'' => e = .returned (.int .i64 (cmpI ka sa kb sb)) ∧ ∃ p : Regrown, w'' = grow (redrawn W p.d) p.os := fun d os => Calls.regrown_of (refCompare_any ka sa kb sb _)
  have cT : ∀ d os, Calls Tryd.prog 15 #[.int .i64 ka] (grow (redrawn W d) os) fun e w'' => e = .returned (.int .i64 (-1 - ka)) ∧ ∃ p : Regrown, w'' = grow (redrawn W p.d) p.os := fun d os => Calls.regrown_of (turn_any ka ha0 ha1 _)
  have cU : ∀ d os, Calls Tryd.prog 15 #[.int .i64 kb] (grow (redrawn W d) os) fun e w'' => e = .returned (.int .i64 (-1 - kb)) ∧ ∃ p : Regrown, w'' = grow (redrawn W p.d) p.os := fun d os => Calls.regrown_of (turn_any kb hk0 hk1 _)
  have hw1 : IntKind.i64.wrap (-1 - ka) = -1 - ka := IntWalk.i64_in _ (by omega)
  have hd : (decide (-1 - ka < -1 - kb) == decide (kb < ka)) = true := by simp
  generalize cmpI ka sa kb sb = cc at *
  generalize lessB ka sa kb sb = ll at *
  refine wp_region_quiet_below (by kernel_rfl) (by kernel_rfl) ?_
  repeat (go_big_quiet_step (first | exact cL _ _ | exact cM _ _ | exact cC _ _ | exact cD _ _ | exact cT _ _ | exact cU _ _))
  refine wpQuiet_nil ?_
  intro W3 hw'
  have hb3 : Below W.heap.size W W3 := by
    obtain ⟨p, rfl⟩ := hw'
    exact below_regrown _ _ _
  go_wp2_with fail
  go_ret
  exact ⟨rfl, below_chain hb hb3⟩
end Go.Proofs.YtglocekhgnlfaaaDoor
