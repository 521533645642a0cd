/- The statement EntryReads, walked: for every text the call returns true, in every memory that holds the library's table and its two error values; of what was in memory nothing is changed. -/
import Derived.Test.YtglocekhgnlfaaaDoorEntryAlive
import Derived.Test.YtglocekhgnlfaaaDoorEntryRefRead
namespace Go.Proofs.YtglocekhgnlfaaaDoor
open Go.RowKit Go.Sort Go.Lib

set_option maxHeartbeats 2000000 in
set_option maxRecDepth 100000 in
theorem reads_walk (s : ByteArray) (w : World) (h : At w) :
    Calls Tryd.prog 6 #[.string s] w fun e w' => e = .returned (.bool true) ∧ Below w.heap.size w w' := by
  by_cases hs : 300 < s.size
  · have hs' : (300 : Int) < (s.size : Int) := by omega
    go_enter Tryd.func6, Tryd.ntmps6
    go_wp2_with fail
    refine (alive_any _ h.tab).mono ?_
    rintro e w1 ⟨rfl, hb1⟩
    go_wp2_with fail
    go_ret
    exact ⟨rfl, hb1⟩
  · have hs' : (s.size : Int) ≤ 300 := by omega
    have nE := number_any s (by omega)
    have nR := refNumber_any s (by omega)
    have pE := parse_any s (by omega)
    have pR := refParse_any s (by omega)
    rw [Num.num_same] at nE
    rw [← Num.parse_same] at pR
    generalize Num.numR s.data.toList = x at *
    generalize Num.parE s.data.toList = r at *
    obtain ⟨n, ok⟩ := x
    obtain ⟨⟨k, q⟩, f⟩ := r
    have HE := Lib.hid nE
    have HR := Lib.hid nR
    have HP := Lib.hid pE
    have HQ := Lib.hid pR
    clear nE nR pE pR
    go_enter Tryd.func6, Tryd.ntmps6
    go_wp2_with fail
    refine (alive_any _ h.tab).mono ?_
    rintro e w1 ⟨rfl, hb1⟩
    have h1 := h.below hb1
    go_wp2_with fail
    refine (HE.out _ h1).mono ?_
    rintro e w2 ⟨rfl, hb2⟩
    go_wp2_with fail
    refine (HR.out _).mono ?_
    rintro e w3 ⟨rfl, rfl⟩
    go_wp2_with fail
    refine (HP.out _ (h1.below hb2)).mono ?_
    rintro e w3 ⟨rfl, hb3⟩
    go_wp2_with fail
    refine (HQ.out _).mono ?_
    rintro e w4 ⟨rfl, hb4⟩
    have c0 : w4.cell? ⟨w3.heap.size, 0, none⟩ = some (.int .i64 k) := by rw [hb4.cell (p := ⟨w3.heap.size, 0, none⟩) (by simp)]; go_simp
    have c1 : w4.cell? ⟨w3.heap.size, 1, none⟩ = some (.int .u64 q) := by rw [hb4.cell (p := ⟨w3.heap.size, 1, none⟩) (by simp)]; go_simp
    have hb := (below_chain (below_chain (below_chain hb1 hb2) hb3) ((Below.refl w3.heap.size w3).alloc (Nat.le_refl _) (.cells #[.int .i64 k, .int .u64 q] 24)))
    have hbb := hb.trans (hb4.mono (by have := hb.size; simp at this ⊢; omega))
    have hz : w3.heap.size < w4.heap.size := by have := hb4.size; simp at this; omega
    clear hb1 hb2 hb3 hb4 hb h1
    go_wp2_with fail
    go_ret
    exact ⟨rfl, hbb.alloc hbb.size _⟩
end Go.Proofs.YtglocekhgnlfaaaDoor
