/- The statement EntryNames, walked: the call returns true, in every memory that holds the library's table and its two error values; of what was in memory nothing is changed. -/
import Derived.Test.YtglocekhgnlfaaaDoorEntryAlive
import Derived.Test.YtglocekhgnlfaaaDoorEntryRead
namespace Go.Proofs.YtglocekhgnlfaaaDoor
open Go.RowKit Go.Sort Go.Lib

abbrev manyS : ByteArray := ⟨#[45, 57, 50, 50, 51, 51, 55, 50, 48, 51, 54, 56, 53, 52, 55, 55, 53, 56, 48, 56, 35, 49, 56, 52, 52, 54, 55, 52, 52, 48, 55, 51, 55, 48, 57, 53, 53, 49, 54, 49, 53]⟩

theorem parE_seven : Num.parE (⟨#[55]⟩ : ByteArray).data.toList = ((0, 0), 11) := by decide +kernel
theorem parE_many : Num.parE manyS.data.toList = ((-9223372036854775808, 18446744073709551615), 0) := by decide +kernel

set_option maxHeartbeats 2000000 in
set_option maxRecDepth 100000 in
theorem names_walk (w : World) (h : At w) :
    Calls Tryd.prog 3 #[] w fun e w' => e = .returned (.bool true) ∧ Below w.heap.size w w' := by
  have p7 := parse_any ⟨#[55]⟩ (by decide)
  have pM := parse_any manyS (by decide)
  rw [parE_seven] at p7
  rw [parE_many] at pM
  have H7 := Lib.hid p7
  have HM := Lib.hid pM
  clear p7 pM
  go_enter Tryd.func3, Tryd.ntmps3
  go_wp2_with fail
  refine (H7.out _ h).mono ?_
  rintro e w1 ⟨rfl, hb1⟩
  go_wp2_with fail
  have h1 := (h.below hb1).below ((Below.refl _ _).alloc (Nat.le_refl _) (.cells #[.int .i64 0, .int .u64 0] 24))
  have hb2 := below_chain hb1 ((Below.refl _ _).alloc (Nat.le_refl _) (.cells #[.int .i64 0, .int .u64 0] 24))
  refine (HM.out _ h1).mono ?_
  rintro e w2 ⟨rfl, hb3⟩
  have hb4 := below_chain hb2 hb3
  go_wp2_with fail
  have hb5 := (Below.refl w2.heap.size w2).alloc (Nat.le_refl _) (.cells #[.int .i64 (-9223372036854775808), .int .u64 18446744073709551615] 24)
  refine (alive_any _ ((h1.below hb3).below hb5).tab).mono ?_
  rintro e w3 ⟨rfl, hb6⟩
  have c0 : w3.cell? ⟨w2.heap.size, 0, none⟩ = some (.int .i64 (-9223372036854775808)) := by rw [hb6.cell (p := ⟨w2.heap.size, 0, none⟩) (by simp)]; go_simp
  have c1 : w3.cell? ⟨w2.heap.size, 1, none⟩ = some (.int .u64 18446744073709551615) := by rw [hb6.cell (p := ⟨w2.heap.size, 1, none⟩) (by simp)]; go_simp
  have hb := below_chain (below_chain hb4 hb5) hb6
  clear hb1 hb2 hb3 hb4 hb5 hb6 h1
  go_wp2_with fail
  go_ret
  exact ⟨rfl, hb⟩
end Go.Proofs.YtglocekhgnlfaaaDoor
