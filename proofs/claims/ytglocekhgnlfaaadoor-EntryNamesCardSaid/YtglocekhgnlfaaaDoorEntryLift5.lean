/- What a row's list of three tables and two error values gives the walks, and a world for its witness: the heap that the program's own initialisers leave. -/
import Derived.Test.YtglocekhgnlfaaaDoorEntryLift
import Derived.Test.YtglocekhgnlfaaaDoorEntryRead
namespace Go.Proofs.YtglocekhgnlfaaaDoor
open Go.ChangeShapes Go.WideShapes Go.ChangeAt Go.RowKit Go.ChangeMaps

def list5 : List (String × DataW Unit) := [("math/bits.deBruijn32tab", Rows.laid_math_bits_deBruijn32tab), ("math/bits.deBruijn64tab", Rows.laid_math_bits_deBruijn64tab), ("internal/strconv.uint64pow10", Rows.laid_internal_strconv_uint64pow10), ("strconv.ErrRange", Rows.laid_strconv_ErrRange), ("strconv.ErrSyntax", Rows.laid_strconv_ErrSyntax)]

theorem gFar : Tryd.prog.globalNamed "strconv.ErrRange" = some 3 := by kernel_rfl
theorem gFarType : (Tryd.prog.globals[3]?).map (·.type) = some 49 := by kernel_rfl
theorem gBad : Tryd.prog.globalNamed "strconv.ErrSyntax" = some 2 := by kernel_rfl
theorem gBadType : (Tryd.prog.globals[2]?).map (·.type) = some 49 := by kernel_rfl
theorem rowErr (u : TypeId) (h : Tryd.prog.typeName? 3 u = some "*errors.errorString") : u = 87 :=
  typeName_ptr_named (nm := "errors.errorString") (by kernel_rfl) (by kernel_rfl) (by decide) u h
theorem at_of5 {W : World} (h : laidMetH Tryd.prog list5 W) (hS : W.ShapedOpen Tryd.prog) : At W := by
  rw [MakeChecks.laidMetH_plain _ _ _ (by kernel_rfl)] at h
  refine ⟨?_, ?_, ?_, Tryd.laysM145.s1_3 W hS⟩
  · exact Lib.tabIs_of_head gPow gPowType Tryd.underlying74 Tryd.underlying22 cellsU64 cellsPow h.tail.tail
  · obtain ⟨a, s, hv, _⟩ := laid_sentinel h.tail.tail.tail.tail gBad gBadType Tryd.underlying49 rowErr Tryd.underlying87 Tryd.underlying89 rfl rfl Tryd.underlying9 (by kernel_rfl) (by kernel_rfl)
    exact ⟨_, _, hv⟩
  · obtain ⟨a, s, hv, _⟩ := laid_sentinel h.tail.tail.tail gFar gFarType Tryd.underlying49 rowErr Tryd.underlying87 Tryd.underlying89 rfl rfl Tryd.underlying9 (by kernel_rfl) (by kernel_rfl)
    exact ⟨_, _, hv⟩
theorem door5 (os : Os) (args : Array Value) : laidMetH Tryd.prog list5 ((World.doorLaid Tryd.prog 62 os).forCall (fun _ _ => 0) ⟨#[], args, []⟩).memory :=
  laidMetH_of_parts3 (fuel := 8) (laidMet_of_run' 8 (by kernel_rfl) (by kernel_rfl)) (by kernel_rfl) (by kernel_rfl)
end Go.Proofs.YtglocekhgnlfaaaDoor
