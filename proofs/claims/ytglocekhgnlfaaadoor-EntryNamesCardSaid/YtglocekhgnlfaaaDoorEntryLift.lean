/- What the rows' list of package-level variables gives the walks, an entry read and written, and a world for the witness: the heap that the program's own initialisers leave. -/
import Derived.Test.YtglocekhgnlfaaaDoorBase
import Derived.Test.YtglocekhgnlfaaaDoorCards
import Derived.Test.YtglocekhgnlfaaaDoorTie
import Derived.Test.YtglocekhgnlfaaaDoorEntryText
import Derived.WalkKit
import Derived.ProofKit
import Derived.OpenShut
import Derived.Deep.DeepHandedRow
import Derived.Deep.DeepWitnessRowRef
import Derived.Lib.LaidTab
import Derived.Lib.SmallJoins
import Derived.LaidMore
import Derived.LaidHandle
import Derived.Stop.LaidErr
namespace Go.Proofs.YtglocekhgnlfaaaDoor
open Go.ChangeShapes Go.WideShapes Go.ChangeAt Go.RowKit Go.ChangeMaps

theorem own : ownKnob Tryd.prog.godebug = none := by kernel_rfl
theorem gPow : Tryd.prog.globalNamed "internal/strconv.uint64pow10" = some 1 := by kernel_rfl
theorem gPowType : (Tryd.prog.globals[1]?).map (·.type) = some 74 := by kernel_rfl
theorem cellsPow : Tryd.prog.cellsOf 74 = 20 := by kernel_rfl
theorem cellsU64 : Tryd.prog.cellsOf 22 = 1 := by kernel_rfl
theorem cellsEntry : Tryd.prog.cellsOf 24 = 2 := by kernel_rfl

/-- The list of three tables. -/
def list3 : List (String × DataW Unit) := [("math/bits.deBruijn32tab", Rows.laid_math_bits_deBruijn32tab), ("math/bits.deBruijn64tab", Rows.laid_math_bits_deBruijn64tab), ("internal/strconv.uint64pow10", Rows.laid_internal_strconv_uint64pow10)]
theorem tab_of3 {W : World} (h : laidMetH Tryd.prog list3 W) : Tab W := by
  rw [MakeChecks.laidMetH_plain _ _ _ (by kernel_rfl)] at h
  have h2 := h.tail.tail
  exact Lib.tabIs_of_head (rest := []) gPow gPowType Tryd.underlying74 Tryd.underlying22 cellsU64 cellsPow h2
theorem door3 (os : Os) (args : Array Value) : laidMetH Tryd.prog list3 ((World.doorLaid Tryd.prog 62 os).forCall (fun _ _ => 0) ⟨#[], args, []⟩).memory :=
  laidMetH_of_parts3 (fuel := 8) (laidMet_of_run' 8 (by kernel_rfl) (by kernel_rfl)) (by kernel_rfl) (by kernel_rfl)

section
variable {H : Type} {enc : TypeId × Value → H}
/-- An entry that comes in: its two numbers, in their ranges. -/
theorem open_entry {w : World} {base : Nat} {spare : Nat → Bool} {held : Bool} {r : Reach} {b0 : Nat} {v : Value} {d : DataW H} {p : List MemPlace} (hv : Value.okWide Tryd.prog w r b0 24 v) (h : DataW.Trod enc Tryd.prog w base spare held 24 v d p) :
    ∃ k s : Int, v = .agg #[.int .i64 k, .int .u64 s] ∧ d = .agg [.lit (.int .i64 k), .lit (.int .u64 s)] ∧ p = [] ∧ (-9223372036854775808 ≤ k ∧ k ≤ 9223372036854775807) ∧ (0 ≤ s ∧ s ≤ 18446744073709551615) := by
  obtain ⟨v0, v1, y0, y1, n, rfl, rfl, rfl, h0, h1⟩ := Joins.open_agg2 (Tryd.underlying24) (by kernel_rfl) cellsEntry hv h
  obtain ⟨k, e0, rfl, w0⟩ := DataW.trod_int Tryd.underlying2 h0
  obtain ⟨s, e1, rfl, w1⟩ := DataW.trod_int Tryd.underlying22 h1
  simp only [List.cons.injEq, and_true] at e0 e1
  subst e0 e1
  exact ⟨k, s, rfl, rfl, rfl, bounds_i64 w0, bounds_u64 w1⟩
theorem shut_entry {w : World} {base : Nat} {spare : Nat → Bool} {held : Bool} {k s : Int} (hk : -9223372036854775808 ≤ k ∧ k ≤ 9223372036854775807) (hs : 0 ≤ s ∧ s ≤ 18446744073709551615) :
    DataW.Trod enc Tryd.prog w base spare held 24 (.agg #[.int .i64 k, .int .u64 s]) (.agg [.lit (.int .i64 k), .lit (.int .u64 s)]) [] :=
  Joins.shut_agg2 (Tryd.underlying24) (by kernel_rfl) cellsEntry
    (Joins.field_of_Trod (shut_int Tryd.underlying2 (WalkArith.wf_i64 hk)) rfl)
    (Joins.field_of_Trod (shut_int Tryd.underlying22 (by simp [Lit.wf, IntKind.min, IntKind.max, IntKind.signed, IntKind.bits]; omega)) rfl)
end
end Go.Proofs.YtglocekhgnlfaaaDoor
