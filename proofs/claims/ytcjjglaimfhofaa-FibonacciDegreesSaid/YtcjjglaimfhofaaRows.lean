/-
  No cell of these rows narrows 'for every input' (looked for: loops, veiled, ifaces, maps, wideKeys, modest, calm, conditions, laid).
  DERIVED. THE GIVEN ROWS OF THIS SEAT. 7 by the template 'for every input the law returns true; each argument reads behind the call as it read before'; 0 by the template 'total and deterministic' (their statements: YtcjjglaimfhofaaTotals.lean).
  GIVEN WITH THE SEED: the statements are not yours to turn. If you find one false, say at which input.
  Laid BY PROGRAM, IN A SANDBOX (cutbox-rows.mjs): the forced cells as the released guide's own fill.sh prints them over the translation 068e493371eac9e8… (all of the seat's roots in one cut). By AI agents, Wed Nov 11 2026. No macro, syntax, notation, axiom, sorry.
-/
import Derived.Test.YtcjjglaimfhofaaChecked
import GoSem.Claim
import GoSem.ClaimJoined
import GoSem.ClaimMapViews
import Derived.JoinedTies
import Derived.KernelRfl
namespace Go.Proofs.Ytcjjglaimfhofaa
/- THE CELL 'sum', in the pinned program and in every row, IS THE sha256 OF THE DUMP (.gsa) THAT YtcjjglaimfhofaaProg.lean LOADS. Nothing in Lean hashes anything: it is a label: what it is worth is what the hold of that sum in a sandbox is worth. -/
noncomputable def Try.pinned : Pinned := { name := "ytcjjglaimfhofaa", sum := "068e493371eac9e80cc8c0d47d8d577acdafda61af020b22a5bb1c0201e427d1", checked := Try.checked }
namespace Rows
def none {H : Type} : Left H := { results := [], args := [] }

/-- 'haycocklaw16.FibonacciNew': WHATEVER THE INPUT: true; the input reads as it did. -/
def fibonacciNewSpec : ChangeSpec := { name := "fibonacciNew", fn := fun _ => fun
  | [d] => { results := [.lit (.bool true)], args := [d] }
  | _ => none }
def fibonacciNewRow : OpenClaim := { program := "ytcjjglaimfhofaa", sum := "068e493371eac9e80cc8c0d47d8d577acdafda61af020b22a5bb1c0201e427d1", func := "haycock/haycocklaw16.FibonacciNew", spec := "fibonacciNew", unfollowed := true, recurses := true, apart := false }
def FibonacciNewSaid : Prop := fibonacciNewRow.holds Try.pinned (OpenSpec.ofChange fibonacciNewSpec)

/-- ITS FALSE NEIGHBOUR: 'it returns false'. Refute it at one input. -/
def fibonacciNewWrong : ChangeSpec := { name := "fibonacciNew", fn := fun _ => fun
  | [d] => { results := [.lit (.bool false)], args := [d] }
  | _ => none }
def FibonacciNewWrongFalsely : Prop := fibonacciNewRow.holds Try.pinned (OpenSpec.ofChange fibonacciNewWrong)

/-- 'haycocklaw16.FibonacciRuns': WHATEVER THE INPUT: true; the input reads as it did. -/
def fibonacciRunsSpec : ChangeSpec := { name := "fibonacciRuns", fn := fun _ => fun
  | [d1, d2] => { results := [.lit (.bool true)], args := [d1, d2] }
  | _ => none }
def fibonacciRunsRow : OpenClaim := { program := "ytcjjglaimfhofaa", sum := "068e493371eac9e80cc8c0d47d8d577acdafda61af020b22a5bb1c0201e427d1", func := "haycock/haycocklaw16.FibonacciRuns", spec := "fibonacciRuns", unfollowed := true, recurses := true, apart := false }
def FibonacciRunsSaid : Prop := fibonacciRunsRow.holds Try.pinned (OpenSpec.ofChange fibonacciRunsSpec)

/-- ITS FALSE NEIGHBOUR: 'it returns false'. Refute it at one input. -/
def fibonacciRunsWrong : ChangeSpec := { name := "fibonacciRuns", fn := fun _ => fun
  | [d1, d2] => { results := [.lit (.bool false)], args := [d1, d2] }
  | _ => none }
def FibonacciRunsWrongFalsely : Prop := fibonacciRunsRow.holds Try.pinned (OpenSpec.ofChange fibonacciRunsWrong)

/-- 'haycocklaw16.FibonacciWholes': WHATEVER THE INPUT: true; the input reads as it did. -/
def fibonacciWholesSpec : ChangeSpec := { name := "fibonacciWholes", fn := fun _ => fun
  | [d1, d2] => { results := [.lit (.bool true)], args := [d1, d2] }
  | _ => none }
def fibonacciWholesRow : OpenClaim := { program := "ytcjjglaimfhofaa", sum := "068e493371eac9e80cc8c0d47d8d577acdafda61af020b22a5bb1c0201e427d1", func := "haycock/haycocklaw16.FibonacciWholes", spec := "fibonacciWholes", unfollowed := true, recurses := true, apart := false }
def FibonacciWholesSaid : Prop := fibonacciWholesRow.holds Try.pinned (OpenSpec.ofChange fibonacciWholesSpec)

/-- ITS FALSE NEIGHBOUR: 'it returns false'. Refute it at one input. -/
def fibonacciWholesWrong : ChangeSpec := { name := "fibonacciWholes", fn := fun _ => fun
  | [d1, d2] => { results := [.lit (.bool false)], args := [d1, d2] }
  | _ => none }
def FibonacciWholesWrongFalsely : Prop := fibonacciWholesRow.holds Try.pinned (OpenSpec.ofChange fibonacciWholesWrong)

/-- 'haycocklaw16.FibonacciSorts': WHATEVER THE INPUT: true; the input reads as it did. -/
def fibonacciSortsSpec : ChangeSpec := { name := "fibonacciSorts", fn := fun _ => fun
  | [d] => { results := [.lit (.bool true)], args := [d] }
  | _ => none }
def fibonacciSortsRow : OpenClaim := { program := "ytcjjglaimfhofaa", sum := "068e493371eac9e80cc8c0d47d8d577acdafda61af020b22a5bb1c0201e427d1", func := "haycock/haycocklaw16.FibonacciSorts", spec := "fibonacciSorts", unfollowed := true, recurses := true, apart := false }
def FibonacciSortsSaid : Prop := fibonacciSortsRow.holds Try.pinned (OpenSpec.ofChange fibonacciSortsSpec)

/-- ITS FALSE NEIGHBOUR: 'it returns false'. Refute it at one input. -/
def fibonacciSortsWrong : ChangeSpec := { name := "fibonacciSorts", fn := fun _ => fun
  | [d] => { results := [.lit (.bool false)], args := [d] }
  | _ => none }
def FibonacciSortsWrongFalsely : Prop := fibonacciSortsRow.holds Try.pinned (OpenSpec.ofChange fibonacciSortsWrong)

/-- 'haycocklaw16.FibonacciMelds': WHATEVER THE INPUT: true; the input reads as it did. -/
def fibonacciMeldsSpec : ChangeSpec := { name := "fibonacciMelds", fn := fun _ => fun
  | [d1, d2] => { results := [.lit (.bool true)], args := [d1, d2] }
  | _ => none }
def fibonacciMeldsRow : OpenClaim := { program := "ytcjjglaimfhofaa", sum := "068e493371eac9e80cc8c0d47d8d577acdafda61af020b22a5bb1c0201e427d1", func := "haycock/haycocklaw16.FibonacciMelds", spec := "fibonacciMelds", unfollowed := true, recurses := true, apart := false }
def FibonacciMeldsSaid : Prop := fibonacciMeldsRow.holds Try.pinned (OpenSpec.ofChange fibonacciMeldsSpec)

/-- ITS FALSE NEIGHBOUR: 'it returns false'. Refute it at one input. -/
def fibonacciMeldsWrong : ChangeSpec := { name := "fibonacciMelds", fn := fun _ => fun
  | [d1, d2] => { results := [.lit (.bool false)], args := [d1, d2] }
  | _ => none }
def FibonacciMeldsWrongFalsely : Prop := fibonacciMeldsRow.holds Try.pinned (OpenSpec.ofChange fibonacciMeldsWrong)

/-- 'haycocklaw16.FibonacciTrees': WHATEVER THE INPUT: true; the input reads as it did. -/
def fibonacciTreesSpec : ChangeSpec := { name := "fibonacciTrees", fn := fun _ => fun
  | [d1, d2] => { results := [.lit (.bool true)], args := [d1, d2] }
  | _ => none }
def fibonacciTreesRow : OpenClaim := { program := "ytcjjglaimfhofaa", sum := "068e493371eac9e80cc8c0d47d8d577acdafda61af020b22a5bb1c0201e427d1", func := "haycock/haycocklaw16.FibonacciTrees", spec := "fibonacciTrees", unfollowed := true, recurses := true, apart := false }
def FibonacciTreesSaid : Prop := fibonacciTreesRow.holds Try.pinned (OpenSpec.ofChange fibonacciTreesSpec)

/-- ITS FALSE NEIGHBOUR: 'it returns false'. Refute it at one input. -/
def fibonacciTreesWrong : ChangeSpec := { name := "fibonacciTrees", fn := fun _ => fun
  | [d1, d2] => { results := [.lit (.bool false)], args := [d1, d2] }
  | _ => none }
def FibonacciTreesWrongFalsely : Prop := fibonacciTreesRow.holds Try.pinned (OpenSpec.ofChange fibonacciTreesWrong)

/-- 'haycocklaw16.FibonacciDegrees': WHATEVER THE INPUT: true; the input reads as it did. -/
def fibonacciDegreesSpec : ChangeSpec := { name := "fibonacciDegrees", fn := fun _ => fun
  | [d1, d2] => { results := [.lit (.bool true)], args := [d1, d2] }
  | _ => none }
def fibonacciDegreesRow : OpenClaim := { program := "ytcjjglaimfhofaa", sum := "068e493371eac9e80cc8c0d47d8d577acdafda61af020b22a5bb1c0201e427d1", func := "haycock/haycocklaw16.FibonacciDegrees", spec := "fibonacciDegrees", unfollowed := true, recurses := true, apart := false }
def FibonacciDegreesSaid : Prop := fibonacciDegreesRow.holds Try.pinned (OpenSpec.ofChange fibonacciDegreesSpec)

/-- ITS FALSE NEIGHBOUR: 'it returns false'. Refute it at one input. -/
def fibonacciDegreesWrong : ChangeSpec := { name := "fibonacciDegrees", fn := fun _ => fun
  | [d1, d2] => { results := [.lit (.bool false)], args := [d1, d2] }
  | _ => none }
def FibonacciDegreesWrongFalsely : Prop := fibonacciDegreesRow.holds Try.pinned (OpenSpec.ofChange fibonacciDegreesWrong)

/- THE SECOND FORM. 'bulk': how many values and letters a reading holds, each counted each time it is reached (what is shared counts as often as it is met; a slice's spare places count too). A statement '..UptoSaid' is the law's where the arguments, and the package variables that the reading takes, are together of bulk at most 1048576: NARROWER than '..Said'. Prove '..Said' where nothing that the law and all that it calls make is longer than what came in: it says more and counts as full. Else prove '..UptoSaid'. A law counts once. -/
mutual
def uptoBulk {H : Type} : DataW H → Nat
  | .lit (.string bytes) => bytes.length + 1
  | .lit _ => 1
  | .nil => 1
  | .ptr d => uptoBulk d + 1
  | .slice elems spare => uptoBulkAll elems + uptoBulkAll spare + 1
  | .agg parts => uptoBulkAll parts + 1
  | .iface _ d => uptoBulk d + 1
  | .map entries => uptoBulkEntries entries + 1
  | .held _ => 1
def uptoBulkAll {H : Type} : List (DataW H) → Nat
  | [] => 0
  | d :: r => uptoBulk d + uptoBulkAll r
def uptoBulkEntries {H : Type} : List (Lit × DataW H) → Nat
  | [] => 0
  | x :: r => uptoBulkEntry x + uptoBulkEntries r
def uptoBulkEntry {H : Type} : Lit × DataW H → Nat
  | (.string bytes, d) => bytes.length + uptoBulk d + 1
  | (_, d) => uptoBulk d + 1
 end
def uptoSmall : (H : Type) → List (DataW H) → Bool := fun _ ds => decide (uptoBulkAll ds ≤ 1048576)
def OpenSpec.upto (s : _root_.Go.ChangeSpec) : _root_.Go.OpenSpec := { _root_.Go.OpenSpec.ofChange s with cond := some uptoSmall }

/-- 'haycocklaw16.FibonacciNew', WHERE WHAT IT READS IS OF BULK AT MOST 1048576: true; the input reads as it did. -/
def fibonacciNewUptoRow : OpenClaim := { program := "ytcjjglaimfhofaa", sum := "068e493371eac9e80cc8c0d47d8d577acdafda61af020b22a5bb1c0201e427d1", func := "haycock/haycocklaw16.FibonacciNew", spec := "fibonacciNew", unfollowed := true, recurses := true, apart := false, narrowed := true }
def FibonacciNewUptoSaid : Prop := fibonacciNewUptoRow.holds Try.pinned (OpenSpec.upto fibonacciNewSpec)

/-- 'haycocklaw16.FibonacciRuns', WHERE WHAT IT READS IS OF BULK AT MOST 1048576: true; the input reads as it did. -/
def fibonacciRunsUptoRow : OpenClaim := { program := "ytcjjglaimfhofaa", sum := "068e493371eac9e80cc8c0d47d8d577acdafda61af020b22a5bb1c0201e427d1", func := "haycock/haycocklaw16.FibonacciRuns", spec := "fibonacciRuns", unfollowed := true, recurses := true, apart := false, narrowed := true }
def FibonacciRunsUptoSaid : Prop := fibonacciRunsUptoRow.holds Try.pinned (OpenSpec.upto fibonacciRunsSpec)

/-- 'haycocklaw16.FibonacciWholes', WHERE WHAT IT READS IS OF BULK AT MOST 1048576: true; the input reads as it did. -/
def fibonacciWholesUptoRow : OpenClaim := { program := "ytcjjglaimfhofaa", sum := "068e493371eac9e80cc8c0d47d8d577acdafda61af020b22a5bb1c0201e427d1", func := "haycock/haycocklaw16.FibonacciWholes", spec := "fibonacciWholes", unfollowed := true, recurses := true, apart := false, narrowed := true }
def FibonacciWholesUptoSaid : Prop := fibonacciWholesUptoRow.holds Try.pinned (OpenSpec.upto fibonacciWholesSpec)

/-- 'haycocklaw16.FibonacciSorts', WHERE WHAT IT READS IS OF BULK AT MOST 1048576: true; the input reads as it did. -/
def fibonacciSortsUptoRow : OpenClaim := { program := "ytcjjglaimfhofaa", sum := "068e493371eac9e80cc8c0d47d8d577acdafda61af020b22a5bb1c0201e427d1", func := "haycock/haycocklaw16.FibonacciSorts", spec := "fibonacciSorts", unfollowed := true, recurses := true, apart := false, narrowed := true }
def FibonacciSortsUptoSaid : Prop := fibonacciSortsUptoRow.holds Try.pinned (OpenSpec.upto fibonacciSortsSpec)

/-- 'haycocklaw16.FibonacciMelds', WHERE WHAT IT READS IS OF BULK AT MOST 1048576: true; the input reads as it did. -/
def fibonacciMeldsUptoRow : OpenClaim := { program := "ytcjjglaimfhofaa", sum := "068e493371eac9e80cc8c0d47d8d577acdafda61af020b22a5bb1c0201e427d1", func := "haycock/haycocklaw16.FibonacciMelds", spec := "fibonacciMelds", unfollowed := true, recurses := true, apart := false, narrowed := true }
def FibonacciMeldsUptoSaid : Prop := fibonacciMeldsUptoRow.holds Try.pinned (OpenSpec.upto fibonacciMeldsSpec)

/-- 'haycocklaw16.FibonacciTrees', WHERE WHAT IT READS IS OF BULK AT MOST 1048576: true; the input reads as it did. -/
def fibonacciTreesUptoRow : OpenClaim := { program := "ytcjjglaimfhofaa", sum := "068e493371eac9e80cc8c0d47d8d577acdafda61af020b22a5bb1c0201e427d1", func := "haycock/haycocklaw16.FibonacciTrees", spec := "fibonacciTrees", unfollowed := true, recurses := true, apart := false, narrowed := true }
def FibonacciTreesUptoSaid : Prop := fibonacciTreesUptoRow.holds Try.pinned (OpenSpec.upto fibonacciTreesSpec)

/-- 'haycocklaw16.FibonacciDegrees', WHERE WHAT IT READS IS OF BULK AT MOST 1048576: true; the input reads as it did. -/
def fibonacciDegreesUptoRow : OpenClaim := { program := "ytcjjglaimfhofaa", sum := "068e493371eac9e80cc8c0d47d8d577acdafda61af020b22a5bb1c0201e427d1", func := "haycock/haycocklaw16.FibonacciDegrees", spec := "fibonacciDegrees", unfollowed := true, recurses := true, apart := false, narrowed := true }
def FibonacciDegreesUptoSaid : Prop := fibonacciDegreesUptoRow.holds Try.pinned (OpenSpec.upto fibonacciDegreesSpec)

end Rows
end Go.Proofs.Ytcjjglaimfhofaa
