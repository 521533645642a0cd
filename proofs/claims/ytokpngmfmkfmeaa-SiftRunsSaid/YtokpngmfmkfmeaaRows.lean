/-
  No cell of these rows narrows 'for every input' (looked for: loops, veiled, ifaces, maps, wideKeys, modest, calm, conditions, laid).
  DERIVED. THE GIVEN ROWS OF THIS SEAT. 4 by the template 'for every input the law returns true; each argument reads behind the call as it read before'; 0 by the template 'total and deterministic' (their statements: YtokpngmfmkfmeaaTotals.lean).
  GIVEN WITH THE SEED: the statements are not yours to turn. If you find one false, say at which input.
  Laid BY PROGRAM, IN A SANDBOX (cutbox-rows.mjs): the forced cells as the released guide's own fill.sh prints them over the translation 4d7ef759ad67eedb… (all of the seat's roots in one cut). By AI agents, Wed Nov 11 2026. No macro, syntax, notation, axiom, sorry.
-/
import Derived.Test.YtokpngmfmkfmeaaChecked
import GoSem.Claim
import GoSem.ClaimJoined
import GoSem.ClaimMapViews
import Derived.JoinedTies
import Derived.KernelRfl
namespace Go.Proofs.Ytokpngmfmkfmeaa
/- THE CELL 'sum', in the pinned program and in every row, IS THE sha256 OF THE DUMP (.gsa) THAT YtokpngmfmkfmeaaProg.lean LOADS. Nothing in Lean hashes anything: it is a label: what it is worth is what the hold of that sum in a sandbox is worth. -/
noncomputable def Try.pinned : Pinned := { name := "ytokpngmfmkfmeaa", sum := "4d7ef759ad67eedb6f7e1fb915a0a367395a7edef1fb737f562ee6ef32ff0ddc", checked := Try.checked }
namespace Rows
def none {H : Type} : Left H := { results := [], args := [] }

/-- 'haycocklaw07.SiftPlaces': WHATEVER THE INPUT: true; the input reads as it did. -/
def siftPlacesSpec : ChangeSpec := { name := "siftPlaces", fn := fun _ => fun
  | [d1, d2, d3] => { results := [.lit (.bool true)], args := [d1, d2, d3] }
  | _ => none }
def siftPlacesRow : OpenClaim := { program := "ytokpngmfmkfmeaa", sum := "4d7ef759ad67eedb6f7e1fb915a0a367395a7edef1fb737f562ee6ef32ff0ddc", func := "haycock/haycocklaw07.SiftPlaces", spec := "siftPlaces", unfollowed := true, recurses := true, apart := false }
def SiftPlacesSaid : Prop := siftPlacesRow.holds Try.pinned (OpenSpec.ofChange siftPlacesSpec)

/-- ITS FALSE NEIGHBOUR: 'it returns false'. Refute it at one input. -/
def siftPlacesWrong : ChangeSpec := { name := "siftPlaces", fn := fun _ => fun
  | [d1, d2, d3] => { results := [.lit (.bool false)], args := [d1, d2, d3] }
  | _ => none }
def SiftPlacesWrongFalsely : Prop := siftPlacesRow.holds Try.pinned (OpenSpec.ofChange siftPlacesWrong)

/-- 'haycocklaw07.SiftRuns': WHATEVER THE INPUT: true; the input reads as it did. -/
def siftRunsSpec : ChangeSpec := { name := "siftRuns", fn := fun _ => fun
  | [d1, d2] => { results := [.lit (.bool true)], args := [d1, d2] }
  | _ => none }
def siftRunsRow : OpenClaim := { program := "ytokpngmfmkfmeaa", sum := "4d7ef759ad67eedb6f7e1fb915a0a367395a7edef1fb737f562ee6ef32ff0ddc", func := "haycock/haycocklaw07.SiftRuns", spec := "siftRuns", unfollowed := true, recurses := true, apart := false }
def SiftRunsSaid : Prop := siftRunsRow.holds Try.pinned (OpenSpec.ofChange siftRunsSpec)

/-- ITS FALSE NEIGHBOUR: 'it returns false'. Refute it at one input. -/
def siftRunsWrong : ChangeSpec := { name := "siftRuns", fn := fun _ => fun
  | [d1, d2] => { results := [.lit (.bool false)], args := [d1, d2] }
  | _ => none }
def SiftRunsWrongFalsely : Prop := siftRunsRow.holds Try.pinned (OpenSpec.ofChange siftRunsWrong)

/-- 'haycocklaw07.SiftSorts': WHATEVER THE INPUT: true; the input reads as it did. -/
def siftSortsSpec : ChangeSpec := { name := "siftSorts", fn := fun _ => fun
  | [d1, d2] => { results := [.lit (.bool true)], args := [d1, d2] }
  | _ => none }
def siftSortsRow : OpenClaim := { program := "ytokpngmfmkfmeaa", sum := "4d7ef759ad67eedb6f7e1fb915a0a367395a7edef1fb737f562ee6ef32ff0ddc", func := "haycock/haycocklaw07.SiftSorts", spec := "siftSorts", unfollowed := true, recurses := true, apart := false }
def SiftSortsSaid : Prop := siftSortsRow.holds Try.pinned (OpenSpec.ofChange siftSortsSpec)

/-- ITS FALSE NEIGHBOUR: 'it returns false'. Refute it at one input. -/
def siftSortsWrong : ChangeSpec := { name := "siftSorts", fn := fun _ => fun
  | [d1, d2] => { results := [.lit (.bool false)], args := [d1, d2] }
  | _ => none }
def SiftSortsWrongFalsely : Prop := siftSortsRow.holds Try.pinned (OpenSpec.ofChange siftSortsWrong)

/-- 'haycocklaw07.SiftTree': WHATEVER THE INPUT: true; the input reads as it did. -/
def siftTreeSpec : ChangeSpec := { name := "siftTree", fn := fun _ => fun
  | [d1, d2, d3] => { results := [.lit (.bool true)], args := [d1, d2, d3] }
  | _ => none }
def siftTreeRow : OpenClaim := { program := "ytokpngmfmkfmeaa", sum := "4d7ef759ad67eedb6f7e1fb915a0a367395a7edef1fb737f562ee6ef32ff0ddc", func := "haycock/haycocklaw07.SiftTree", spec := "siftTree", unfollowed := true, recurses := true, apart := false }
def SiftTreeSaid : Prop := siftTreeRow.holds Try.pinned (OpenSpec.ofChange siftTreeSpec)

/-- ITS FALSE NEIGHBOUR: 'it returns false'. Refute it at one input. -/
def siftTreeWrong : ChangeSpec := { name := "siftTree", fn := fun _ => fun
  | [d1, d2, d3] => { results := [.lit (.bool false)], args := [d1, d2, d3] }
  | _ => none }
def SiftTreeWrongFalsely : Prop := siftTreeRow.holds Try.pinned (OpenSpec.ofChange siftTreeWrong)

/- THE SECOND FORM. 'bulk': how many values and letters a reading holds, each counted each time it is reached (what is shared counts as often as it is met; a slice's spare places count too). A statement '..UptoSaid' is the law's where the arguments, and the package variables that the reading takes, are together of bulk at most 1048576: NARROWER than '..Said'. Prove '..Said' where nothing that the law and all that it calls make is longer than what came in: it says more and counts as full. Else prove '..UptoSaid'. A law counts once. -/
mutual
def uptoBulk {H : Type} : DataW H → Nat
  | .lit (.string bytes) => bytes.length + 1
  | .lit _ => 1
  | .nil => 1
  | .ptr d => uptoBulk d + 1
  | .slice elems spare => uptoBulkAll elems + uptoBulkAll spare + 1
  | .agg parts => uptoBulkAll parts + 1
  | .iface _ d => uptoBulk d + 1
  | .map entries => uptoBulkEntries entries + 1
  | .held _ => 1
def uptoBulkAll {H : Type} : List (DataW H) → Nat
  | [] => 0
  | d :: r => uptoBulk d + uptoBulkAll r
def uptoBulkEntries {H : Type} : List (Lit × DataW H) → Nat
  | [] => 0
  | x :: r => uptoBulkEntry x + uptoBulkEntries r
def uptoBulkEntry {H : Type} : Lit × DataW H → Nat
  | (.string bytes, d) => bytes.length + uptoBulk d + 1
  | (_, d) => uptoBulk d + 1
 end
def uptoSmall : (H : Type) → List (DataW H) → Bool := fun _ ds => decide (uptoBulkAll ds ≤ 1048576)
def OpenSpec.upto (s : _root_.Go.ChangeSpec) : _root_.Go.OpenSpec := { _root_.Go.OpenSpec.ofChange s with cond := some uptoSmall }

/-- 'haycocklaw07.SiftPlaces', WHERE WHAT IT READS IS OF BULK AT MOST 1048576: true; the input reads as it did. -/
def siftPlacesUptoRow : OpenClaim := { program := "ytokpngmfmkfmeaa", sum := "4d7ef759ad67eedb6f7e1fb915a0a367395a7edef1fb737f562ee6ef32ff0ddc", func := "haycock/haycocklaw07.SiftPlaces", spec := "siftPlaces", unfollowed := true, recurses := true, apart := false, narrowed := true }
def SiftPlacesUptoSaid : Prop := siftPlacesUptoRow.holds Try.pinned (OpenSpec.upto siftPlacesSpec)

/-- 'haycocklaw07.SiftRuns', WHERE WHAT IT READS IS OF BULK AT MOST 1048576: true; the input reads as it did. -/
def siftRunsUptoRow : OpenClaim := { program := "ytokpngmfmkfmeaa", sum := "4d7ef759ad67eedb6f7e1fb915a0a367395a7edef1fb737f562ee6ef32ff0ddc", func := "haycock/haycocklaw07.SiftRuns", spec := "siftRuns", unfollowed := true, recurses := true, apart := false, narrowed := true }
def SiftRunsUptoSaid : Prop := siftRunsUptoRow.holds Try.pinned (OpenSpec.upto siftRunsSpec)

/-- 'haycocklaw07.SiftSorts', WHERE WHAT IT READS IS OF BULK AT MOST 1048576: true; the input reads as it did. -/
def siftSortsUptoRow : OpenClaim := { program := "ytokpngmfmkfmeaa", sum := "4d7ef759ad67eedb6f7e1fb915a0a367395a7edef1fb737f562ee6ef32ff0ddc", func := "haycock/haycocklaw07.SiftSorts", spec := "siftSorts", unfollowed := true, recurses := true, apart := false, narrowed := true }
def SiftSortsUptoSaid : Prop := siftSortsUptoRow.holds Try.pinned (OpenSpec.upto siftSortsSpec)

/-- 'haycocklaw07.SiftTree', WHERE WHAT IT READS IS OF BULK AT MOST 1048576: true; the input reads as it did. -/
def siftTreeUptoRow : OpenClaim := { program := "ytokpngmfmkfmeaa", sum := "4d7ef759ad67eedb6f7e1fb915a0a367395a7edef1fb737f562ee6ef32ff0ddc", func := "haycock/haycocklaw07.SiftTree", spec := "siftTree", unfollowed := true, recurses := true, apart := false, narrowed := true }
def SiftTreeUptoSaid : Prop := siftTreeUptoRow.holds Try.pinned (OpenSpec.upto siftTreeSpec)

end Rows
end Go.Proofs.Ytokpngmfmkfmeaa
