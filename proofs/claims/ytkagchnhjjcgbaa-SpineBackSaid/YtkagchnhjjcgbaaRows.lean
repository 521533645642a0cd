/-
  No cell of these rows narrows 'for every input' (looked for: loops, veiled, ifaces, maps, wideKeys, modest, calm, conditions, laid).
  DERIVED. THE GIVEN ROWS OF THIS SEAT. 4 by the template 'for every input the law returns true; each argument reads behind the call as it read before'; 0 by the template 'total and deterministic' (their statements: YtkagchnhjjcgbaaTotals.lean).
  GIVEN WITH THE SEED: the statements are not yours to turn. If you find one false, say at which input.
  Laid BY PROGRAM, IN A SANDBOX (cutbox-rows.mjs): the forced cells as the released guide's own fill.sh prints them over the translation e4d58a239693e27d… (all of the seat's roots in one cut). By AI agents, Wed Nov 11 2026. No macro, syntax, notation, axiom, sorry.
-/
import Derived.Test.YtkagchnhjjcgbaaChecked
import GoSem.Claim
import GoSem.ClaimJoined
import GoSem.ClaimMapViews
import Derived.JoinedTies
import Derived.KernelRfl
namespace Go.Proofs.Ytkagchnhjjcgbaa
/- THE CELL 'sum', in the pinned program and in every row, IS THE sha256 OF THE DUMP (.gsa) THAT YtkagchnhjjcgbaaProg.lean LOADS. Nothing in Lean hashes anything: it is a label: what it is worth is what the hold of that sum in a sandbox is worth. -/
noncomputable def Try.pinned : Pinned := { name := "ytkagchnhjjcgbaa", sum := "e4d58a239693e27d18b111f7cb5d2f3dc549f62627e2b230a83f1457b0823f91", checked := Try.checked }
namespace Rows
def none {H : Type} : Left H := { results := [], args := [] }

/-- 'haycocklaw09.SpineNew': WHATEVER THE INPUT: true; the input reads as it did. -/
def spineNewSpec : ChangeSpec := { name := "spineNew", fn := fun _ => fun
  | [d1, d2] => { results := [.lit (.bool true)], args := [d1, d2] }
  | _ => none }
def spineNewRow : OpenClaim := { program := "ytkagchnhjjcgbaa", sum := "e4d58a239693e27d18b111f7cb5d2f3dc549f62627e2b230a83f1457b0823f91", func := "haycock/haycocklaw09.SpineNew", spec := "spineNew", apart := false }
def SpineNewSaid : Prop := spineNewRow.holds Try.pinned (OpenSpec.ofChange spineNewSpec)

/-- ITS FALSE NEIGHBOUR: 'it returns false'. Refute it at one input. -/
def spineNewWrong : ChangeSpec := { name := "spineNew", fn := fun _ => fun
  | [d1, d2] => { results := [.lit (.bool false)], args := [d1, d2] }
  | _ => none }
def SpineNewWrongFalsely : Prop := spineNewRow.holds Try.pinned (OpenSpec.ofChange spineNewWrong)

/-- 'haycocklaw09.SpineRuns': WHATEVER THE INPUT: true; the input reads as it did. -/
def spineRunsSpec : ChangeSpec := { name := "spineRuns", fn := fun _ => fun
  | [d1, d2] => { results := [.lit (.bool true)], args := [d1, d2] }
  | _ => none }
def spineRunsRow : OpenClaim := { program := "ytkagchnhjjcgbaa", sum := "e4d58a239693e27d18b111f7cb5d2f3dc549f62627e2b230a83f1457b0823f91", func := "haycock/haycocklaw09.SpineRuns", spec := "spineRuns", recurses := true, apart := false }
def SpineRunsSaid : Prop := spineRunsRow.holds Try.pinned (OpenSpec.ofChange spineRunsSpec)

/-- ITS FALSE NEIGHBOUR: 'it returns false'. Refute it at one input. -/
def spineRunsWrong : ChangeSpec := { name := "spineRuns", fn := fun _ => fun
  | [d1, d2] => { results := [.lit (.bool false)], args := [d1, d2] }
  | _ => none }
def SpineRunsWrongFalsely : Prop := spineRunsRow.holds Try.pinned (OpenSpec.ofChange spineRunsWrong)

/-- 'haycocklaw09.SpineParts': WHATEVER THE INPUT: true; the input reads as it did. -/
def spinePartsSpec : ChangeSpec := { name := "spineParts", fn := fun _ => fun
  | [d1, d2] => { results := [.lit (.bool true)], args := [d1, d2] }
  | _ => none }
def spinePartsRow : OpenClaim := { program := "ytkagchnhjjcgbaa", sum := "e4d58a239693e27d18b111f7cb5d2f3dc549f62627e2b230a83f1457b0823f91", func := "haycock/haycocklaw09.SpineParts", spec := "spineParts", apart := false }
def SpinePartsSaid : Prop := spinePartsRow.holds Try.pinned (OpenSpec.ofChange spinePartsSpec)

/-- ITS FALSE NEIGHBOUR: 'it returns false'. Refute it at one input. -/
def spinePartsWrong : ChangeSpec := { name := "spineParts", fn := fun _ => fun
  | [d1, d2] => { results := [.lit (.bool false)], args := [d1, d2] }
  | _ => none }
def SpinePartsWrongFalsely : Prop := spinePartsRow.holds Try.pinned (OpenSpec.ofChange spinePartsWrong)

/-- 'haycocklaw09.SpineBack': WHATEVER THE INPUT: true; the input reads as it did. -/
def spineBackSpec : ChangeSpec := { name := "spineBack", fn := fun _ => fun
  | [d1, d2, d3] => { results := [.lit (.bool true)], args := [d1, d2, d3] }
  | _ => none }
def spineBackRow : OpenClaim := { program := "ytkagchnhjjcgbaa", sum := "e4d58a239693e27d18b111f7cb5d2f3dc549f62627e2b230a83f1457b0823f91", func := "haycock/haycocklaw09.SpineBack", spec := "spineBack", apart := false }
def SpineBackSaid : Prop := spineBackRow.holds Try.pinned (OpenSpec.ofChange spineBackSpec)

/-- ITS FALSE NEIGHBOUR: 'it returns false'. Refute it at one input. -/
def spineBackWrong : ChangeSpec := { name := "spineBack", fn := fun _ => fun
  | [d1, d2, d3] => { results := [.lit (.bool false)], args := [d1, d2, d3] }
  | _ => none }
def SpineBackWrongFalsely : Prop := spineBackRow.holds Try.pinned (OpenSpec.ofChange spineBackWrong)

/- THE SECOND FORM. 'bulk': how many values and letters a reading holds, each counted each time it is reached (what is shared counts as often as it is met; a slice's spare places count too). A statement '..UptoSaid' is the law's where the arguments, and the package variables that the reading takes, are together of bulk at most 1048576: NARROWER than '..Said'. Prove '..Said' where nothing that the law and all that it calls make is longer than what came in: it says more and counts as full. Else prove '..UptoSaid'. A law counts once. -/
mutual
def uptoBulk {H : Type} : DataW H → Nat
  | .lit (.string bytes) => bytes.length + 1
  | .lit _ => 1
  | .nil => 1
  | .ptr d => uptoBulk d + 1
  | .slice elems spare => uptoBulkAll elems + uptoBulkAll spare + 1
  | .agg parts => uptoBulkAll parts + 1
  | .iface _ d => uptoBulk d + 1
  | .map entries => uptoBulkEntries entries + 1
  | .held _ => 1
def uptoBulkAll {H : Type} : List (DataW H) → Nat
  | [] => 0
  | d :: r => uptoBulk d + uptoBulkAll r
def uptoBulkEntries {H : Type} : List (Lit × DataW H) → Nat
  | [] => 0
  | x :: r => uptoBulkEntry x + uptoBulkEntries r
def uptoBulkEntry {H : Type} : Lit × DataW H → Nat
  | (.string bytes, d) => bytes.length + uptoBulk d + 1
  | (_, d) => uptoBulk d + 1
 end
def uptoSmall : (H : Type) → List (DataW H) → Bool := fun _ ds => decide (uptoBulkAll ds ≤ 1048576)
def OpenSpec.upto (s : _root_.Go.ChangeSpec) : _root_.Go.OpenSpec := { _root_.Go.OpenSpec.ofChange s with cond := some uptoSmall }

/-- 'haycocklaw09.SpineNew', WHERE WHAT IT READS IS OF BULK AT MOST 1048576: true; the input reads as it did. -/
def spineNewUptoRow : OpenClaim := { program := "ytkagchnhjjcgbaa", sum := "e4d58a239693e27d18b111f7cb5d2f3dc549f62627e2b230a83f1457b0823f91", func := "haycock/haycocklaw09.SpineNew", spec := "spineNew", apart := false, narrowed := true }
def SpineNewUptoSaid : Prop := spineNewUptoRow.holds Try.pinned (OpenSpec.upto spineNewSpec)

/-- 'haycocklaw09.SpineRuns', WHERE WHAT IT READS IS OF BULK AT MOST 1048576: true; the input reads as it did. -/
def spineRunsUptoRow : OpenClaim := { program := "ytkagchnhjjcgbaa", sum := "e4d58a239693e27d18b111f7cb5d2f3dc549f62627e2b230a83f1457b0823f91", func := "haycock/haycocklaw09.SpineRuns", spec := "spineRuns", recurses := true, apart := false, narrowed := true }
def SpineRunsUptoSaid : Prop := spineRunsUptoRow.holds Try.pinned (OpenSpec.upto spineRunsSpec)

/-- 'haycocklaw09.SpineParts', WHERE WHAT IT READS IS OF BULK AT MOST 1048576: true; the input reads as it did. -/
def spinePartsUptoRow : OpenClaim := { program := "ytkagchnhjjcgbaa", sum := "e4d58a239693e27d18b111f7cb5d2f3dc549f62627e2b230a83f1457b0823f91", func := "haycock/haycocklaw09.SpineParts", spec := "spineParts", apart := false, narrowed := true }
def SpinePartsUptoSaid : Prop := spinePartsUptoRow.holds Try.pinned (OpenSpec.upto spinePartsSpec)

/-- 'haycocklaw09.SpineBack', WHERE WHAT IT READS IS OF BULK AT MOST 1048576: true; the input reads as it did. -/
def spineBackUptoRow : OpenClaim := { program := "ytkagchnhjjcgbaa", sum := "e4d58a239693e27d18b111f7cb5d2f3dc549f62627e2b230a83f1457b0823f91", func := "haycock/haycocklaw09.SpineBack", spec := "spineBack", apart := false, narrowed := true }
def SpineBackUptoSaid : Prop := spineBackUptoRow.holds Try.pinned (OpenSpec.upto spineBackSpec)

end Rows
end Go.Proofs.Ytkagchnhjjcgbaa
