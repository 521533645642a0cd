/-
  No cell of these rows narrows 'for every input' (looked for: loops, veiled, ifaces, maps, wideKeys, modest, calm, conditions, laid).
  DERIVED. THE GIVEN ROWS OF THIS SEAT. 5 by the template 'for every input the law returns true; each argument reads behind the call as it read before'; 0 by the template 'total and deterministic' (their statements: YtmoolbmbdnkooaaTotals.lean).
  GIVEN WITH THE SEED: the statements are not yours to turn. If you find one false, say at which input.
  Laid BY PROGRAM, IN A SANDBOX (cutbox-rows.mjs): the forced cells as the released guide's own fill.sh prints them over the translation cdb65aa3b11c8c7c… (all of the seat's roots in one cut). By AI agents, Wed Nov 11 2026. No macro, syntax, notation, axiom, sorry.
-/
import Derived.Test.YtmoolbmbdnkooaaChecked
import GoSem.Claim
import GoSem.ClaimJoined
import GoSem.ClaimMapViews
import Derived.JoinedTies
import Derived.KernelRfl
namespace Go.Proofs.Ytmoolbmbdnkooaa
/- THE CELL 'sum', in the pinned program and in every row, IS THE sha256 OF THE DUMP (.gsa) THAT YtmoolbmbdnkooaaProg.lean LOADS. Nothing in Lean hashes anything: it is a label: what it is worth is what the hold of that sum in a sandbox is worth. -/
noncomputable def Try.pinned : Pinned := { name := "ytmoolbmbdnkooaa", sum := "cdb65aa3b11c8c7ca7aa5d84ee3aca04e470adb013e8cffc42b8b25f01d5fdf4", checked := Try.checked }
namespace Rows
def none {H : Type} : Left H := { results := [], args := [] }

/-- 'haycocklaw13.BinomialNew': WHATEVER THE INPUT: true; the input reads as it did. -/
def binomialNewSpec : ChangeSpec := { name := "binomialNew", fn := fun _ => fun
  | [d] => { results := [.lit (.bool true)], args := [d] }
  | _ => none }
def binomialNewRow : OpenClaim := { program := "ytmoolbmbdnkooaa", sum := "cdb65aa3b11c8c7ca7aa5d84ee3aca04e470adb013e8cffc42b8b25f01d5fdf4", func := "haycock/haycocklaw13.BinomialNew", spec := "binomialNew", unfollowed := true, recurses := true, apart := false }
def BinomialNewSaid : Prop := binomialNewRow.holds Try.pinned (OpenSpec.ofChange binomialNewSpec)

/-- ITS FALSE NEIGHBOUR: 'it returns false'. Refute it at one input. -/
def binomialNewWrong : ChangeSpec := { name := "binomialNew", fn := fun _ => fun
  | [d] => { results := [.lit (.bool false)], args := [d] }
  | _ => none }
def BinomialNewWrongFalsely : Prop := binomialNewRow.holds Try.pinned (OpenSpec.ofChange binomialNewWrong)

/-- 'haycocklaw13.BinomialRuns': WHATEVER THE INPUT: true; the input reads as it did. -/
def binomialRunsSpec : ChangeSpec := { name := "binomialRuns", fn := fun _ => fun
  | [d1, d2] => { results := [.lit (.bool true)], args := [d1, d2] }
  | _ => none }
def binomialRunsRow : OpenClaim := { program := "ytmoolbmbdnkooaa", sum := "cdb65aa3b11c8c7ca7aa5d84ee3aca04e470adb013e8cffc42b8b25f01d5fdf4", func := "haycock/haycocklaw13.BinomialRuns", spec := "binomialRuns", unfollowed := true, recurses := true, apart := false }
def BinomialRunsSaid : Prop := binomialRunsRow.holds Try.pinned (OpenSpec.ofChange binomialRunsSpec)

/-- ITS FALSE NEIGHBOUR: 'it returns false'. Refute it at one input. -/
def binomialRunsWrong : ChangeSpec := { name := "binomialRuns", fn := fun _ => fun
  | [d1, d2] => { results := [.lit (.bool false)], args := [d1, d2] }
  | _ => none }
def BinomialRunsWrongFalsely : Prop := binomialRunsRow.holds Try.pinned (OpenSpec.ofChange binomialRunsWrong)

/-- 'haycocklaw13.BinomialSorts': WHATEVER THE INPUT: true; the input reads as it did. -/
def binomialSortsSpec : ChangeSpec := { name := "binomialSorts", fn := fun _ => fun
  | [d] => { results := [.lit (.bool true)], args := [d] }
  | _ => none }
def binomialSortsRow : OpenClaim := { program := "ytmoolbmbdnkooaa", sum := "cdb65aa3b11c8c7ca7aa5d84ee3aca04e470adb013e8cffc42b8b25f01d5fdf4", func := "haycock/haycocklaw13.BinomialSorts", spec := "binomialSorts", unfollowed := true, recurses := true, apart := false }
def BinomialSortsSaid : Prop := binomialSortsRow.holds Try.pinned (OpenSpec.ofChange binomialSortsSpec)

/-- ITS FALSE NEIGHBOUR: 'it returns false'. Refute it at one input. -/
def binomialSortsWrong : ChangeSpec := { name := "binomialSorts", fn := fun _ => fun
  | [d] => { results := [.lit (.bool false)], args := [d] }
  | _ => none }
def BinomialSortsWrongFalsely : Prop := binomialSortsRow.holds Try.pinned (OpenSpec.ofChange binomialSortsWrong)

/-- 'haycocklaw13.BinomialMelds': WHATEVER THE INPUT: true; the input reads as it did. -/
def binomialMeldsSpec : ChangeSpec := { name := "binomialMelds", fn := fun _ => fun
  | [d1, d2] => { results := [.lit (.bool true)], args := [d1, d2] }
  | _ => none }
def binomialMeldsRow : OpenClaim := { program := "ytmoolbmbdnkooaa", sum := "cdb65aa3b11c8c7ca7aa5d84ee3aca04e470adb013e8cffc42b8b25f01d5fdf4", func := "haycock/haycocklaw13.BinomialMelds", spec := "binomialMelds", unfollowed := true, recurses := true, apart := false }
def BinomialMeldsSaid : Prop := binomialMeldsRow.holds Try.pinned (OpenSpec.ofChange binomialMeldsSpec)

/-- ITS FALSE NEIGHBOUR: 'it returns false'. Refute it at one input. -/
def binomialMeldsWrong : ChangeSpec := { name := "binomialMelds", fn := fun _ => fun
  | [d1, d2] => { results := [.lit (.bool false)], args := [d1, d2] }
  | _ => none }
def BinomialMeldsWrongFalsely : Prop := binomialMeldsRow.holds Try.pinned (OpenSpec.ofChange binomialMeldsWrong)

/-- 'haycocklaw13.BinomialDegrees': WHATEVER THE INPUT: true; the input reads as it did. -/
def binomialDegreesSpec : ChangeSpec := { name := "binomialDegrees", fn := fun _ => fun
  | [d1, d2] => { results := [.lit (.bool true)], args := [d1, d2] }
  | _ => none }
def binomialDegreesRow : OpenClaim := { program := "ytmoolbmbdnkooaa", sum := "cdb65aa3b11c8c7ca7aa5d84ee3aca04e470adb013e8cffc42b8b25f01d5fdf4", func := "haycock/haycocklaw13.BinomialDegrees", spec := "binomialDegrees", unfollowed := true, recurses := true, apart := false }
def BinomialDegreesSaid : Prop := binomialDegreesRow.holds Try.pinned (OpenSpec.ofChange binomialDegreesSpec)

/-- ITS FALSE NEIGHBOUR: 'it returns false'. Refute it at one input. -/
def binomialDegreesWrong : ChangeSpec := { name := "binomialDegrees", fn := fun _ => fun
  | [d1, d2] => { results := [.lit (.bool false)], args := [d1, d2] }
  | _ => none }
def BinomialDegreesWrongFalsely : Prop := binomialDegreesRow.holds Try.pinned (OpenSpec.ofChange binomialDegreesWrong)

/- THE SECOND FORM. 'bulk': how many values and letters a reading holds, each counted each time it is reached (what is shared counts as often as it is met; a slice's spare places count too). A statement '..UptoSaid' is the law's where the arguments, and the package variables that the reading takes, are together of bulk at most 1048576: NARROWER than '..Said'. Prove '..Said' where nothing that the law and all that it calls make is longer than what came in: it says more and counts as full. Else prove '..UptoSaid'. A law counts once. -/
mutual
def uptoBulk {H : Type} : DataW H → Nat
  | .lit (.string bytes) => bytes.length + 1
  | .lit _ => 1
  | .nil => 1
  | .ptr d => uptoBulk d + 1
  | .slice elems spare => uptoBulkAll elems + uptoBulkAll spare + 1
  | .agg parts => uptoBulkAll parts + 1
  | .iface _ d => uptoBulk d + 1
  | .map entries => uptoBulkEntries entries + 1
  | .held _ => 1
def uptoBulkAll {H : Type} : List (DataW H) → Nat
  | [] => 0
  | d :: r => uptoBulk d + uptoBulkAll r
def uptoBulkEntries {H : Type} : List (Lit × DataW H) → Nat
  | [] => 0
  | x :: r => uptoBulkEntry x + uptoBulkEntries r
def uptoBulkEntry {H : Type} : Lit × DataW H → Nat
  | (.string bytes, d) => bytes.length + uptoBulk d + 1
  | (_, d) => uptoBulk d + 1
 end
def uptoSmall : (H : Type) → List (DataW H) → Bool := fun _ ds => decide (uptoBulkAll ds ≤ 1048576)
def OpenSpec.upto (s : _root_.Go.ChangeSpec) : _root_.Go.OpenSpec := { _root_.Go.OpenSpec.ofChange s with cond := some uptoSmall }

/-- 'haycocklaw13.BinomialNew', WHERE WHAT IT READS IS OF BULK AT MOST 1048576: true; the input reads as it did. -/
def binomialNewUptoRow : OpenClaim := { program := "ytmoolbmbdnkooaa", sum := "cdb65aa3b11c8c7ca7aa5d84ee3aca04e470adb013e8cffc42b8b25f01d5fdf4", func := "haycock/haycocklaw13.BinomialNew", spec := "binomialNew", unfollowed := true, recurses := true, apart := false, narrowed := true }
def BinomialNewUptoSaid : Prop := binomialNewUptoRow.holds Try.pinned (OpenSpec.upto binomialNewSpec)

/-- 'haycocklaw13.BinomialRuns', WHERE WHAT IT READS IS OF BULK AT MOST 1048576: true; the input reads as it did. -/
def binomialRunsUptoRow : OpenClaim := { program := "ytmoolbmbdnkooaa", sum := "cdb65aa3b11c8c7ca7aa5d84ee3aca04e470adb013e8cffc42b8b25f01d5fdf4", func := "haycock/haycocklaw13.BinomialRuns", spec := "binomialRuns", unfollowed := true, recurses := true, apart := false, narrowed := true }
def BinomialRunsUptoSaid : Prop := binomialRunsUptoRow.holds Try.pinned (OpenSpec.upto binomialRunsSpec)

/-- 'haycocklaw13.BinomialSorts', WHERE WHAT IT READS IS OF BULK AT MOST 1048576: true; the input reads as it did. -/
def binomialSortsUptoRow : OpenClaim := { program := "ytmoolbmbdnkooaa", sum := "cdb65aa3b11c8c7ca7aa5d84ee3aca04e470adb013e8cffc42b8b25f01d5fdf4", func := "haycock/haycocklaw13.BinomialSorts", spec := "binomialSorts", unfollowed := true, recurses := true, apart := false, narrowed := true }
def BinomialSortsUptoSaid : Prop := binomialSortsUptoRow.holds Try.pinned (OpenSpec.upto binomialSortsSpec)

/-- 'haycocklaw13.BinomialMelds', WHERE WHAT IT READS IS OF BULK AT MOST 1048576: true; the input reads as it did. -/
def binomialMeldsUptoRow : OpenClaim := { program := "ytmoolbmbdnkooaa", sum := "cdb65aa3b11c8c7ca7aa5d84ee3aca04e470adb013e8cffc42b8b25f01d5fdf4", func := "haycock/haycocklaw13.BinomialMelds", spec := "binomialMelds", unfollowed := true, recurses := true, apart := false, narrowed := true }
def BinomialMeldsUptoSaid : Prop := binomialMeldsUptoRow.holds Try.pinned (OpenSpec.upto binomialMeldsSpec)

/-- 'haycocklaw13.BinomialDegrees', WHERE WHAT IT READS IS OF BULK AT MOST 1048576: true; the input reads as it did. -/
def binomialDegreesUptoRow : OpenClaim := { program := "ytmoolbmbdnkooaa", sum := "cdb65aa3b11c8c7ca7aa5d84ee3aca04e470adb013e8cffc42b8b25f01d5fdf4", func := "haycock/haycocklaw13.BinomialDegrees", spec := "binomialDegrees", unfollowed := true, recurses := true, apart := false, narrowed := true }
def BinomialDegreesUptoSaid : Prop := binomialDegreesUptoRow.holds Try.pinned (OpenSpec.upto binomialDegreesSpec)

end Rows
end Go.Proofs.Ytmoolbmbdnkooaa
