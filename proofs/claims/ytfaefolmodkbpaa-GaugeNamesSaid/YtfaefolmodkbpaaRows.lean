/-
  No cell of these rows narrows 'for every input' (looked for: loops, veiled, ifaces, maps, wideKeys, modest, calm, conditions, laid).
  DERIVED. THE GIVEN ROWS OF THIS SEAT. 5 by the template 'for every input the law returns true; each argument reads behind the call as it read before'; 0 by the template 'total and deterministic' (their statements: YtfaefolmodkbpaaTotals.lean).
  GIVEN WITH THE SEED: the statements are not yours to turn. If you find one false, say at which input.
  Laid BY PROGRAM, IN A SANDBOX (cutbox-rows.mjs): the forced cells as the released guide's own fill.sh prints them over the translation e8deca21251ba541… (all of the seat's roots in one cut). By AI agents, Wed Nov 11 2026. No macro, syntax, notation, axiom, sorry.
-/
import Derived.Test.YtfaefolmodkbpaaChecked
import GoSem.Claim
import GoSem.ClaimJoined
import GoSem.ClaimMapViews
import Derived.JoinedTies
import Derived.KernelRfl
namespace Go.Proofs.Ytfaefolmodkbpaa
/- THE CELL 'sum', in the pinned program and in every row, IS THE sha256 OF THE DUMP (.gsa) THAT YtfaefolmodkbpaaProg.lean LOADS. Nothing in Lean hashes anything: it is a label: what it is worth is what the hold of that sum in a sandbox is worth. -/
noncomputable def Try.pinned : Pinned := { name := "ytfaefolmodkbpaa", sum := "e8deca21251ba541109a0d93ce6312f0758ecf1155494d0df31229464c8c67fb", checked := Try.checked }
namespace Rows
def none {H : Type} : Left H := { results := [], args := [] }

/-- 'haycocklaw02.GaugeNames': WHATEVER THE INPUT: true; the input reads as it did. -/
def gaugeNamesSpec : ChangeSpec := { name := "gaugeNames", fn := fun _ => fun
  | [] => { results := [.lit (.bool true)], args := [] }
  | _ => none }
def gaugeNamesRow : OpenClaim := { program := "ytfaefolmodkbpaa", sum := "e8deca21251ba541109a0d93ce6312f0758ecf1155494d0df31229464c8c67fb", func := "haycock/haycocklaw02.GaugeNames", spec := "gaugeNames", apart := false }
def GaugeNamesSaid : Prop := gaugeNamesRow.holds Try.pinned (OpenSpec.ofChange gaugeNamesSpec)

/-- ITS FALSE NEIGHBOUR: 'it returns false'. Refute it at one input. -/
def gaugeNamesWrong : ChangeSpec := { name := "gaugeNames", fn := fun _ => fun
  | [] => { results := [.lit (.bool false)], args := [] }
  | _ => none }
def GaugeNamesWrongFalsely : Prop := gaugeNamesRow.holds Try.pinned (OpenSpec.ofChange gaugeNamesWrong)

/-- 'haycocklaw02.GaugeChecks': WHATEVER THE INPUT: true; the input reads as it did. -/
def gaugeChecksSpec : ChangeSpec := { name := "gaugeChecks", fn := fun _ => fun
  | [d] => { results := [.lit (.bool true)], args := [d] }
  | _ => none }
def gaugeChecksRow : OpenClaim := { program := "ytfaefolmodkbpaa", sum := "e8deca21251ba541109a0d93ce6312f0758ecf1155494d0df31229464c8c67fb", func := "haycock/haycocklaw02.GaugeChecks", spec := "gaugeChecks", apart := false }
def GaugeChecksSaid : Prop := gaugeChecksRow.holds Try.pinned (OpenSpec.ofChange gaugeChecksSpec)

/-- ITS FALSE NEIGHBOUR: 'it returns false'. Refute it at one input. -/
def gaugeChecksWrong : ChangeSpec := { name := "gaugeChecks", fn := fun _ => fun
  | [d] => { results := [.lit (.bool false)], args := [d] }
  | _ => none }
def GaugeChecksWrongFalsely : Prop := gaugeChecksRow.holds Try.pinned (OpenSpec.ofChange gaugeChecksWrong)

/-- 'haycocklaw02.GaugeLimits': WHATEVER THE INPUT: true; the input reads as it did. -/
def gaugeLimitsSpec : ChangeSpec := { name := "gaugeLimits", fn := fun _ => fun
  | [d1, d2] => { results := [.lit (.bool true)], args := [d1, d2] }
  | _ => none }
def gaugeLimitsRow : OpenClaim := { program := "ytfaefolmodkbpaa", sum := "e8deca21251ba541109a0d93ce6312f0758ecf1155494d0df31229464c8c67fb", func := "haycock/haycocklaw02.GaugeLimits", spec := "gaugeLimits", apart := false }
def GaugeLimitsSaid : Prop := gaugeLimitsRow.holds Try.pinned (OpenSpec.ofChange gaugeLimitsSpec)

/-- ITS FALSE NEIGHBOUR: 'it returns false'. Refute it at one input. -/
def gaugeLimitsWrong : ChangeSpec := { name := "gaugeLimits", fn := fun _ => fun
  | [d1, d2] => { results := [.lit (.bool false)], args := [d1, d2] }
  | _ => none }
def GaugeLimitsWrongFalsely : Prop := gaugeLimitsRow.holds Try.pinned (OpenSpec.ofChange gaugeLimitsWrong)

/-- 'haycocklaw02.GaugeCounts': WHATEVER THE INPUT: true; the input reads as it did. -/
def gaugeCountsSpec : ChangeSpec := { name := "gaugeCounts", fn := fun _ => fun
  | [d] => { results := [.lit (.bool true)], args := [d] }
  | _ => none }
def gaugeCountsRow : OpenClaim := { program := "ytfaefolmodkbpaa", sum := "e8deca21251ba541109a0d93ce6312f0758ecf1155494d0df31229464c8c67fb", func := "haycock/haycocklaw02.GaugeCounts", spec := "gaugeCounts", apart := false }
def GaugeCountsSaid : Prop := gaugeCountsRow.holds Try.pinned (OpenSpec.ofChange gaugeCountsSpec)

/-- ITS FALSE NEIGHBOUR: 'it returns false'. Refute it at one input. -/
def gaugeCountsWrong : ChangeSpec := { name := "gaugeCounts", fn := fun _ => fun
  | [d] => { results := [.lit (.bool false)], args := [d] }
  | _ => none }
def GaugeCountsWrongFalsely : Prop := gaugeCountsRow.holds Try.pinned (OpenSpec.ofChange gaugeCountsWrong)

/-- 'haycocklaw02.GaugeGrows': WHATEVER THE INPUT: true; the input reads as it did. -/
def gaugeGrowsSpec : ChangeSpec := { name := "gaugeGrows", fn := fun _ => fun
  | [d1, d2, d3] => { results := [.lit (.bool true)], args := [d1, d2, d3] }
  | _ => none }
def gaugeGrowsRow : OpenClaim := { program := "ytfaefolmodkbpaa", sum := "e8deca21251ba541109a0d93ce6312f0758ecf1155494d0df31229464c8c67fb", func := "haycock/haycocklaw02.GaugeGrows", spec := "gaugeGrows", apart := false }
def GaugeGrowsSaid : Prop := gaugeGrowsRow.holds Try.pinned (OpenSpec.ofChange gaugeGrowsSpec)

/-- ITS FALSE NEIGHBOUR: 'it returns false'. Refute it at one input. -/
def gaugeGrowsWrong : ChangeSpec := { name := "gaugeGrows", fn := fun _ => fun
  | [d1, d2, d3] => { results := [.lit (.bool false)], args := [d1, d2, d3] }
  | _ => none }
def GaugeGrowsWrongFalsely : Prop := gaugeGrowsRow.holds Try.pinned (OpenSpec.ofChange gaugeGrowsWrong)

/- THE SECOND FORM. 'bulk': how many values and letters a reading holds, each counted each time it is reached (what is shared counts as often as it is met; a slice's spare places count too). A statement '..UptoSaid' is the law's where the arguments, and the package variables that the reading takes, are together of bulk at most 1048576: NARROWER than '..Said'. Prove '..Said' where nothing that the law and all that it calls make is longer than what came in: it says more and counts as full. Else prove '..UptoSaid'. A law counts once. -/
mutual
def uptoBulk {H : Type} : DataW H → Nat
  | .lit (.string bytes) => bytes.length + 1
  | .lit _ => 1
  | .nil => 1
  | .ptr d => uptoBulk d + 1
  | .slice elems spare => uptoBulkAll elems + uptoBulkAll spare + 1
  | .agg parts => uptoBulkAll parts + 1
  | .iface _ d => uptoBulk d + 1
  | .map entries => uptoBulkEntries entries + 1
  | .held _ => 1
def uptoBulkAll {H : Type} : List (DataW H) → Nat
  | [] => 0
  | d :: r => uptoBulk d + uptoBulkAll r
def uptoBulkEntries {H : Type} : List (Lit × DataW H) → Nat
  | [] => 0
  | x :: r => uptoBulkEntry x + uptoBulkEntries r
def uptoBulkEntry {H : Type} : Lit × DataW H → Nat
  | (.string bytes, d) => bytes.length + uptoBulk d + 1
  | (_, d) => uptoBulk d + 1
 end
def uptoSmall : (H : Type) → List (DataW H) → Bool := fun _ ds => decide (uptoBulkAll ds ≤ 1048576)
def OpenSpec.upto (s : _root_.Go.ChangeSpec) : _root_.Go.OpenSpec := { _root_.Go.OpenSpec.ofChange s with cond := some uptoSmall }

/-- 'haycocklaw02.GaugeNames', WHERE WHAT IT READS IS OF BULK AT MOST 1048576: true; the input reads as it did. -/
def gaugeNamesUptoRow : OpenClaim := { program := "ytfaefolmodkbpaa", sum := "e8deca21251ba541109a0d93ce6312f0758ecf1155494d0df31229464c8c67fb", func := "haycock/haycocklaw02.GaugeNames", spec := "gaugeNames", apart := false, narrowed := true }
def GaugeNamesUptoSaid : Prop := gaugeNamesUptoRow.holds Try.pinned (OpenSpec.upto gaugeNamesSpec)

/-- 'haycocklaw02.GaugeChecks', WHERE WHAT IT READS IS OF BULK AT MOST 1048576: true; the input reads as it did. -/
def gaugeChecksUptoRow : OpenClaim := { program := "ytfaefolmodkbpaa", sum := "e8deca21251ba541109a0d93ce6312f0758ecf1155494d0df31229464c8c67fb", func := "haycock/haycocklaw02.GaugeChecks", spec := "gaugeChecks", apart := false, narrowed := true }
def GaugeChecksUptoSaid : Prop := gaugeChecksUptoRow.holds Try.pinned (OpenSpec.upto gaugeChecksSpec)

/-- 'haycocklaw02.GaugeLimits', WHERE WHAT IT READS IS OF BULK AT MOST 1048576: true; the input reads as it did. -/
def gaugeLimitsUptoRow : OpenClaim := { program := "ytfaefolmodkbpaa", sum := "e8deca21251ba541109a0d93ce6312f0758ecf1155494d0df31229464c8c67fb", func := "haycock/haycocklaw02.GaugeLimits", spec := "gaugeLimits", apart := false, narrowed := true }
def GaugeLimitsUptoSaid : Prop := gaugeLimitsUptoRow.holds Try.pinned (OpenSpec.upto gaugeLimitsSpec)

/-- 'haycocklaw02.GaugeCounts', WHERE WHAT IT READS IS OF BULK AT MOST 1048576: true; the input reads as it did. -/
def gaugeCountsUptoRow : OpenClaim := { program := "ytfaefolmodkbpaa", sum := "e8deca21251ba541109a0d93ce6312f0758ecf1155494d0df31229464c8c67fb", func := "haycock/haycocklaw02.GaugeCounts", spec := "gaugeCounts", apart := false, narrowed := true }
def GaugeCountsUptoSaid : Prop := gaugeCountsUptoRow.holds Try.pinned (OpenSpec.upto gaugeCountsSpec)

/-- 'haycocklaw02.GaugeGrows', WHERE WHAT IT READS IS OF BULK AT MOST 1048576: true; the input reads as it did. -/
def gaugeGrowsUptoRow : OpenClaim := { program := "ytfaefolmodkbpaa", sum := "e8deca21251ba541109a0d93ce6312f0758ecf1155494d0df31229464c8c67fb", func := "haycock/haycocklaw02.GaugeGrows", spec := "gaugeGrows", apart := false, narrowed := true }
def GaugeGrowsUptoSaid : Prop := gaugeGrowsUptoRow.holds Try.pinned (OpenSpec.upto gaugeGrowsSpec)

end Rows
end Go.Proofs.Ytfaefolmodkbpaa
