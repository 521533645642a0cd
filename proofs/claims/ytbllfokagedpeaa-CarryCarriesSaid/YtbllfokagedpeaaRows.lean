/-
  No cell of these rows narrows 'for every input' (looked for: loops, veiled, ifaces, maps, wideKeys, modest, calm, conditions, laid).
  DERIVED. THE GIVEN ROWS OF THIS SEAT. 5 by the template 'for every input the law returns true; each argument reads behind the call as it read before'; 0 by the template 'total and deterministic' (their statements: YtbllfokagedpeaaTotals.lean).
  GIVEN WITH THE SEED: the statements are not yours to turn. If you find one false, say at which input.
  Laid BY PROGRAM, IN A SANDBOX (cutbox-rows.mjs): the forced cells as the released guide's own fill.sh prints them over the translation 62c81d91b7614911… (all of the seat's roots in one cut). By AI agents, Wed Nov 11 2026. No macro, syntax, notation, axiom, sorry.
-/
import Derived.Test.YtbllfokagedpeaaChecked
import GoSem.Claim
import GoSem.ClaimJoined
import GoSem.ClaimMapViews
import Derived.JoinedTies
import Derived.KernelRfl
namespace Go.Proofs.Ytbllfokagedpeaa
/- THE CELL 'sum', in the pinned program and in every row, IS THE sha256 OF THE DUMP (.gsa) THAT YtbllfokagedpeaaProg.lean LOADS. Nothing in Lean hashes anything: it is a label: what it is worth is what the hold of that sum in a sandbox is worth. -/
noncomputable def Try.pinned : Pinned := { name := "ytbllfokagedpeaa", sum := "62c81d91b76149111886e321c857c44bb141a5ea1058ca9b7f49927e666bd082", checked := Try.checked }
namespace Rows
def none {H : Type} : Left H := { results := [], args := [] }

/-- 'haycocklaw12.CarryNew': WHATEVER THE INPUT: true; the input reads as it did. -/
def carryNewSpec : ChangeSpec := { name := "carryNew", fn := fun _ => fun
  | [d1, d2] => { results := [.lit (.bool true)], args := [d1, d2] }
  | _ => none }
def carryNewRow : OpenClaim := { program := "ytbllfokagedpeaa", sum := "62c81d91b76149111886e321c857c44bb141a5ea1058ca9b7f49927e666bd082", func := "haycock/haycocklaw12.CarryNew", spec := "carryNew", unfollowed := true, recurses := true, apart := false }
def CarryNewSaid : Prop := carryNewRow.holds Try.pinned (OpenSpec.ofChange carryNewSpec)

/-- ITS FALSE NEIGHBOUR: 'it returns false'. Refute it at one input. -/
def carryNewWrong : ChangeSpec := { name := "carryNew", fn := fun _ => fun
  | [d1, d2] => { results := [.lit (.bool false)], args := [d1, d2] }
  | _ => none }
def CarryNewWrongFalsely : Prop := carryNewRow.holds Try.pinned (OpenSpec.ofChange carryNewWrong)

/-- 'haycocklaw12.CarryRuns': WHATEVER THE INPUT: true; the input reads as it did. -/
def carryRunsSpec : ChangeSpec := { name := "carryRuns", fn := fun _ => fun
  | [d1, d2, d3] => { results := [.lit (.bool true)], args := [d1, d2, d3] }
  | _ => none }
def carryRunsRow : OpenClaim := { program := "ytbllfokagedpeaa", sum := "62c81d91b76149111886e321c857c44bb141a5ea1058ca9b7f49927e666bd082", func := "haycock/haycocklaw12.CarryRuns", spec := "carryRuns", unfollowed := true, recurses := true, apart := false }
def CarryRunsSaid : Prop := carryRunsRow.holds Try.pinned (OpenSpec.ofChange carryRunsSpec)

/-- ITS FALSE NEIGHBOUR: 'it returns false'. Refute it at one input. -/
def carryRunsWrong : ChangeSpec := { name := "carryRuns", fn := fun _ => fun
  | [d1, d2, d3] => { results := [.lit (.bool false)], args := [d1, d2, d3] }
  | _ => none }
def CarryRunsWrongFalsely : Prop := carryRunsRow.holds Try.pinned (OpenSpec.ofChange carryRunsWrong)

/-- 'haycocklaw12.CarryCarries': WHATEVER THE INPUT: true; the input reads as it did. -/
def carryCarriesSpec : ChangeSpec := { name := "carryCarries", fn := fun _ => fun
  | [d1, d2, d3] => { results := [.lit (.bool true)], args := [d1, d2, d3] }
  | _ => none }
def carryCarriesRow : OpenClaim := { program := "ytbllfokagedpeaa", sum := "62c81d91b76149111886e321c857c44bb141a5ea1058ca9b7f49927e666bd082", func := "haycock/haycocklaw12.CarryCarries", spec := "carryCarries", unfollowed := true, recurses := true, apart := false }
def CarryCarriesSaid : Prop := carryCarriesRow.holds Try.pinned (OpenSpec.ofChange carryCarriesSpec)

/-- ITS FALSE NEIGHBOUR: 'it returns false'. Refute it at one input. -/
def carryCarriesWrong : ChangeSpec := { name := "carryCarries", fn := fun _ => fun
  | [d1, d2, d3] => { results := [.lit (.bool false)], args := [d1, d2, d3] }
  | _ => none }
def CarryCarriesWrongFalsely : Prop := carryCarriesRow.holds Try.pinned (OpenSpec.ofChange carryCarriesWrong)

/-- 'haycocklaw12.CarryCounts': WHATEVER THE INPUT: true; the input reads as it did. -/
def carryCountsSpec : ChangeSpec := { name := "carryCounts", fn := fun _ => fun
  | [d] => { results := [.lit (.bool true)], args := [d] }
  | _ => none }
def carryCountsRow : OpenClaim := { program := "ytbllfokagedpeaa", sum := "62c81d91b76149111886e321c857c44bb141a5ea1058ca9b7f49927e666bd082", func := "haycock/haycocklaw12.CarryCounts", spec := "carryCounts", unfollowed := true, recurses := true, apart := false }
def CarryCountsSaid : Prop := carryCountsRow.holds Try.pinned (OpenSpec.ofChange carryCountsSpec)

/-- ITS FALSE NEIGHBOUR: 'it returns false'. Refute it at one input. -/
def carryCountsWrong : ChangeSpec := { name := "carryCounts", fn := fun _ => fun
  | [d] => { results := [.lit (.bool false)], args := [d] }
  | _ => none }
def CarryCountsWrongFalsely : Prop := carryCountsRow.holds Try.pinned (OpenSpec.ofChange carryCountsWrong)

/-- 'haycocklaw12.CarryLifts': WHATEVER THE INPUT: true; the input reads as it did. -/
def carryLiftsSpec : ChangeSpec := { name := "carryLifts", fn := fun _ => fun
  | [d1, d2] => { results := [.lit (.bool true)], args := [d1, d2] }
  | _ => none }
def carryLiftsRow : OpenClaim := { program := "ytbllfokagedpeaa", sum := "62c81d91b76149111886e321c857c44bb141a5ea1058ca9b7f49927e666bd082", func := "haycock/haycocklaw12.CarryLifts", spec := "carryLifts", unfollowed := true, recurses := true, apart := false }
def CarryLiftsSaid : Prop := carryLiftsRow.holds Try.pinned (OpenSpec.ofChange carryLiftsSpec)

/-- ITS FALSE NEIGHBOUR: 'it returns false'. Refute it at one input. -/
def carryLiftsWrong : ChangeSpec := { name := "carryLifts", fn := fun _ => fun
  | [d1, d2] => { results := [.lit (.bool false)], args := [d1, d2] }
  | _ => none }
def CarryLiftsWrongFalsely : Prop := carryLiftsRow.holds Try.pinned (OpenSpec.ofChange carryLiftsWrong)

/- THE SECOND FORM. 'bulk': how many values and letters a reading holds, each counted each time it is reached (what is shared counts as often as it is met; a slice's spare places count too). A statement '..UptoSaid' is the law's where the arguments, and the package variables that the reading takes, are together of bulk at most 1048576: NARROWER than '..Said'. Prove '..Said' where nothing that the law and all that it calls make is longer than what came in: it says more and counts as full. Else prove '..UptoSaid'. A law counts once. -/
mutual
def uptoBulk {H : Type} : DataW H → Nat
  | .lit (.string bytes) => bytes.length + 1
  | .lit _ => 1
  | .nil => 1
  | .ptr d => uptoBulk d + 1
  | .slice elems spare => uptoBulkAll elems + uptoBulkAll spare + 1
  | .agg parts => uptoBulkAll parts + 1
  | .iface _ d => uptoBulk d + 1
  | .map entries => uptoBulkEntries entries + 1
  | .held _ => 1
def uptoBulkAll {H : Type} : List (DataW H) → Nat
  | [] => 0
  | d :: r => uptoBulk d + uptoBulkAll r
def uptoBulkEntries {H : Type} : List (Lit × DataW H) → Nat
  | [] => 0
  | x :: r => uptoBulkEntry x + uptoBulkEntries r
def uptoBulkEntry {H : Type} : Lit × DataW H → Nat
  | (.string bytes, d) => bytes.length + uptoBulk d + 1
  | (_, d) => uptoBulk d + 1
 end
def uptoSmall : (H : Type) → List (DataW H) → Bool := fun _ ds => decide (uptoBulkAll ds ≤ 1048576)
def OpenSpec.upto (s : _root_.Go.ChangeSpec) : _root_.Go.OpenSpec := { _root_.Go.OpenSpec.ofChange s with cond := some uptoSmall }

/-- 'haycocklaw12.CarryNew', WHERE WHAT IT READS IS OF BULK AT MOST 1048576: true; the input reads as it did. -/
def carryNewUptoRow : OpenClaim := { program := "ytbllfokagedpeaa", sum := "62c81d91b76149111886e321c857c44bb141a5ea1058ca9b7f49927e666bd082", func := "haycock/haycocklaw12.CarryNew", spec := "carryNew", unfollowed := true, recurses := true, apart := false, narrowed := true }
def CarryNewUptoSaid : Prop := carryNewUptoRow.holds Try.pinned (OpenSpec.upto carryNewSpec)

/-- 'haycocklaw12.CarryRuns', WHERE WHAT IT READS IS OF BULK AT MOST 1048576: true; the input reads as it did. -/
def carryRunsUptoRow : OpenClaim := { program := "ytbllfokagedpeaa", sum := "62c81d91b76149111886e321c857c44bb141a5ea1058ca9b7f49927e666bd082", func := "haycock/haycocklaw12.CarryRuns", spec := "carryRuns", unfollowed := true, recurses := true, apart := false, narrowed := true }
def CarryRunsUptoSaid : Prop := carryRunsUptoRow.holds Try.pinned (OpenSpec.upto carryRunsSpec)

/-- 'haycocklaw12.CarryCarries', WHERE WHAT IT READS IS OF BULK AT MOST 1048576: true; the input reads as it did. -/
def carryCarriesUptoRow : OpenClaim := { program := "ytbllfokagedpeaa", sum := "62c81d91b76149111886e321c857c44bb141a5ea1058ca9b7f49927e666bd082", func := "haycock/haycocklaw12.CarryCarries", spec := "carryCarries", unfollowed := true, recurses := true, apart := false, narrowed := true }
def CarryCarriesUptoSaid : Prop := carryCarriesUptoRow.holds Try.pinned (OpenSpec.upto carryCarriesSpec)

/-- 'haycocklaw12.CarryCounts', WHERE WHAT IT READS IS OF BULK AT MOST 1048576: true; the input reads as it did. -/
def carryCountsUptoRow : OpenClaim := { program := "ytbllfokagedpeaa", sum := "62c81d91b76149111886e321c857c44bb141a5ea1058ca9b7f49927e666bd082", func := "haycock/haycocklaw12.CarryCounts", spec := "carryCounts", unfollowed := true, recurses := true, apart := false, narrowed := true }
def CarryCountsUptoSaid : Prop := carryCountsUptoRow.holds Try.pinned (OpenSpec.upto carryCountsSpec)

/-- 'haycocklaw12.CarryLifts', WHERE WHAT IT READS IS OF BULK AT MOST 1048576: true; the input reads as it did. -/
def carryLiftsUptoRow : OpenClaim := { program := "ytbllfokagedpeaa", sum := "62c81d91b76149111886e321c857c44bb141a5ea1058ca9b7f49927e666bd082", func := "haycock/haycocklaw12.CarryLifts", spec := "carryLifts", unfollowed := true, recurses := true, apart := false, narrowed := true }
def CarryLiftsUptoSaid : Prop := carryLiftsUptoRow.holds Try.pinned (OpenSpec.upto carryLiftsSpec)

end Rows
end Go.Proofs.Ytbllfokagedpeaa
