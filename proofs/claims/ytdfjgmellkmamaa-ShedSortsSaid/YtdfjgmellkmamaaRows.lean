/-
  No cell of these rows narrows 'for every input' (looked for: loops, veiled, ifaces, maps, wideKeys, modest, calm, conditions, laid).
  DERIVED. THE GIVEN ROWS OF THIS SEAT. 5 by the template 'for every input the law returns true; each argument reads behind the call as it read before'; 0 by the template 'total and deterministic' (their statements: YtdfjgmellkmamaaTotals.lean).
  GIVEN WITH THE SEED: the statements are not yours to turn. If you find one false, say at which input.
  Laid BY PROGRAM, IN A SANDBOX (cutbox-rows.mjs): the forced cells as the released guide's own fill.sh prints them over the translation 25f3ff6073d35915… (all of the seat's roots in one cut). By AI agents, Wed Nov 11 2026. No macro, syntax, notation, axiom, sorry.
-/
import Derived.Test.YtdfjgmellkmamaaChecked
import GoSem.Claim
import GoSem.ClaimJoined
import GoSem.ClaimMapViews
import Derived.JoinedTies
import Derived.KernelRfl
namespace Go.Proofs.Ytdfjgmellkmamaa
/- THE CELL 'sum', in the pinned program and in every row, IS THE sha256 OF THE DUMP (.gsa) THAT YtdfjgmellkmamaaProg.lean LOADS. Nothing in Lean hashes anything: it is a label: what it is worth is what the hold of that sum in a sandbox is worth. -/
noncomputable def Try.pinned : Pinned := { name := "ytdfjgmellkmamaa", sum := "25f3ff6073d359153c4a26fb99d3b5518c30224b3dd663bd8e600f9a20ea2f6d", checked := Try.checked }
namespace Rows
def none {H : Type} : Left H := { results := [], args := [] }

/-- 'haycocklaw06.ShedNew': WHATEVER THE INPUT: true; the input reads as it did. -/
def shedNewSpec : ChangeSpec := { name := "shedNew", fn := fun _ => fun
  | [d] => { results := [.lit (.bool true)], args := [d] }
  | _ => none }
def shedNewRow : OpenClaim := { program := "ytdfjgmellkmamaa", sum := "25f3ff6073d359153c4a26fb99d3b5518c30224b3dd663bd8e600f9a20ea2f6d", func := "haycock/haycocklaw06.ShedNew", spec := "shedNew", unfollowed := true, recurses := true, apart := false }
def ShedNewSaid : Prop := shedNewRow.holds Try.pinned (OpenSpec.ofChange shedNewSpec)

/-- ITS FALSE NEIGHBOUR: 'it returns false'. Refute it at one input. -/
def shedNewWrong : ChangeSpec := { name := "shedNew", fn := fun _ => fun
  | [d] => { results := [.lit (.bool false)], args := [d] }
  | _ => none }
def ShedNewWrongFalsely : Prop := shedNewRow.holds Try.pinned (OpenSpec.ofChange shedNewWrong)

/-- 'haycocklaw06.ShedRuns': WHATEVER THE INPUT: true; the input reads as it did. -/
def shedRunsSpec : ChangeSpec := { name := "shedRuns", fn := fun _ => fun
  | [d1, d2] => { results := [.lit (.bool true)], args := [d1, d2] }
  | _ => none }
def shedRunsRow : OpenClaim := { program := "ytdfjgmellkmamaa", sum := "25f3ff6073d359153c4a26fb99d3b5518c30224b3dd663bd8e600f9a20ea2f6d", func := "haycock/haycocklaw06.ShedRuns", spec := "shedRuns", unfollowed := true, recurses := true, apart := false }
def ShedRunsSaid : Prop := shedRunsRow.holds Try.pinned (OpenSpec.ofChange shedRunsSpec)

/-- ITS FALSE NEIGHBOUR: 'it returns false'. Refute it at one input. -/
def shedRunsWrong : ChangeSpec := { name := "shedRuns", fn := fun _ => fun
  | [d1, d2] => { results := [.lit (.bool false)], args := [d1, d2] }
  | _ => none }
def ShedRunsWrongFalsely : Prop := shedRunsRow.holds Try.pinned (OpenSpec.ofChange shedRunsWrong)

/-- 'haycocklaw06.ShedLimits': WHATEVER THE INPUT: true; the input reads as it did. -/
def shedLimitsSpec : ChangeSpec := { name := "shedLimits", fn := fun _ => fun
  | [d1, d2] => { results := [.lit (.bool true)], args := [d1, d2] }
  | _ => none }
def shedLimitsRow : OpenClaim := { program := "ytdfjgmellkmamaa", sum := "25f3ff6073d359153c4a26fb99d3b5518c30224b3dd663bd8e600f9a20ea2f6d", func := "haycock/haycocklaw06.ShedLimits", spec := "shedLimits", unfollowed := true, recurses := true, apart := false }
def ShedLimitsSaid : Prop := shedLimitsRow.holds Try.pinned (OpenSpec.ofChange shedLimitsSpec)

/-- ITS FALSE NEIGHBOUR: 'it returns false'. Refute it at one input. -/
def shedLimitsWrong : ChangeSpec := { name := "shedLimits", fn := fun _ => fun
  | [d1, d2] => { results := [.lit (.bool false)], args := [d1, d2] }
  | _ => none }
def ShedLimitsWrongFalsely : Prop := shedLimitsRow.holds Try.pinned (OpenSpec.ofChange shedLimitsWrong)

/-- 'haycocklaw06.ShedSorts': WHATEVER THE INPUT: true; the input reads as it did. -/
def shedSortsSpec : ChangeSpec := { name := "shedSorts", fn := fun _ => fun
  | [d] => { results := [.lit (.bool true)], args := [d] }
  | _ => none }
def shedSortsRow : OpenClaim := { program := "ytdfjgmellkmamaa", sum := "25f3ff6073d359153c4a26fb99d3b5518c30224b3dd663bd8e600f9a20ea2f6d", func := "haycock/haycocklaw06.ShedSorts", spec := "shedSorts", unfollowed := true, recurses := true, apart := false }
def ShedSortsSaid : Prop := shedSortsRow.holds Try.pinned (OpenSpec.ofChange shedSortsSpec)

/-- ITS FALSE NEIGHBOUR: 'it returns false'. Refute it at one input. -/
def shedSortsWrong : ChangeSpec := { name := "shedSorts", fn := fun _ => fun
  | [d] => { results := [.lit (.bool false)], args := [d] }
  | _ => none }
def ShedSortsWrongFalsely : Prop := shedSortsRow.holds Try.pinned (OpenSpec.ofChange shedSortsWrong)

/-- 'haycocklaw06.ShedMelds': WHATEVER THE INPUT: true; the input reads as it did. -/
def shedMeldsSpec : ChangeSpec := { name := "shedMelds", fn := fun _ => fun
  | [d1, d2] => { results := [.lit (.bool true)], args := [d1, d2] }
  | _ => none }
def shedMeldsRow : OpenClaim := { program := "ytdfjgmellkmamaa", sum := "25f3ff6073d359153c4a26fb99d3b5518c30224b3dd663bd8e600f9a20ea2f6d", func := "haycock/haycocklaw06.ShedMelds", spec := "shedMelds", unfollowed := true, recurses := true, apart := false }
def ShedMeldsSaid : Prop := shedMeldsRow.holds Try.pinned (OpenSpec.ofChange shedMeldsSpec)

/-- ITS FALSE NEIGHBOUR: 'it returns false'. Refute it at one input. -/
def shedMeldsWrong : ChangeSpec := { name := "shedMelds", fn := fun _ => fun
  | [d1, d2] => { results := [.lit (.bool false)], args := [d1, d2] }
  | _ => none }
def ShedMeldsWrongFalsely : Prop := shedMeldsRow.holds Try.pinned (OpenSpec.ofChange shedMeldsWrong)

/- THE SECOND FORM. 'bulk': how many values and letters a reading holds, each counted each time it is reached (what is shared counts as often as it is met; a slice's spare places count too). A statement '..UptoSaid' is the law's where the arguments, and the package variables that the reading takes, are together of bulk at most 1048576: NARROWER than '..Said'. Prove '..Said' where nothing that the law and all that it calls make is longer than what came in: it says more and counts as full. Else prove '..UptoSaid'. A law counts once. -/
mutual
def uptoBulk {H : Type} : DataW H → Nat
  | .lit (.string bytes) => bytes.length + 1
  | .lit _ => 1
  | .nil => 1
  | .ptr d => uptoBulk d + 1
  | .slice elems spare => uptoBulkAll elems + uptoBulkAll spare + 1
  | .agg parts => uptoBulkAll parts + 1
  | .iface _ d => uptoBulk d + 1
  | .map entries => uptoBulkEntries entries + 1
  | .held _ => 1
def uptoBulkAll {H : Type} : List (DataW H) → Nat
  | [] => 0
  | d :: r => uptoBulk d + uptoBulkAll r
def uptoBulkEntries {H : Type} : List (Lit × DataW H) → Nat
  | [] => 0
  | x :: r => uptoBulkEntry x + uptoBulkEntries r
def uptoBulkEntry {H : Type} : Lit × DataW H → Nat
  | (.string bytes, d) => bytes.length + uptoBulk d + 1
  | (_, d) => uptoBulk d + 1
 end
def uptoSmall : (H : Type) → List (DataW H) → Bool := fun _ ds => decide (uptoBulkAll ds ≤ 1048576)
def OpenSpec.upto (s : _root_.Go.ChangeSpec) : _root_.Go.OpenSpec := { _root_.Go.OpenSpec.ofChange s with cond := some uptoSmall }

/-- 'haycocklaw06.ShedNew', WHERE WHAT IT READS IS OF BULK AT MOST 1048576: true; the input reads as it did. -/
def shedNewUptoRow : OpenClaim := { program := "ytdfjgmellkmamaa", sum := "25f3ff6073d359153c4a26fb99d3b5518c30224b3dd663bd8e600f9a20ea2f6d", func := "haycock/haycocklaw06.ShedNew", spec := "shedNew", unfollowed := true, recurses := true, apart := false, narrowed := true }
def ShedNewUptoSaid : Prop := shedNewUptoRow.holds Try.pinned (OpenSpec.upto shedNewSpec)

/-- 'haycocklaw06.ShedRuns', WHERE WHAT IT READS IS OF BULK AT MOST 1048576: true; the input reads as it did. -/
def shedRunsUptoRow : OpenClaim := { program := "ytdfjgmellkmamaa", sum := "25f3ff6073d359153c4a26fb99d3b5518c30224b3dd663bd8e600f9a20ea2f6d", func := "haycock/haycocklaw06.ShedRuns", spec := "shedRuns", unfollowed := true, recurses := true, apart := false, narrowed := true }
def ShedRunsUptoSaid : Prop := shedRunsUptoRow.holds Try.pinned (OpenSpec.upto shedRunsSpec)

/-- 'haycocklaw06.ShedLimits', WHERE WHAT IT READS IS OF BULK AT MOST 1048576: true; the input reads as it did. -/
def shedLimitsUptoRow : OpenClaim := { program := "ytdfjgmellkmamaa", sum := "25f3ff6073d359153c4a26fb99d3b5518c30224b3dd663bd8e600f9a20ea2f6d", func := "haycock/haycocklaw06.ShedLimits", spec := "shedLimits", unfollowed := true, recurses := true, apart := false, narrowed := true }
def ShedLimitsUptoSaid : Prop := shedLimitsUptoRow.holds Try.pinned (OpenSpec.upto shedLimitsSpec)

/-- 'haycocklaw06.ShedSorts', WHERE WHAT IT READS IS OF BULK AT MOST 1048576: true; the input reads as it did. -/
def shedSortsUptoRow : OpenClaim := { program := "ytdfjgmellkmamaa", sum := "25f3ff6073d359153c4a26fb99d3b5518c30224b3dd663bd8e600f9a20ea2f6d", func := "haycock/haycocklaw06.ShedSorts", spec := "shedSorts", unfollowed := true, recurses := true, apart := false, narrowed := true }
def ShedSortsUptoSaid : Prop := shedSortsUptoRow.holds Try.pinned (OpenSpec.upto shedSortsSpec)

/-- 'haycocklaw06.ShedMelds', WHERE WHAT IT READS IS OF BULK AT MOST 1048576: true; the input reads as it did. -/
def shedMeldsUptoRow : OpenClaim := { program := "ytdfjgmellkmamaa", sum := "25f3ff6073d359153c4a26fb99d3b5518c30224b3dd663bd8e600f9a20ea2f6d", func := "haycock/haycocklaw06.ShedMelds", spec := "shedMelds", unfollowed := true, recurses := true, apart := false, narrowed := true }
def ShedMeldsUptoSaid : Prop := shedMeldsUptoRow.holds Try.pinned (OpenSpec.upto shedMeldsSpec)

end Rows
end Go.Proofs.Ytdfjgmellkmamaa
