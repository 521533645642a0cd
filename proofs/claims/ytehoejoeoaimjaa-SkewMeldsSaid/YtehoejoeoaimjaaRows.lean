/-
  No cell of these rows narrows 'for every input' (looked for: loops, veiled, ifaces, maps, wideKeys, modest, calm, conditions, laid).
  DERIVED. THE GIVEN ROWS OF THIS SEAT. 6 by the template 'for every input the law returns true; each argument reads behind the call as it read before'; 0 by the template 'total and deterministic' (their statements: YtehoejoeoaimjaaTotals.lean).
  GIVEN WITH THE SEED: the statements are not yours to turn. If you find one false, say at which input.
  Laid BY PROGRAM, IN A SANDBOX (cutbox-rows.mjs): the forced cells as the released guide's own fill.sh prints them over the translation 8d44cbd63190c26b… (all of the seat's roots in one cut). By AI agents, Wed Nov 11 2026. No macro, syntax, notation, axiom, sorry.
-/
import Derived.Test.YtehoejoeoaimjaaChecked
import GoSem.Claim
import GoSem.ClaimJoined
import GoSem.ClaimMapViews
import Derived.JoinedTies
import Derived.KernelRfl
namespace Go.Proofs.Ytehoejoeoaimjaa
/- THE CELL 'sum', in the pinned program and in every row, IS THE sha256 OF THE DUMP (.gsa) THAT YtehoejoeoaimjaaProg.lean LOADS. Nothing in Lean hashes anything: it is a label: what it is worth is what the hold of that sum in a sandbox is worth. -/
noncomputable def Try.pinned : Pinned := { name := "ytehoejoeoaimjaa", sum := "8d44cbd63190c26b96495beb3e1d01ea5c2fafe162d73e86e046449a7c979263", checked := Try.checked }
namespace Rows
def none {H : Type} : Left H := { results := [], args := [] }

/-- 'haycocklaw11.SkewNew': WHATEVER THE INPUT: true; the input reads as it did. -/
def skewNewSpec : ChangeSpec := { name := "skewNew", fn := fun _ => fun
  | [d] => { results := [.lit (.bool true)], args := [d] }
  | _ => none }
def skewNewRow : OpenClaim := { program := "ytehoejoeoaimjaa", sum := "8d44cbd63190c26b96495beb3e1d01ea5c2fafe162d73e86e046449a7c979263", func := "haycock/haycocklaw11.SkewNew", spec := "skewNew", apart := false }
def SkewNewSaid : Prop := skewNewRow.holds Try.pinned (OpenSpec.ofChange skewNewSpec)

/-- ITS FALSE NEIGHBOUR: 'it returns false'. Refute it at one input. -/
def skewNewWrong : ChangeSpec := { name := "skewNew", fn := fun _ => fun
  | [d] => { results := [.lit (.bool false)], args := [d] }
  | _ => none }
def SkewNewWrongFalsely : Prop := skewNewRow.holds Try.pinned (OpenSpec.ofChange skewNewWrong)

/-- 'haycocklaw11.SkewRuns': WHATEVER THE INPUT: true; the input reads as it did. -/
def skewRunsSpec : ChangeSpec := { name := "skewRuns", fn := fun _ => fun
  | [d1, d2] => { results := [.lit (.bool true)], args := [d1, d2] }
  | _ => none }
def skewRunsRow : OpenClaim := { program := "ytehoejoeoaimjaa", sum := "8d44cbd63190c26b96495beb3e1d01ea5c2fafe162d73e86e046449a7c979263", func := "haycock/haycocklaw11.SkewRuns", spec := "skewRuns", unfollowed := true, recurses := true, apart := false }
def SkewRunsSaid : Prop := skewRunsRow.holds Try.pinned (OpenSpec.ofChange skewRunsSpec)

/-- ITS FALSE NEIGHBOUR: 'it returns false'. Refute it at one input. -/
def skewRunsWrong : ChangeSpec := { name := "skewRuns", fn := fun _ => fun
  | [d1, d2] => { results := [.lit (.bool false)], args := [d1, d2] }
  | _ => none }
def SkewRunsWrongFalsely : Prop := skewRunsRow.holds Try.pinned (OpenSpec.ofChange skewRunsWrong)

/-- 'haycocklaw11.SkewWholes': WHATEVER THE INPUT: true; the input reads as it did. -/
def skewWholesSpec : ChangeSpec := { name := "skewWholes", fn := fun _ => fun
  | [d1, d2] => { results := [.lit (.bool true)], args := [d1, d2] }
  | _ => none }
def skewWholesRow : OpenClaim := { program := "ytehoejoeoaimjaa", sum := "8d44cbd63190c26b96495beb3e1d01ea5c2fafe162d73e86e046449a7c979263", func := "haycock/haycocklaw11.SkewWholes", spec := "skewWholes", unfollowed := true, recurses := true, apart := false }
def SkewWholesSaid : Prop := skewWholesRow.holds Try.pinned (OpenSpec.ofChange skewWholesSpec)

/-- ITS FALSE NEIGHBOUR: 'it returns false'. Refute it at one input. -/
def skewWholesWrong : ChangeSpec := { name := "skewWholes", fn := fun _ => fun
  | [d1, d2] => { results := [.lit (.bool false)], args := [d1, d2] }
  | _ => none }
def SkewWholesWrongFalsely : Prop := skewWholesRow.holds Try.pinned (OpenSpec.ofChange skewWholesWrong)

/-- 'haycocklaw11.SkewSorts': WHATEVER THE INPUT: true; the input reads as it did. -/
def skewSortsSpec : ChangeSpec := { name := "skewSorts", fn := fun _ => fun
  | [d] => { results := [.lit (.bool true)], args := [d] }
  | _ => none }
def skewSortsRow : OpenClaim := { program := "ytehoejoeoaimjaa", sum := "8d44cbd63190c26b96495beb3e1d01ea5c2fafe162d73e86e046449a7c979263", func := "haycock/haycocklaw11.SkewSorts", spec := "skewSorts", unfollowed := true, recurses := true, apart := false }
def SkewSortsSaid : Prop := skewSortsRow.holds Try.pinned (OpenSpec.ofChange skewSortsSpec)

/-- ITS FALSE NEIGHBOUR: 'it returns false'. Refute it at one input. -/
def skewSortsWrong : ChangeSpec := { name := "skewSorts", fn := fun _ => fun
  | [d] => { results := [.lit (.bool false)], args := [d] }
  | _ => none }
def SkewSortsWrongFalsely : Prop := skewSortsRow.holds Try.pinned (OpenSpec.ofChange skewSortsWrong)

/-- 'haycocklaw11.SkewMelds': WHATEVER THE INPUT: true; the input reads as it did. -/
def skewMeldsSpec : ChangeSpec := { name := "skewMelds", fn := fun _ => fun
  | [d1, d2] => { results := [.lit (.bool true)], args := [d1, d2] }
  | _ => none }
def skewMeldsRow : OpenClaim := { program := "ytehoejoeoaimjaa", sum := "8d44cbd63190c26b96495beb3e1d01ea5c2fafe162d73e86e046449a7c979263", func := "haycock/haycocklaw11.SkewMelds", spec := "skewMelds", unfollowed := true, recurses := true, apart := false }
def SkewMeldsSaid : Prop := skewMeldsRow.holds Try.pinned (OpenSpec.ofChange skewMeldsSpec)

/-- ITS FALSE NEIGHBOUR: 'it returns false'. Refute it at one input. -/
def skewMeldsWrong : ChangeSpec := { name := "skewMelds", fn := fun _ => fun
  | [d1, d2] => { results := [.lit (.bool false)], args := [d1, d2] }
  | _ => none }
def SkewMeldsWrongFalsely : Prop := skewMeldsRow.holds Try.pinned (OpenSpec.ofChange skewMeldsWrong)

/-- 'haycocklaw11.SkewTwins': WHATEVER THE INPUT: true; the input reads as it did. -/
def skewTwinsSpec : ChangeSpec := { name := "skewTwins", fn := fun _ => fun
  | [d1, d2] => { results := [.lit (.bool true)], args := [d1, d2] }
  | _ => none }
def skewTwinsRow : OpenClaim := { program := "ytehoejoeoaimjaa", sum := "8d44cbd63190c26b96495beb3e1d01ea5c2fafe162d73e86e046449a7c979263", func := "haycock/haycocklaw11.SkewTwins", spec := "skewTwins", unfollowed := true, recurses := true, apart := false }
def SkewTwinsSaid : Prop := skewTwinsRow.holds Try.pinned (OpenSpec.ofChange skewTwinsSpec)

/-- ITS FALSE NEIGHBOUR: 'it returns false'. Refute it at one input. -/
def skewTwinsWrong : ChangeSpec := { name := "skewTwins", fn := fun _ => fun
  | [d1, d2] => { results := [.lit (.bool false)], args := [d1, d2] }
  | _ => none }
def SkewTwinsWrongFalsely : Prop := skewTwinsRow.holds Try.pinned (OpenSpec.ofChange skewTwinsWrong)

/- THE SECOND FORM. 'bulk': how many values and letters a reading holds, each counted each time it is reached (what is shared counts as often as it is met; a slice's spare places count too). A statement '..UptoSaid' is the law's where the arguments, and the package variables that the reading takes, are together of bulk at most 1048576: NARROWER than '..Said'. Prove '..Said' where nothing that the law and all that it calls make is longer than what came in: it says more and counts as full. Else prove '..UptoSaid'. A law counts once. -/
mutual
def uptoBulk {H : Type} : DataW H → Nat
  | .lit (.string bytes) => bytes.length + 1
  | .lit _ => 1
  | .nil => 1
  | .ptr d => uptoBulk d + 1
  | .slice elems spare => uptoBulkAll elems + uptoBulkAll spare + 1
  | .agg parts => uptoBulkAll parts + 1
  | .iface _ d => uptoBulk d + 1
  | .map entries => uptoBulkEntries entries + 1
  | .held _ => 1
def uptoBulkAll {H : Type} : List (DataW H) → Nat
  | [] => 0
  | d :: r => uptoBulk d + uptoBulkAll r
def uptoBulkEntries {H : Type} : List (Lit × DataW H) → Nat
  | [] => 0
  | x :: r => uptoBulkEntry x + uptoBulkEntries r
def uptoBulkEntry {H : Type} : Lit × DataW H → Nat
  | (.string bytes, d) => bytes.length + uptoBulk d + 1
  | (_, d) => uptoBulk d + 1
 end
def uptoSmall : (H : Type) → List (DataW H) → Bool := fun _ ds => decide (uptoBulkAll ds ≤ 1048576)
def OpenSpec.upto (s : _root_.Go.ChangeSpec) : _root_.Go.OpenSpec := { _root_.Go.OpenSpec.ofChange s with cond := some uptoSmall }

/-- 'haycocklaw11.SkewNew', WHERE WHAT IT READS IS OF BULK AT MOST 1048576: true; the input reads as it did. -/
def skewNewUptoRow : OpenClaim := { program := "ytehoejoeoaimjaa", sum := "8d44cbd63190c26b96495beb3e1d01ea5c2fafe162d73e86e046449a7c979263", func := "haycock/haycocklaw11.SkewNew", spec := "skewNew", apart := false, narrowed := true }
def SkewNewUptoSaid : Prop := skewNewUptoRow.holds Try.pinned (OpenSpec.upto skewNewSpec)

/-- 'haycocklaw11.SkewRuns', WHERE WHAT IT READS IS OF BULK AT MOST 1048576: true; the input reads as it did. -/
def skewRunsUptoRow : OpenClaim := { program := "ytehoejoeoaimjaa", sum := "8d44cbd63190c26b96495beb3e1d01ea5c2fafe162d73e86e046449a7c979263", func := "haycock/haycocklaw11.SkewRuns", spec := "skewRuns", unfollowed := true, recurses := true, apart := false, narrowed := true }
def SkewRunsUptoSaid : Prop := skewRunsUptoRow.holds Try.pinned (OpenSpec.upto skewRunsSpec)

/-- 'haycocklaw11.SkewWholes', WHERE WHAT IT READS IS OF BULK AT MOST 1048576: true; the input reads as it did. -/
def skewWholesUptoRow : OpenClaim := { program := "ytehoejoeoaimjaa", sum := "8d44cbd63190c26b96495beb3e1d01ea5c2fafe162d73e86e046449a7c979263", func := "haycock/haycocklaw11.SkewWholes", spec := "skewWholes", unfollowed := true, recurses := true, apart := false, narrowed := true }
def SkewWholesUptoSaid : Prop := skewWholesUptoRow.holds Try.pinned (OpenSpec.upto skewWholesSpec)

/-- 'haycocklaw11.SkewSorts', WHERE WHAT IT READS IS OF BULK AT MOST 1048576: true; the input reads as it did. -/
def skewSortsUptoRow : OpenClaim := { program := "ytehoejoeoaimjaa", sum := "8d44cbd63190c26b96495beb3e1d01ea5c2fafe162d73e86e046449a7c979263", func := "haycock/haycocklaw11.SkewSorts", spec := "skewSorts", unfollowed := true, recurses := true, apart := false, narrowed := true }
def SkewSortsUptoSaid : Prop := skewSortsUptoRow.holds Try.pinned (OpenSpec.upto skewSortsSpec)

/-- 'haycocklaw11.SkewMelds', WHERE WHAT IT READS IS OF BULK AT MOST 1048576: true; the input reads as it did. -/
def skewMeldsUptoRow : OpenClaim := { program := "ytehoejoeoaimjaa", sum := "8d44cbd63190c26b96495beb3e1d01ea5c2fafe162d73e86e046449a7c979263", func := "haycock/haycocklaw11.SkewMelds", spec := "skewMelds", unfollowed := true, recurses := true, apart := false, narrowed := true }
def SkewMeldsUptoSaid : Prop := skewMeldsUptoRow.holds Try.pinned (OpenSpec.upto skewMeldsSpec)

/-- 'haycocklaw11.SkewTwins', WHERE WHAT IT READS IS OF BULK AT MOST 1048576: true; the input reads as it did. -/
def skewTwinsUptoRow : OpenClaim := { program := "ytehoejoeoaimjaa", sum := "8d44cbd63190c26b96495beb3e1d01ea5c2fafe162d73e86e046449a7c979263", func := "haycock/haycocklaw11.SkewTwins", spec := "skewTwins", unfollowed := true, recurses := true, apart := false, narrowed := true }
def SkewTwinsUptoSaid : Prop := skewTwinsUptoRow.holds Try.pinned (OpenSpec.upto skewTwinsSpec)

end Rows
end Go.Proofs.Ytehoejoeoaimjaa
