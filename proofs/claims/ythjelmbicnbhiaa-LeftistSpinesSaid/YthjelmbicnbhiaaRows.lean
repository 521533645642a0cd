/-
  No cell of these rows narrows 'for every input' (looked for: loops, veiled, ifaces, maps, wideKeys, modest, calm, conditions, laid).
  DERIVED. THE GIVEN ROWS OF THIS SEAT. 6 by the template 'for every input the law returns true; each argument reads behind the call as it read before'; 0 by the template 'total and deterministic' (their statements: YthjelmbicnbhiaaTotals.lean).
  GIVEN WITH THE SEED: the statements are not yours to turn. If you find one false, say at which input.
  Laid BY PROGRAM, IN A SANDBOX (cutbox-rows.mjs): the forced cells as the released guide's own fill.sh prints them over the translation 7e7184f9344ef70c… (all of the seat's roots in one cut). By AI agents, Wed Nov 11 2026. No macro, syntax, notation, axiom, sorry.
-/
import Derived.Test.YthjelmbicnbhiaaChecked
import GoSem.Claim
import GoSem.ClaimJoined
import GoSem.ClaimMapViews
import Derived.JoinedTies
import Derived.KernelRfl
namespace Go.Proofs.Ythjelmbicnbhiaa
/- THE CELL 'sum', in the pinned program and in every row, IS THE sha256 OF THE DUMP (.gsa) THAT YthjelmbicnbhiaaProg.lean LOADS. Nothing in Lean hashes anything: it is a label: what it is worth is what the hold of that sum in a sandbox is worth. -/
noncomputable def Try.pinned : Pinned := { name := "ythjelmbicnbhiaa", sum := "7e7184f9344ef70c6225006cc2394070d619a6637fef7106bf4d38caa4dfb0df", checked := Try.checked }
namespace Rows
def none {H : Type} : Left H := { results := [], args := [] }

/-- 'haycocklaw10.LeftistNew': WHATEVER THE INPUT: true; the input reads as it did. -/
def leftistNewSpec : ChangeSpec := { name := "leftistNew", fn := fun _ => fun
  | [d] => { results := [.lit (.bool true)], args := [d] }
  | _ => none }
def leftistNewRow : OpenClaim := { program := "ythjelmbicnbhiaa", sum := "7e7184f9344ef70c6225006cc2394070d619a6637fef7106bf4d38caa4dfb0df", func := "haycock/haycocklaw10.LeftistNew", spec := "leftistNew", recurses := true, apart := false }
def LeftistNewSaid : Prop := leftistNewRow.holds Try.pinned (OpenSpec.ofChange leftistNewSpec)

/-- ITS FALSE NEIGHBOUR: 'it returns false'. Refute it at one input. -/
def leftistNewWrong : ChangeSpec := { name := "leftistNew", fn := fun _ => fun
  | [d] => { results := [.lit (.bool false)], args := [d] }
  | _ => none }
def LeftistNewWrongFalsely : Prop := leftistNewRow.holds Try.pinned (OpenSpec.ofChange leftistNewWrong)

/-- 'haycocklaw10.LeftistRuns': WHATEVER THE INPUT: true; the input reads as it did. -/
def leftistRunsSpec : ChangeSpec := { name := "leftistRuns", fn := fun _ => fun
  | [d1, d2] => { results := [.lit (.bool true)], args := [d1, d2] }
  | _ => none }
def leftistRunsRow : OpenClaim := { program := "ythjelmbicnbhiaa", sum := "7e7184f9344ef70c6225006cc2394070d619a6637fef7106bf4d38caa4dfb0df", func := "haycock/haycocklaw10.LeftistRuns", spec := "leftistRuns", unfollowed := true, recurses := true, apart := false }
def LeftistRunsSaid : Prop := leftistRunsRow.holds Try.pinned (OpenSpec.ofChange leftistRunsSpec)

/-- ITS FALSE NEIGHBOUR: 'it returns false'. Refute it at one input. -/
def leftistRunsWrong : ChangeSpec := { name := "leftistRuns", fn := fun _ => fun
  | [d1, d2] => { results := [.lit (.bool false)], args := [d1, d2] }
  | _ => none }
def LeftistRunsWrongFalsely : Prop := leftistRunsRow.holds Try.pinned (OpenSpec.ofChange leftistRunsWrong)

/-- 'haycocklaw10.LeftistLimits': WHATEVER THE INPUT: true; the input reads as it did. -/
def leftistLimitsSpec : ChangeSpec := { name := "leftistLimits", fn := fun _ => fun
  | [d1, d2] => { results := [.lit (.bool true)], args := [d1, d2] }
  | _ => none }
def leftistLimitsRow : OpenClaim := { program := "ythjelmbicnbhiaa", sum := "7e7184f9344ef70c6225006cc2394070d619a6637fef7106bf4d38caa4dfb0df", func := "haycock/haycocklaw10.LeftistLimits", spec := "leftistLimits", unfollowed := true, recurses := true, apart := false }
def LeftistLimitsSaid : Prop := leftistLimitsRow.holds Try.pinned (OpenSpec.ofChange leftistLimitsSpec)

/-- ITS FALSE NEIGHBOUR: 'it returns false'. Refute it at one input. -/
def leftistLimitsWrong : ChangeSpec := { name := "leftistLimits", fn := fun _ => fun
  | [d1, d2] => { results := [.lit (.bool false)], args := [d1, d2] }
  | _ => none }
def LeftistLimitsWrongFalsely : Prop := leftistLimitsRow.holds Try.pinned (OpenSpec.ofChange leftistLimitsWrong)

/-- 'haycocklaw10.LeftistSorts': WHATEVER THE INPUT: true; the input reads as it did. -/
def leftistSortsSpec : ChangeSpec := { name := "leftistSorts", fn := fun _ => fun
  | [d] => { results := [.lit (.bool true)], args := [d] }
  | _ => none }
def leftistSortsRow : OpenClaim := { program := "ythjelmbicnbhiaa", sum := "7e7184f9344ef70c6225006cc2394070d619a6637fef7106bf4d38caa4dfb0df", func := "haycock/haycocklaw10.LeftistSorts", spec := "leftistSorts", unfollowed := true, recurses := true, apart := false }
def LeftistSortsSaid : Prop := leftistSortsRow.holds Try.pinned (OpenSpec.ofChange leftistSortsSpec)

/-- ITS FALSE NEIGHBOUR: 'it returns false'. Refute it at one input. -/
def leftistSortsWrong : ChangeSpec := { name := "leftistSorts", fn := fun _ => fun
  | [d] => { results := [.lit (.bool false)], args := [d] }
  | _ => none }
def LeftistSortsWrongFalsely : Prop := leftistSortsRow.holds Try.pinned (OpenSpec.ofChange leftistSortsWrong)

/-- 'haycocklaw10.LeftistMelds': WHATEVER THE INPUT: true; the input reads as it did. -/
def leftistMeldsSpec : ChangeSpec := { name := "leftistMelds", fn := fun _ => fun
  | [d1, d2] => { results := [.lit (.bool true)], args := [d1, d2] }
  | _ => none }
def leftistMeldsRow : OpenClaim := { program := "ythjelmbicnbhiaa", sum := "7e7184f9344ef70c6225006cc2394070d619a6637fef7106bf4d38caa4dfb0df", func := "haycock/haycocklaw10.LeftistMelds", spec := "leftistMelds", unfollowed := true, recurses := true, apart := false }
def LeftistMeldsSaid : Prop := leftistMeldsRow.holds Try.pinned (OpenSpec.ofChange leftistMeldsSpec)

/-- ITS FALSE NEIGHBOUR: 'it returns false'. Refute it at one input. -/
def leftistMeldsWrong : ChangeSpec := { name := "leftistMelds", fn := fun _ => fun
  | [d1, d2] => { results := [.lit (.bool false)], args := [d1, d2] }
  | _ => none }
def LeftistMeldsWrongFalsely : Prop := leftistMeldsRow.holds Try.pinned (OpenSpec.ofChange leftistMeldsWrong)

/-- 'haycocklaw10.LeftistSpines': WHATEVER THE INPUT: true; the input reads as it did. -/
def leftistSpinesSpec : ChangeSpec := { name := "leftistSpines", fn := fun _ => fun
  | [d1, d2] => { results := [.lit (.bool true)], args := [d1, d2] }
  | _ => none }
def leftistSpinesRow : OpenClaim := { program := "ythjelmbicnbhiaa", sum := "7e7184f9344ef70c6225006cc2394070d619a6637fef7106bf4d38caa4dfb0df", func := "haycock/haycocklaw10.LeftistSpines", spec := "leftistSpines", unfollowed := true, recurses := true, apart := false }
def LeftistSpinesSaid : Prop := leftistSpinesRow.holds Try.pinned (OpenSpec.ofChange leftistSpinesSpec)

/-- ITS FALSE NEIGHBOUR: 'it returns false'. Refute it at one input. -/
def leftistSpinesWrong : ChangeSpec := { name := "leftistSpines", fn := fun _ => fun
  | [d1, d2] => { results := [.lit (.bool false)], args := [d1, d2] }
  | _ => none }
def LeftistSpinesWrongFalsely : Prop := leftistSpinesRow.holds Try.pinned (OpenSpec.ofChange leftistSpinesWrong)

/- THE SECOND FORM. 'bulk': how many values and letters a reading holds, each counted each time it is reached (what is shared counts as often as it is met; a slice's spare places count too). A statement '..UptoSaid' is the law's where the arguments, and the package variables that the reading takes, are together of bulk at most 1048576: NARROWER than '..Said'. Prove '..Said' where nothing that the law and all that it calls make is longer than what came in: it says more and counts as full. Else prove '..UptoSaid'. A law counts once. -/
mutual
def uptoBulk {H : Type} : DataW H → Nat
  | .lit (.string bytes) => bytes.length + 1
  | .lit _ => 1
  | .nil => 1
  | .ptr d => uptoBulk d + 1
  | .slice elems spare => uptoBulkAll elems + uptoBulkAll spare + 1
  | .agg parts => uptoBulkAll parts + 1
  | .iface _ d => uptoBulk d + 1
  | .map entries => uptoBulkEntries entries + 1
  | .held _ => 1
def uptoBulkAll {H : Type} : List (DataW H) → Nat
  | [] => 0
  | d :: r => uptoBulk d + uptoBulkAll r
def uptoBulkEntries {H : Type} : List (Lit × DataW H) → Nat
  | [] => 0
  | x :: r => uptoBulkEntry x + uptoBulkEntries r
def uptoBulkEntry {H : Type} : Lit × DataW H → Nat
  | (.string bytes, d) => bytes.length + uptoBulk d + 1
  | (_, d) => uptoBulk d + 1
 end
def uptoSmall : (H : Type) → List (DataW H) → Bool := fun _ ds => decide (uptoBulkAll ds ≤ 1048576)
def OpenSpec.upto (s : _root_.Go.ChangeSpec) : _root_.Go.OpenSpec := { _root_.Go.OpenSpec.ofChange s with cond := some uptoSmall }

/-- 'haycocklaw10.LeftistNew', WHERE WHAT IT READS IS OF BULK AT MOST 1048576: true; the input reads as it did. -/
def leftistNewUptoRow : OpenClaim := { program := "ythjelmbicnbhiaa", sum := "7e7184f9344ef70c6225006cc2394070d619a6637fef7106bf4d38caa4dfb0df", func := "haycock/haycocklaw10.LeftistNew", spec := "leftistNew", recurses := true, apart := false, narrowed := true }
def LeftistNewUptoSaid : Prop := leftistNewUptoRow.holds Try.pinned (OpenSpec.upto leftistNewSpec)

/-- 'haycocklaw10.LeftistRuns', WHERE WHAT IT READS IS OF BULK AT MOST 1048576: true; the input reads as it did. -/
def leftistRunsUptoRow : OpenClaim := { program := "ythjelmbicnbhiaa", sum := "7e7184f9344ef70c6225006cc2394070d619a6637fef7106bf4d38caa4dfb0df", func := "haycock/haycocklaw10.LeftistRuns", spec := "leftistRuns", unfollowed := true, recurses := true, apart := false, narrowed := true }
def LeftistRunsUptoSaid : Prop := leftistRunsUptoRow.holds Try.pinned (OpenSpec.upto leftistRunsSpec)

/-- 'haycocklaw10.LeftistLimits', WHERE WHAT IT READS IS OF BULK AT MOST 1048576: true; the input reads as it did. -/
def leftistLimitsUptoRow : OpenClaim := { program := "ythjelmbicnbhiaa", sum := "7e7184f9344ef70c6225006cc2394070d619a6637fef7106bf4d38caa4dfb0df", func := "haycock/haycocklaw10.LeftistLimits", spec := "leftistLimits", unfollowed := true, recurses := true, apart := false, narrowed := true }
def LeftistLimitsUptoSaid : Prop := leftistLimitsUptoRow.holds Try.pinned (OpenSpec.upto leftistLimitsSpec)

/-- 'haycocklaw10.LeftistSorts', WHERE WHAT IT READS IS OF BULK AT MOST 1048576: true; the input reads as it did. -/
def leftistSortsUptoRow : OpenClaim := { program := "ythjelmbicnbhiaa", sum := "7e7184f9344ef70c6225006cc2394070d619a6637fef7106bf4d38caa4dfb0df", func := "haycock/haycocklaw10.LeftistSorts", spec := "leftistSorts", unfollowed := true, recurses := true, apart := false, narrowed := true }
def LeftistSortsUptoSaid : Prop := leftistSortsUptoRow.holds Try.pinned (OpenSpec.upto leftistSortsSpec)

/-- 'haycocklaw10.LeftistMelds', WHERE WHAT IT READS IS OF BULK AT MOST 1048576: true; the input reads as it did. -/
def leftistMeldsUptoRow : OpenClaim := { program := "ythjelmbicnbhiaa", sum := "7e7184f9344ef70c6225006cc2394070d619a6637fef7106bf4d38caa4dfb0df", func := "haycock/haycocklaw10.LeftistMelds", spec := "leftistMelds", unfollowed := true, recurses := true, apart := false, narrowed := true }
def LeftistMeldsUptoSaid : Prop := leftistMeldsUptoRow.holds Try.pinned (OpenSpec.upto leftistMeldsSpec)

/-- 'haycocklaw10.LeftistSpines', WHERE WHAT IT READS IS OF BULK AT MOST 1048576: true; the input reads as it did. -/
def leftistSpinesUptoRow : OpenClaim := { program := "ythjelmbicnbhiaa", sum := "7e7184f9344ef70c6225006cc2394070d619a6637fef7106bf4d38caa4dfb0df", func := "haycock/haycocklaw10.LeftistSpines", spec := "leftistSpines", unfollowed := true, recurses := true, apart := false, narrowed := true }
def LeftistSpinesUptoSaid : Prop := leftistSpinesUptoRow.holds Try.pinned (OpenSpec.upto leftistSpinesSpec)

end Rows
end Go.Proofs.Ythjelmbicnbhiaa
