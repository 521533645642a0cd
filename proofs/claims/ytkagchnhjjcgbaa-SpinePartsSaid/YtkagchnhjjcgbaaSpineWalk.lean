/- What the statements' walks have in common: acts that come in, done one behind the other. -/
import Derived.Test.YtkagchnhjjcgbaaSpineAlive
namespace Go.Proofs.Ytkagchnhjjcgbaa
open Go.RowKit Go.Sort

/-- Acts that lie in memory, four cells each. -/
def SpineActsAt (w : World) (a0 : Option Addr) (n0 : Nat) : Prop := ∀ k, k < n0 → ∃ b off x y z r, a0 = some ⟨b, off, none⟩ ∧ w.cell? ⟨b, off + k * 4, none⟩ = some (.int .i64 x) ∧ w.cell? ⟨b, off + k * 4 + 1, none⟩ = some (.int .i64 y) ∧ w.cell? ⟨b, off + k * 4 + 2, none⟩ = some (.int .i64 z) ∧ w.cell? ⟨b, off + k * 4 + 3, none⟩ = some (.bool r)
namespace Stage
variable {F0 : Nat → Prop} {W w : World} {l : List Ob}
theorem nilDoc (h : Stage F0 W l w) : Stage F0 W (l ++ [Ob.doc nilV []]) w :=
  h.add (Below.refl _ _) ⟨⟨World.ownsRow_nil _ _ _ _, Nat.zero_le _⟩, rfl⟩ (fun k hk => by simp [rowF, Value.ownBlock] at hk)
end Stage
/-- An act, on a stage that has more than the two. -/
theorem do_tr {F0 : Nat → Prop} {W w : World} {r : List Ob} {p n : Nat} {v : Value} {L : List Hg} (hn : n ≤ 60000) (k y x : Int) (s : Bool) (hs : Stage F0 W ([Ob.spine p n L, Ob.doc v L] ++ r) w) :
    Calls Try.prog 15 #[ptrV p, .agg #[.int .i64 n, v], .agg #[.int .i64 k, .int .i64 y, .int .i64 x, .bool s]] w fun e w' =>
      ∃ a m c L', e = .returned (.tuple #[.agg #[.int .i64 n, .slice a m c], .bool true]) ∧ Stage F0 W ([Ob.spine p n L', Ob.doc (.slice a m c) L'] ++ r) w' := by
  refine (hs.frameEx (α := Option Addr × Nat × Nat × List Hg) (Post := fun t e => e = .returned (.tuple #[.agg #[.int .i64 n, .slice t.1 t.2.1 t.2.2.1], .bool true])) (l' := fun t => [Ob.spine p n t.2.2.2, Ob.doc (.slice t.1 t.2.1 t.2.2.1) t.2.2.2])
    fun F hF h => (do_any hn k y x s h).mono fun e w' ⟨a, m, c, L', h1, h2⟩ => ⟨(a, m, c, L'), h1, h2⟩).mono ?_
  rintro e w' ⟨⟨a, m, c, L'⟩, h1, h3⟩
  exact ⟨a, m, c, L', h1, h3⟩
end Go.Proofs.Ytkagchnhjjcgbaa
