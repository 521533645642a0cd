/- Rings and the document's, side by side: calls upon either; what the statements' acts make. -/
import Derived.Test.YtfngooaobjafjaaRingAlive
import Derived.Test.YtfngooaobjafjaaRingRef7
import Derived.Test.YtfngooaobjafjaaRingRef5
namespace Go.Proofs.Ytfngooaobjafjaa
open Go.RowKit Go.Sort

/-- Acts come in: three integers each. -/
def RActsAt (w : World) (a0 : Option Addr) (n0 : Nat) : Prop := ∀ k, k < n0 → ∃ b off x y z, a0 = some ⟨b, off, none⟩ ∧ w.cell? ⟨b, off + k * 3, none⟩ = some (.int .i64 x) ∧ w.cell? ⟨b, off + k * 3 + 1, none⟩ = some (.int .i64 y) ∧ w.cell? ⟨b, off + k * 3 + 2, none⟩ = some (.int .i64 z)
section
variable {n : Nat} {S : RSt}
theorem good_lists (G : RGood n S) : ∀ l ∈ S.R, l.length ≤ 65536 := fun l hl =>
  Nat.le_trans (nodup_below n l (G.inv.nodup l hl) fun x hx => (G.inv.mem x).1 ⟨l, hl, hx⟩) G.few
theorem good_few (G : RGood n S) (x : Int) : (allR S.R x).length ≤ 65536 := by
  cases h : inR n x
  · rw [G.none h]; simp
  · exact Nat.le_trans (all_few G.inv (inR_iff.1 h)).2 G.few
theorem good_idx (G : RGood n S) (x y : Int) (hne : x ≠ y) (hm : y ∈ allR S.R x) : 1 ≤ (allR S.R x).idxOf y := by
  cases h : inR n x
  · rw [G.none h] at hm; cases hm
  · obtain ⟨s, h1, _⟩ := G.inv.all (inR_iff.1 h)
    rw [h1, List.idxOf_cons, show (x == y) = false by simpa using hne]; simp
theorem all_len2 (G : RGood n S) (x y : Int) : decide (0 < (allR S.R x).length ∧ 0 < (allR S.R y).length) = (inR n x && inR n y) := by
  rw [Bool.decide_and, all_len G, all_len G]
theorem splice_few (R : List (List Int)) (x y : Int) : (spliceR R x y).length ≤ R.length + 2 := by
  have h : (withoutR R x y).length ≤ R.length := List.length_filter_le _ _
  unfold spliceR
  split
  · omega
  · split <;> simp only [List.length_append, List.length_cons, List.length_nil] <;> omega
theorem part_few (R : List (List Int)) (x : Int) : (partR R x).length ≤ R.length + 2 := by
  have h : (withoutR R x x).length ≤ R.length := List.length_filter_le _ _
  unfold partR
  split
  · omega
  · simp only [List.length_append, List.length_cons, List.length_nil]; omega
end
namespace Stage
variable {F0 : Nat → Prop} {W w : World} {l : List Ob} {n : Nat} {S : RSt} {p : Nat} {v : Value}
theorem newDoc (hs : Stage F0 W l w) (n : Nat) (hn : n ≤ 65536) : Calls Try.prog 21 #[.int .i64 n] w fun e w' => ∃ u, e = .returned u ∧ Stage F0 W (l ++ [Ob.docL u (newS n).R]) w' :=
  (rNew n hn).mono fun _ _ ⟨u, _, he, h1, m⟩ => ⟨u, he, hs.add (m.keeps.below (Nat.le_refl _) (fun _ h => h.elim)) h1 fun k hk => (m.grow k hk).elim False.elim id⟩
theorem docCall {P : Program} {f : FuncId} {args : Array Value} {R R' : List (List Int)} {ok : Bool} (hs : Stage F0 W l w) (i : Nat) (hi : l[i]? = some (Ob.docL v R)) (hc : ∀ F, (Ob.docL v R).holds w F → Calls P f args w (DocPost w F R' ok)) :
    Calls P f args w fun e w' => ∃ u, e = .returned (.tuple #[u, .bool ok]) ∧ Stage F0 W (l.set i (Ob.docL u R')) w' := by
  obtain ⟨hbl, F, h1, h2, h3⟩ := hs
  exact (hc (F i) (h1 i _ hi)).mono fun e w' ⟨u, F', he, g1, g2⟩ => ⟨u, he, Stage.swap hbl h1 h2 h3 (Scene.idx hi) g1 g2⟩
theorem docSplice (hs : Stage F0 W l w) (G : RGood n S) (hR : S.R.length ≤ 65536) (i : Nat) (hi : l[i]? = some (Ob.docL v S.R)) (x y : Int) :
    Calls Try.prog 22 #[v, .int .i64 x, .int .i64 y] w fun e w' => ∃ u, e = .returned (.tuple #[u, .bool (inR n x && inR n y)]) ∧ Stage F0 W (l.set i (Ob.docL u (spliceS n S x y).R)) w' := by
  rw [splice_R G, ← all_len2 G]
  exact hs.docCall i hi fun F h => rSplice x y hR (good_lists G) (good_few G x) (good_few G y) (good_idx G x y) h
theorem docPart (hs : Stage F0 W l w) (G : RGood n S) (hR : S.R.length ≤ 65536) (i : Nat) (hi : l[i]? = some (Ob.docL v S.R)) (x : Int) :
    Calls Try.prog 23 #[v, .int .i64 x] w fun e w' => ∃ u, e = .returned (.tuple #[u, .bool (inR n x)]) ∧ Stage F0 W (l.set i (Ob.docL u (partS n S x).R)) w' := by
  rw [part_R G, ← all_len G]
  exact hs.docCall i hi fun F h => rPart x hR (good_lists G) (good_few G x) h
theorem docAll (hs : Stage F0 W l w) (G : RGood n S) (i : Nat) (hi : l[i]? = some (Ob.docL v S.R)) (x : Int) :
    Calls Try.prog 14 #[v, .int .i64 x] w fun e w' => ∃ u, e = .returned u ∧ Stage F0 W (l ++ [Ob.ints u (allR S.R x)]) w' := by
  obtain ⟨F, h⟩ := hs.get hi
  exact (rAll (good_lists G) h.2 x).mono fun e w' ⟨u, he, h2⟩ => ⟨u, he, hs.also h2⟩
theorem ringAll (hs : Stage F0 W l w) (G : RGood n S) (i : Nat) (hi : l[i]? = some (Ob.ring p n S)) (x : Int) :
    Calls Try.prog 12 #[.pointer (some ⟨p, 0, none⟩), .int .i64 x] w fun e w' => ∃ u, e = .returned u ∧ Stage F0 W (l ++ [Ob.ints u (allR S.R x)]) w' :=
  hs.newInts ((hs.get hi).elim fun _ ho => rg_all G x ho)
/-- Two rows of integers that are the same. -/
theorem sameInts {xs ys : List Int} {a b : Option Addr} {c d : Nat} (hs : Stage F0 W l w) (i j : Nat) (hi : l[i]? = some (Ob.ints (.slice a xs.length c) xs)) (hj : l[j]? = some (Ob.ints (.slice b ys.length d) ys)) :
    Calls Try.prog 15 #[.slice a xs.length c, .slice b ys.length d] w fun e w' => e = .returned (.bool (decide (xs = ys))) ∧ Below w.heap.size w w' := by
  obtain ⟨_, _, e1, h1, h2⟩ := hs.intsForm i hi
  cases e1
  obtain ⟨_, _, e2, h3, h4⟩ := hs.intsForm j hj
  cases e2
  exact same_at xs ys a b c d ⟨h1, h2⟩ ⟨h3, h4⟩ (hs.intsAtI i hi) (hs.intsAtI j hj)
end Stage
/-- What a row of integers holds at two places. -/
theorem ring_looks {n : Nat} {S : RSt} (G : RGood n S) {x : Int} (hx : inR n x = true) : ∃ m j : Nat, (allR S.R x).length = m ∧ 1 ≤ m ∧ m ≤ 65536 ∧ Int.tmod 1 (m : Int) = j ∧ j < m ∧ (allR S.R x).getD j 0 = nextI n S x ∧ (allR S.R x).getD (m - 1) 0 = prevI n S x := by
  have h1 := all_few G.inv (inR_iff.1 hx)
  refine ⟨(allR S.R x).length, 1 % (allR S.R x).length, rfl, h1.1, good_few G x, (Int.ofNat_tmod 1 _).symm, Nat.mod_lt _ (by omega), next_all G hx, prev_all G hx⟩
end Go.Proofs.Ytfngooaobjafjaa
