/- Rows as things of a scene, of no program: empty ones, appended ones, written ones. -/
import Derived.Test.YtjpehcpkhbfjaaaScene
import Derived.Test.YtjpehcpkhbfjaaaAppend
import Derived.Test.YtjpehcpkhbfjaaaRow
namespace Go.Proofs.Ytjpehcpkhbfjaaa
open Go.RowKit Go.Sort
namespace Scene
variable {W w w' : World} {l : List Ob}
/-- A row that is nil. -/
theorem nilRow (h : Scene W l w) (B : Nat) (e : TypeId) (size : Nat) : Scene W (l ++ [Ob.row B e size (.slice none 0 0) 0 []]) w :=
  h.add (Below.refl _ _) ⟨World.ownsRow_nil _ _ _ _, rfl⟩ (fun k hk => by simp [rowF, Value.ownBlock] at hk)
/-- An empty row that was just written out. -/
theorem emptyRow (h : Scene W l w) (B : Nat) (hB : B ≤ w.heap.size) (e : TypeId) (size : Nat) : Scene W (l ++ [Ob.row B e size (.slice (some ⟨w.heap.size, 0, none⟩) 0 0) 0 []]) (w.alloc (.cells #[] e)) :=
  h.add ((Below.refl _ _).alloc (Nat.le_refl _) _) ⟨owns_empty w e size B hB, rfl⟩ (fun k hk => Nat.le_of_eq (by simpa [rowF, Value.ownBlock] using hk))
/-- A row that was just written out. -/
theorem newRow (h : Scene W l w) (B : Nat) (hB : B ≤ w.heap.size) (e : TypeId) (size n : Nat) (c : Array Value) (hs : c.size = n * size) (hm : n ≤ maxLen) : Scene W (l ++ [Ob.row B e size (.slice (some ⟨w.heap.size, 0, none⟩) n n) n c.toList]) (w.alloc (.cells c e)) :=
  h.add ((Below.refl _ _).alloc (Nat.le_refl _) _) ⟨owns_new hB hs hm, rfl⟩ (fun k hk => Nat.le_of_eq (by simpa [rowF, Value.ownBlock] using hk))
/-- Behind an append onto it. -/
theorem grown (h : Scene W l w) (i : Nat) {B : Nat} {e : TypeId} {size : Nat} {v v' : Value} {n m : Nat} {xs ys : List Value} (hi : l[i]? = some (Ob.row B e size v n xs)) (ho : w'.ownsRow B e size v' m ys) (hg : w.grownBy w' v.ownBlock) {H : Nat} (hl : ∀ k, rowF v' k → rowF v k ∨ k = H) (hH : w.heap.size ≤ H := by first | exact Nat.le_refl _ | exact Nat.le_of_eq (size_alloc _ _)) : Scene W (l.set i (Ob.row B e size v' m ys)) w' :=
  h.moved hi fun F ⟨_, hF⟩ => ⟨rowF v', ⟨ho, rfl⟩, by subst hF; exact ⟨grown_keeps hg, fun k hk => (hl k hk).imp id (fun e => by omega)⟩⟩
/-- A cell of a row is written. -/
theorem storeRow (h : Scene W l w) (i : Nat) {B : Nat} {e : TypeId} {size g n cap : Nat} {xs ys : List Value} (hi : l[i]? = some (Ob.row B e size (.slice (some ⟨g, 0, none⟩) n cap) n xs)) (o : Nat) (u : Value) (hys : xs.set o u = ys) : Scene W (l.set i (Ob.row B e size (.slice (some ⟨g, 0, none⟩) n cap) n ys)) (w.setCell ⟨g, o, none⟩ u) :=
  h.moved hi fun F ⟨ho, hF⟩ => ⟨F, ⟨hys ▸ (ho.stored o u).1, hF⟩, (Keeps.refl F w).setCell ⟨g, o, none⟩ (Or.inl (by rw [hF]; rfl)) u, fun _ hk => Or.inl hk⟩
end Scene
end Go.Proofs.Ytjpehcpkhbfjaaa
