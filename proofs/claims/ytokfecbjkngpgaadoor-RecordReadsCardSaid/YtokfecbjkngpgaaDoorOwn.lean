/- Objects in memory that have blocks of their own, of no program: what a call on one may turn, and what it leaves alone; rows that an object owns. -/
import Derived.Test.YtokfecbjkngpgaaDoorMem
import Derived.Laws.OwnMore
import Derived.WalkSmall
namespace Go.Proofs.YtokfecbjkngpgaaDoor
open Go.RowKit Go.Sort

/-- A call on an object whose blocks are F: nothing else that was there has turned; its blocks are now F', old ones of its own or new. -/
structure Moved (F F' : Nat → Prop) (w w' : World) : Prop where
  keeps : Keeps F w w'
  grow : ∀ k, F' k → F k ∨ w.heap.size ≤ k
theorem Moved.refl (F : Nat → Prop) (w : World) : Moved F F w w := ⟨Keeps.refl _ _, fun _ h => Or.inl h⟩
theorem Moved.trans {F G H : Nat → Prop} {a b c : World} (h : Moved F G a b) (k : Moved G H b c) : Moved F H a c :=
  ⟨h.keeps.trans k.keeps (fun i hi hg => by rcases h.grow i hg with h1 | h1; exact h1; omega),
   fun i hi => by
    rcases k.grow i hi with h1 | h1
    · exact h.grow i h1
    · exact Or.inr (Nat.le_trans h.keeps.size h1)⟩
theorem Moved.of_below {F : Nat → Prop} {a b : World} (h : Below a.heap.size a b) : Moved F F a b := ⟨Keeps.of_below_all h F, fun _ h => Or.inl h⟩
/-- What lies below all of an object's blocks is as it was. -/
theorem Moved.below {F F' : Nat → Prop} {w w' : World} (h : Moved F F' w w') {B : Nat} (hB : B ≤ w.heap.size) (hF : ∀ k, F k → B ≤ k) : Below B w w' := h.keeps.below hB hF
/-- Two objects that share no block share none behind a call on one of them. -/
theorem Moved.apart {F F' G : Nat → Prop} {w w' : World} (h : Moved F F' w w') (hG : ∀ k, G k → k < w.heap.size) (hd : ∀ k, F k → ¬ G k) : ∀ k, F' k → ¬ G k := by
  intro k hk hg
  rcases h.grow k hk with h1 | h1
  · exact hd k h1 hg
  · have := hG k hg; omega

/-- The blocks of a row. -/
def rowF (v : Value) : Nat → Prop := fun k => v.ownBlock = some k
/-- An owned row under a call that has turned other blocks alone. -/
theorem owns_keeps {F : Nat → Prop} {w w' : World} {base : Nat} {e : TypeId} {size : Nat} {v : Value} {n : Nat} {xs : List Value} (h : w.ownsRow base e size v n xs) (k : Keeps F w w') (hn : ∀ b, rowF v b → ¬ F b) : w'.ownsRow base e size v n xs := owns_keep h k hn
theorem owns_same {w w' : World} (hh : w'.heap = w.heap) {base : Nat} {e : TypeId} {size : Nat} {v : Value} {n : Nat} {xs : List Value} (h : w.ownsRow base e size v n xs) : w'.ownsRow base e size v n xs := by
  unfold World.ownsRow at *; rw [hh]; exact h
theorem owns_set_other {w : World} {base : Nat} {e : TypeId} {size : Nat} {v : Value} {n : Nat} {xs : List Value} (h : w.ownsRow base e size v n xs) {a : Addr} (ha : v.ownBlock ≠ some a.block) (u : Value) : (w.setCell a u).ownsRow base e size v n xs :=
  owns_keep h (Keeps.setCell (Keeps.refl (· = a.block) w) a (Or.inl rfl) u) (fun b hb e => ha (by rw [hb, e]))
/-- A row's value is a slice of that length. -/
theorem owns_form {w : World} {base : Nat} {e : TypeId} {size : Nat} {v : Value} {n : Nat} {xs : List Value} (h : w.ownsRow base e size v n xs) : ∃ a cap, v = .slice a n cap ∧ n ≤ cap ∧ cap ≤ maxLen := by
  obtain ⟨_, ⟨rfl, rfl⟩ | ⟨g, cap, cur, hv, hg, hh, hle, hmax, _⟩⟩ := h
  · exact ⟨none, 0, rfl, Nat.le_refl _, by decide⟩
  · exact ⟨_, cap, hv, hle, hmax⟩
theorem grown_keeps {w w' : World} {v : Value} (h : w.grownBy w' v.ownBlock) : Keeps (rowF v) w w' := ⟨h.os, h.tape, h.output, h.size, fun k hk hn => h.block k hk (fun e => hn e.symm)⟩
theorem new_cells' (w : World) (c : Array Value) (t : TypeId) (news : List Value) (H : Nat) (hH : w.heap.size = H) (h : news = c.toList) : ∀ j u, news[j]? = some u → (w.alloc (.cells c t)).cell? ((⟨H, 0, none⟩ : Addr).add j) = some u := by
  subst hH; exact new_cells w c t news h
theorem size_alloc (w : World) (o : Obj) : (w.alloc o).heap.size = w.heap.size + 1 := by show (w.heap.push _).size = _; simp
end Go.Proofs.YtokfecbjkngpgaaDoor
