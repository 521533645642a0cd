/- Blocks that are none of an object's, of no program: what a call on the object leaves of them. -/
import Derived.Test.YtokfecbjkngpgaaDoorOwn
namespace Go.Proofs.YtokfecbjkngpgaaDoor
open Go.RowKit Go.Sort

/-- A block that is known whole and is none of an object's. -/
structure Box (F : Nat → Prop) (w : World) (b : Nat) (c : Array Value) (t : TypeId) : Prop where
  blk : Blk w b c t
  off : ¬ F b
theorem Box.moved {F F' : Nat → Prop} {w w' : World} {b : Nat} {c : Array Value} {t : TypeId} (h : Box F w b c t) (m : Moved F F' w w') : Box F' w' b c t :=
  ⟨m.keeps.blk h.blk h.off, fun hf => by
    rcases m.grow b hf with h1 | h1
    · exact h.off h1
    · have := blk_lt h.blk; omega⟩
theorem Box.later {F : Nat → Prop} {w w' : World} {b : Nat} {c : Array Value} {t : TypeId} (h : Box F w b c t) (hb : Below w.heap.size w w') : Box F w' b c t := ⟨later_blk hb h.blk, h.off⟩
theorem Box.alloc {F : Nat → Prop} {w : World} {b : Nat} {c : Array Value} {t : TypeId} (h : Box F w b c t) (o : Obj) : Box F (w.alloc o) b c t := ⟨blk_alloc h.blk o, h.off⟩
theorem Box.new {F : Nat → Prop} {w : World} (hF : ∀ k, F k → k < w.heap.size) (c : Array Value) (t : TypeId) : Box F (w.alloc (.cells c t)) w.heap.size c t :=
  ⟨blk_new w c t, fun hf => by have := hF _ hf; omega⟩
theorem Box.cell {F : Nat → Prop} {w : World} {b : Nat} {c : Array Value} {t : TypeId} (h : Box F w b c t) {o : Nat} {v : Value} (hv : c[o]? = some v) : w.cell? ⟨b, o, none⟩ = some v := blk_cell h.blk hv
theorem Moved.alloc {F F' : Nat → Prop} {a b : World} (h : Moved F F' a b) (o : Obj) : Moved F F' a (b.alloc o) := ⟨h.keeps.alloc o, h.grow⟩
theorem Moved.below_old {F F' : Nat → Prop} {B : Nat} {w w' : World} (h : Moved F F' w w') (hF : ∀ k, F k → B ≤ k ∧ k < w.heap.size) (hB : B ≤ w.heap.size) : Below B w w' := h.keeps.below hB (fun k hk => (hF k hk).1)
end Go.Proofs.YtokfecbjkngpgaaDoor
