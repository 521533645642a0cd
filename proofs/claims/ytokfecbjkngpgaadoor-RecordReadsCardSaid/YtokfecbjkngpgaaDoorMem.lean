/- Small lemmas on memory, of no program: blocks that are known whole; what a call may have changed ('Keeps F': all old blocks but those of F are as they were). -/
import Derived.Test.YtokfecbjkngpgaaDoorBase
import Derived.OneCell
namespace Go.Proofs.YtokfecbjkngpgaaDoor
open Go.RowKit Go.Sort

/-- A block of cells that may be written, known whole. -/
def Blk (w : World) (b : Nat) (c : Array Value) (t : TypeId) : Prop := w.heap[b]? = some (.cells c t (0, 0))
/-- All blocks that were there, but those of F, are as they were. -/
structure Keeps (F : Nat → Prop) (w w' : World) : Prop where
  os : w'.os = w.os
  tape : w'.tape = w.tape
  output : w'.output = w.output
  size : w.heap.size ≤ w'.heap.size
  block : ∀ k, k < w.heap.size → ¬ F k → w'.heap[k]? = w.heap[k]?

theorem blk_lt {w : World} {b : Nat} {c : Array Value} {t : TypeId} (h : Blk w b c t) : b < w.heap.size := lt_of_block h
theorem blk_cell {w : World} {b : Nat} {c : Array Value} {t : TypeId} (h : Blk w b c t) {o : Nat} {v : Value} (hv : c[o]? = some v) : w.cell? ⟨b, o, none⟩ = some v := by
  simp only [Blk] at h; simp [World.cell?, h, hv]
theorem blk_free {w : World} {b : Nat} {c : Array Value} {t : TypeId} (h : Blk w b c t) (o : Nat) : w.frozen? ⟨b, o, none⟩ = false := by
  simp only [Blk] at h; simp [World.frozen?, h]
theorem blk_set {w : World} {b : Nat} {c : Array Value} {t : TypeId} (h : Blk w b c t) (o : Nat) (v : Value) : Blk (w.setCell ⟨b, o, none⟩ v) b (c.setIfInBounds o v) t := by
  have hlt := blk_lt h
  simp only [Blk] at *
  have h' : w.heap[b] = .cells c t (0, 0) := by simpa [Array.getElem?_eq_getElem hlt] using h
  show (w.heap.modify b _)[b]? = _
  rw [Array.getElem?_eq_getElem (by simpa using hlt), Array.getElem_modify_self, h']
  rfl
theorem blk_set_other {w : World} {b : Nat} {c : Array Value} {t : TypeId} (h : Blk w b c t) {a : Addr} (ha : a.block ≠ b) (v : Value) : Blk (w.setCell a v) b c t := by
  simp only [Blk] at *; rw [Below.heap_setCell _ _ _ _ (fun e => ha e.symm)]; exact h
theorem blk_alloc {w : World} {b : Nat} {c : Array Value} {t : TypeId} (h : Blk w b c t) (o : Obj) : Blk (w.alloc o) b c t := by
  have := blk_lt h
  simp only [Blk] at *; rw [Below.heap_alloc _ _ _ this]; exact h
theorem blk_new (w : World) (c : Array Value) (t : TypeId) : Blk (w.alloc (.cells c t)) w.heap.size c t := by
  show (w.heap.push _)[w.heap.size]? = _
  simp
theorem blk_drewN {w : World} {b : Nat} {c : Array Value} {t : TypeId} (h : Blk w b c t) (n : Nat) : Blk (w.drewN n) b c t := h
theorem blk_drew {w : World} {b : Nat} {c : Array Value} {t : TypeId} (h : Blk w b c t) : Blk w.drew b c t := h
theorem blk_same {w w' : World} (e : w'.heap = w.heap) {b : Nat} {c : Array Value} {t : TypeId} (h : Blk w b c t) : Blk w' b c t := by simp only [Blk] at *; rw [e]; exact h

theorem Keeps.refl (F : Nat → Prop) (w : World) : Keeps F w w := ⟨rfl, rfl, rfl, Nat.le_refl _, fun _ _ _ => rfl⟩
theorem Keeps.mono {F G : Nat → Prop} {w w' : World} (h : Keeps F w w') (hG : ∀ k, k < w.heap.size → F k → G k) : Keeps G w w' := ⟨h.os, h.tape, h.output, h.size, fun k hk hn => h.block k hk (fun hf => hn (hG k hk hf))⟩
theorem Keeps.trans {F G : Nat → Prop} {a b c : World} (h : Keeps F a b) (k : Keeps G b c) (hG : ∀ i, i < a.heap.size → G i → F i) : Keeps F a c :=
  ⟨k.os.trans h.os, k.tape.trans h.tape, k.output.trans h.output, Nat.le_trans h.size k.size, fun i hi hn => (k.block i (Nat.lt_of_lt_of_le hi h.size) (fun hg => hn (hG i hi hg))).trans (h.block i hi hn)⟩
theorem Keeps.then {F : Nat → Prop} {a b c : World} (h : Keeps F a b) (k : Keeps F b c) : Keeps F a c := h.trans k fun _ _ x => x
theorem Keeps.drew {F : Nat → Prop} {a w : World} (h : Keeps F a w) : Keeps F a w.drew := ⟨h.os, h.tape, h.output, h.size, h.block⟩
theorem Keeps.drewN {F : Nat → Prop} {a w : World} (h : Keeps F a w) (n : Nat) : Keeps F a (w.drewN n) := ⟨h.os, h.tape, h.output, h.size, h.block⟩
theorem Keeps.alloc {F : Nat → Prop} {a w : World} (h : Keeps F a w) (o : Obj) : Keeps F a (w.alloc o) :=
  h.then ⟨rfl, rfl, rfl, by simp, fun k hk _ => Below.heap_alloc _ _ _ hk⟩
theorem Keeps.setCell {F : Nat → Prop} {a w : World} (h : Keeps F a w) (p : Addr) (hp : F p.block ∨ a.heap.size ≤ p.block) (u : Value) : Keeps F a (w.setCell p u) :=
  ⟨h.os, h.tape, h.output, Nat.le_trans h.size (by simp [World.setCell]), fun k hk hn => (Below.heap_setCell _ _ _ _ (fun e => by
    rcases hp with hp | hp
    · exact hn (e ▸ hp)
    · omega)).trans (h.block k hk hn)⟩
theorem Keeps.of_below {B : Nat} {w w' : World} (h : Below B w w') : Keeps (fun k => B ≤ k) w w' := ⟨h.os, h.tape, h.output, h.size, fun k _ hn => h.block k (by omega)⟩
theorem Keeps.of_below_all {w w' : World} (h : Below w.heap.size w w') (F : Nat → Prop) : Keeps F w w' := ⟨h.os, h.tape, h.output, h.size, fun k hk _ => h.block k hk⟩
theorem Keeps.below {F : Nat → Prop} {B : Nat} {w w' : World} (h : Keeps F w w') (hB : B ≤ w.heap.size) (hF : ∀ k, F k → B ≤ k) : Below B w w' :=
  ⟨h.os, h.tape, h.output, h.size, fun k hk => h.block k (by omega) (fun hf => by have := hF k hf; omega)⟩
theorem Keeps.blk {F : Nat → Prop} {w w' : World} (h : Keeps F w w') {b : Nat} {c : Array Value} {t : TypeId} (hb : Blk w b c t) (hn : ¬ F b) : Blk w' b c t := by
  have := blk_lt hb
  simp only [Blk] at *; rw [h.block b this hn]; exact hb
theorem Keeps.cell {F : Nat → Prop} {w w' : World} (h : Keeps F w w') {p : Addr} {v : Value} (hp : w.cell? p = some v) (hn : ¬ F p.block) : w'.cell? p = some v := by
  rw [World.cell?_of_block (w := w) (h.block _ (block_lt_of_cell hp) hn)]; exact hp
/-- A cell that was there reads later as it read. -/
theorem later {w w1 : World} {a : Addr} {v : Value} (hb : Below w.heap.size w w1) (h : w.cell? a = some v) : w1.cell? a = some v := by rw [hb.cell (block_lt_of_cell h)]; exact h
theorem later_blk {w w1 : World} {b : Nat} {c : Array Value} {t : TypeId} (hb : Below w.heap.size w w1) (h : Blk w b c t) : Blk w1 b c t := by
  have := blk_lt h
  simp only [Blk] at *; rw [hb.block _ this]; exact h
theorem ret_bool {a b : Bool} (h : a = b) : Ending.returned (.bool a) = .returned (.bool b) := by rw [h]
theorem ret_int {k : IntKind} {a b : Int} (h : a = b) : Ending.returned (.int k a) = .returned (.int k b) := by rw [h]
/-- Behind one new block: what lay below is as it was. -/
theorem below_alloc1 {w w1 : World} {o : Obj} (h : Below (w.alloc o).heap.size (w.alloc o) w1) : Below w.heap.size w w1 :=
  ((Below.refl _ _).alloc (Nat.le_refl _) o).trans (h.mono (by simp))
theorem cells1 {w w1 : World} {x : Array Value} {t : TypeId} (h : Below (w.alloc (.cells x t)).heap.size (w.alloc (.cells x t)) w1) (o : Nat) :
    w1.cell? ⟨w.heap.size, o, none⟩ = (w.alloc (.cells x t)).cell? ⟨w.heap.size, o, none⟩ := h.cell (p := ⟨w.heap.size, o, none⟩) (by simp)
/-- A struct of two numbers that was put by: its cells, later. -/
theorem box2 {w w1 : World} {x y : Value} {t : TypeId} (h : Below (w.alloc (.cells #[x, y] t)).heap.size (w.alloc (.cells #[x, y] t)) w1) :
    w1.cell? ⟨w.heap.size, 0, none⟩ = some x ∧ w1.cell? ⟨w.heap.size, 1, none⟩ = some y := by
  rw [cells1 h, cells1 h]
  exact ⟨by go_simp, by go_simp⟩
theorem bcell {B : Nat} {W w1 : World} (hb : Below B W w1) : (∀ b o, b < B → w1.cell? ⟨b, o, none⟩ = W.cell? ⟨b, o, none⟩) ∧ (∀ b o, b < B → w1.frozen? ⟨b, o, none⟩ = W.frozen? ⟨b, o, none⟩) :=
  ⟨fun b o h => hb.cell (p := ⟨b, o, none⟩) h, fun b o h => hb.frozen (p := ⟨b, o, none⟩) h⟩
theorem below_regrown' {W W3 : World} (hw : ∃ p : Regrown, W3 = grow (redrawn W p.d) p.os) : Below W.heap.size W W3 := by
  obtain ⟨p, rfl⟩ := hw
  exact below_regrown _ _ _
/-- What is owned stays owned while other blocks are written. -/
theorem owns_keep {F : Nat → Prop} {w w' : World} {base : Nat} {e : TypeId} {size : Nat} {v : Value} {n : Nat} {xs : List Value} (h : w.ownsRow base e size v n xs) (k : Keeps F w w') (hn : ∀ b, v.ownBlock = some b → ¬ F b) : w'.ownsRow base e size v n xs := by
  obtain ⟨h1, h2⟩ := h
  refine ⟨h1, ?_⟩
  rcases h2 with h2 | ⟨g, cap, cur, hv, hg, hh, r⟩
  · exact Or.inl h2
  · subst hv
    exact Or.inr ⟨g, cap, cur, rfl, hg, by rw [k.block g (lt_of_block hh) (hn g rfl)]; exact hh, r⟩
theorem owns_later {w w' : World} {base : Nat} {e : TypeId} {size : Nat} {v : Value} {n : Nat} {xs : List Value} (h : w.ownsRow base e size v n xs) (hb : Below w.heap.size w w') : w'.ownsRow base e size v n xs :=
  owns_keep h (Keeps.of_below_all hb (fun _ => False)) (fun _ _ x => x)
/-- A block that was just made reads as what was put into it. -/
theorem new_cells (w : World) (c : Array Value) (t : TypeId) (news : List Value) (h : news = c.toList) : ∀ j u, news[j]? = some u → (w.alloc (.cells c t)).cell? ((⟨w.heap.size, 0, none⟩ : Addr).add j) = some u := by
  subst h
  intro j u hj
  have : (w.alloc (.cells c t)).cell? ⟨w.heap.size, j, none⟩ = c[j]? := World.cell?_alloc_new w c t j
  have e : (⟨w.heap.size, 0, none⟩ : Addr).add j = ⟨w.heap.size, j, none⟩ := by
    unfold Addr.add
    by_cases h0 : j = 0
    · simp [h0]
    · simp [h0]
  rw [e, this]
  simpa using hj
/-- A list that was just written out is the call's own. -/
theorem owns_new {w : World} {base : Nat} {e : TypeId} {size n : Nat} {c : Array Value} (hb : base ≤ w.heap.size) (hs : c.size = n * size) (hm : n ≤ maxLen) : (w.alloc (.cells c e)).ownsRow base e size (.slice (some ⟨w.heap.size, 0, none⟩) n n) n c.toList :=
  ⟨by simpa using hs, Or.inr ⟨w.heap.size, n, c, rfl, hb, blk_new w c e, Nat.le_refl _, hm, hs, by rw [List.take_of_length_le (by simp [hs])]⟩⟩
/-- What an owned list that isn't empty is. -/
theorem owns_slice {w : World} {base : Nat} {e : TypeId} {size : Nat} {v : Value} {n : Nat} {xs : List Value} (h : w.ownsRow base e size v n xs) (hn : 0 < n) :
    ∃ g cap, v = .slice (some ⟨g, 0, none⟩) n cap ∧ n ≤ cap ∧ cap ≤ maxLen ∧ base ≤ g ∧ g < w.heap.size ∧ ∀ j u, xs[j]? = some u → w.cell? ⟨g, j, none⟩ = some u := by
  have hc := @World.ownsRow.cells _ _ _ _ _ _ _ h
  obtain ⟨_, ⟨_, h0⟩ | ⟨g, cap, cur, hv, hg, hh, hle, hmax, _⟩⟩ := h
  · omega
  · refine ⟨g, cap, hv, hle, hmax, hg, lt_of_block hh, fun j u hj => ?_⟩
    have := hc (g := g) (by rw [hv]; rfl) j u hj
    have e : (⟨g, 0, none⟩ : Addr).add j = ⟨g, j, none⟩ := by
      unfold Addr.add
      by_cases h0 : j = 0
      · simp [h0]
      · simp [h0]
    rw [e] at this
    exact this
/-- One cell was written, and nothing else. -/
structure Wrote (a : Addr) (v : Value) (w w' : World) : Prop where
  heap : w'.heap = (w.setCell a v).heap
  os : w'.os = w.os
  tape : w'.tape = w.tape
  output : w'.output = w.output
theorem Wrote.keeps {a : Addr} {v : Value} {w w' : World} (h : Wrote a v w w') : Keeps (· = a.block) w w' :=
  ⟨h.os, h.tape, h.output, by rw [h.heap]; simp [World.setCell], fun k _ hn => by rw [h.heap]; exact Below.heap_setCell _ _ _ _ hn⟩
theorem Wrote.blk {b o : Nat} {v : Value} {w w' : World} (h : Wrote ⟨b, o, none⟩ v w w') {c : Array Value} {t : TypeId} (hb : Blk w b c t) : Blk w' b (c.setIfInBounds o v) t := blk_same h.heap (blk_set hb o v)
theorem Wrote.self {a : Addr} {v u : Value} {w w' : World} (h : Wrote a v w w') (hc : w.cell? a = some u) : w'.cell? a = some v := by
  have := World.cell?_setCell_same w a v hc
  rw [World.cell?_of_block (w := w.setCell a v) (by rw [h.heap])]
  exact this
/-- To write what stands there is to write nothing. -/
theorem wrote_same {a : Addr} {v : Value} {w : World} (hc : w.cell? a = some v) : Wrote a v w w := by
  refine ⟨?_, rfl, rfl, rfl⟩
  apply Array.ext_getElem?
  intro k
  by_cases hk : k = a.block
  · subst hk
    unfold World.cell? at hc
    simp only [World.setCell, Array.getElem?_modify, if_true]
    split at hc
    · rename_i c e f hb
      rw [hb]
      cases hs : a.spot with
      | some _ => simp [hs] at hc
      | none =>
        simp only [hs, Option.isSome_none, Bool.false_eq_true, if_false] at hc
        simp only [Option.map_some, Option.isSome_none, Bool.false_eq_true, if_false]
        congr 2
        apply Array.ext_getElem?
        intro i
        rw [Array.getElem?_setIfInBounds]
        by_cases hi : a.off = i
        · subst hi
          rw [if_pos rfl, hc]
          have := (Array.getElem?_eq_some_iff.1 hc).1
          simp [this]
        · rw [if_neg hi]
    · simp at hc
  · exact (Below.heap_setCell w a v k hk).symm
end Go.Proofs.YtokfecbjkngpgaaDoor
