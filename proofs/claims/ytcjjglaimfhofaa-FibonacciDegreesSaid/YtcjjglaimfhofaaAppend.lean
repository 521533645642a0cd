/- Merged of FiNode, Box, Scene, Append. -/
import Derived.Test.YtcjjglaimfhofaaRow
import Derived.Maps.AppendAt
import Derived.Deep.RegionLaw
namespace Go.Proofs.Ytcjjglaimfhofaa
open Go.RowKit

def ndC (t : Node) : List Value := [.int .i64 t.up, .int .i64 t.kid, .int .i64 t.deg, .bool t.lost]
theorem ndC_len (t : Node) : (ndC t).length = 4 := rfl
def rawN (n : Nat) (T : Int → Node) : List Node := (List.range n).map fun i : Nat => T i
theorem rawN_len (n : Nat) (T : Int → Node) : (rawN n T).length = n := by simp [rawN]
theorem rawN_at {n i : Nat} (T : Int → Node) (h : i < n) (d : Node) : (rawN n T).getD i d = T i := by simp [rawN, List.getD_eq_getElem?_getD, h]
theorem rawN_set {n i : Nat} (T : Int → Node) (t : Node) (_h : i < n) : (rawN n T).set i t = rawN n (setN T i t) := by
  apply List.ext_getElem
  · simp [rawN]
  · intro j h1 h2
    simp only [rawN, List.length_set, List.length_map, List.length_range] at h1
    by_cases e : i = j
    · subst e; simp [rawN, setN]
    · simp [rawN, setN, e, show ¬ (j : Int) = i by omega]
theorem setN_at (T : Int → Node) (x : Int) (t : Node) : setN T x t x = t := by simp [setN]
theorem setN_ne (T : Int → Node) {x y : Int} (t : Node) (h : y ≠ x) : setN T x t y = T y := by simp [setN, h]
theorem setN_two (T : Int → Node) (x : Int) (a b : Node) : setN (setN T x a) x b = setN T x b := by funext z; unfold setN; split <;> rfl
section
variable {n i : Nat} (T : Int → Node) (h : i < n)
include h
/-- One cell of the row is written. -/
theorem nd_up (v : Int) : (cellsBy ndC (rawN n T)).set (i * 4) (.int .i64 v) = cellsBy ndC (rawN n (setN T i ⟨v, (T i).kid, (T i).deg, (T i).lost⟩)) := by
  have := cellsBy_set ndC 4 ndC_len .no (rawN n T) i 0 (.int .i64 v) ⟨v, (T i).kid, (T i).deg, (T i).lost⟩ (by rw [rawN_len]; exact h) (by omega) (by rw [rawN_at T h]; rfl)
  rwa [Nat.add_zero, rawN_set T _ h] at this
theorem nd_kid (v : Int) : (cellsBy ndC (rawN n T)).set (i * 4 + 1) (.int .i64 v) = cellsBy ndC (rawN n (setN T i ⟨(T i).up, v, (T i).deg, (T i).lost⟩)) := by
  have := cellsBy_set ndC 4 ndC_len .no (rawN n T) i 1 (.int .i64 v) ⟨(T i).up, v, (T i).deg, (T i).lost⟩ (by rw [rawN_len]; exact h) (by omega) (by rw [rawN_at T h]; rfl)
  rwa [rawN_set T _ h] at this
theorem nd_deg (v : Int) : (cellsBy ndC (rawN n T)).set (i * 4 + 2) (.int .i64 v) = cellsBy ndC (rawN n (setN T i ⟨(T i).up, (T i).kid, v, (T i).lost⟩)) := by
  have := cellsBy_set ndC 4 ndC_len .no (rawN n T) i 2 (.int .i64 v) ⟨(T i).up, (T i).kid, v, (T i).lost⟩ (by rw [rawN_len]; exact h) (by omega) (by rw [rawN_at T h]; rfl)
  rwa [rawN_set T _ h] at this
theorem nd_lost (v : Bool) : (cellsBy ndC (rawN n T)).set (i * 4 + 3) (.bool v) = cellsBy ndC (rawN n (setN T i ⟨(T i).up, (T i).kid, (T i).deg, v⟩)) := by
  have := cellsBy_set ndC 4 ndC_len .no (rawN n T) i 3 (.bool v) ⟨(T i).up, (T i).kid, (T i).deg, v⟩ (by rw [rawN_len]; exact h) (by omega) (by rw [rawN_at T h]; rfl)
  rwa [rawN_set T _ h] at this
end
end Go.Proofs.Ytcjjglaimfhofaa

namespace Go.Proofs.Ytcjjglaimfhofaa
open Go.RowKit Go.Sort

/-- A block that is known whole and is none of an object's. -/
structure Box (F : Nat → Prop) (w : World) (b : Nat) (c : Array Value) (t : TypeId) : Prop where
  blk : Blk w b c t
  off : ¬ F b
theorem Box.moved {F F' : Nat → Prop} {w w' : World} {b : Nat} {c : Array Value} {t : TypeId} (h : Box F w b c t) (m : Moved F F' w w') : Box F' w' b c t :=
  ⟨m.keeps.blk h.blk h.off, fun hf => by
    rcases m.grow b hf with h1 | h1
    · exact h.off h1
    · have := blk_lt h.blk; omega⟩
theorem Box.later {F : Nat → Prop} {w w' : World} {b : Nat} {c : Array Value} {t : TypeId} (h : Box F w b c t) (hb : Below w.heap.size w w') : Box F w' b c t := ⟨later_blk hb h.blk, h.off⟩
theorem Box.alloc {F : Nat → Prop} {w : World} {b : Nat} {c : Array Value} {t : TypeId} (h : Box F w b c t) (o : Obj) : Box F (w.alloc o) b c t := ⟨blk_alloc h.blk o, h.off⟩
theorem Box.new {F : Nat → Prop} {w : World} (hF : ∀ k, F k → k < w.heap.size) (c : Array Value) (t : TypeId) : Box F (w.alloc (.cells c t)) w.heap.size c t :=
  ⟨blk_new w c t, fun hf => by have := hF _ hf; omega⟩
theorem Box.cell {F : Nat → Prop} {w : World} {b : Nat} {c : Array Value} {t : TypeId} (h : Box F w b c t) {o : Nat} {v : Value} (hv : c[o]? = some v) : w.cell? ⟨b, o, none⟩ = some v := blk_cell h.blk hv
theorem Moved.alloc {F F' : Nat → Prop} {a b : World} (h : Moved F F' a b) (o : Obj) : Moved F F' a (b.alloc o) := ⟨h.keeps.alloc o, h.grow⟩
theorem Moved.below_old {F F' : Nat → Prop} {B : Nat} {w w' : World} (h : Moved F F' w w') (hF : ∀ k, F k → B ≤ k ∧ k < w.heap.size) (hB : B ≤ w.heap.size) : Below B w w' := h.keeps.below hB (fun k hk => (hF k hk).1)
end Go.Proofs.Ytcjjglaimfhofaa

namespace Go.Proofs.Ytcjjglaimfhofaa
open Go.RowKit Go.Sort

/-- A thing in memory: what holds of it, and which blocks are its own. It holds on while no block of its own is turned. -/
structure Ob where
  holds : World → (Nat → Prop) → Prop
  keeps : ∀ {w w' : World} {F G : Nat → Prop}, holds w F → Keeps G w w' → (∀ b, F b → ¬ G b) → holds w' F
  lt : ∀ {w : World} {F : Nat → Prop}, holds w F → ∀ k, F k → k < w.heap.size
/-- A block that is known whole. -/
def Ob.box (b : Nat) (c : Array Value) (t : TypeId) : Ob where
  holds w F := Blk w b c t ∧ F = (· = b)
  keeps := by rintro w w' F G ⟨h, rfl⟩ k hn; exact ⟨k.blk h (hn b rfl), rfl⟩
  lt := by rintro w F ⟨h, rfl⟩ k rfl; exact blk_lt h
/-- A row of one's own. -/
def Ob.row (B : Nat) (e : TypeId) (size : Nat) (v : Value) (n : Nat) (xs : List Value) : Ob where
  holds w F := w.ownsRow B e size v n xs ∧ F = rowF v
  keeps := by rintro w w' F G ⟨h, rfl⟩ k hn; exact ⟨owns_keeps h k hn, rfl⟩
  lt := by rintro w F ⟨h, rfl⟩ k hk; exact (h.lt k hk).2
/-- Something that hangs on no memory. -/
def Ob.none : Ob where
  holds _ F := F = fun _ => False
  keeps := fun h _ _ => h
  lt := by rintro w F rfl k h; exact h.elim

/-- All of l are there, apart from each other, in blocks that are new since W; what was there at W is as it was. -/
structure Scene (W : World) (l : List Ob) (w : World) : Prop where
  below : Below W.heap.size W w
  all : ∃ F : Nat → Nat → Prop, (∀ (i : Nat) (O : Ob), l[i]? = some O → O.holds w (F i)) ∧ (∀ (i j b : Nat), i ≠ j → F i b → ¬ F j b) ∧ ∀ (i b : Nat), F i b → W.heap.size ≤ b ∧ b < w.heap.size

namespace Scene
variable {W w w' : World} {l : List Ob}
theorem start (W : World) : Scene W [] W := ⟨Below.refl _ _, fun _ _ => False, fun i O h => by simp at h, fun _ _ _ _ h => h.elim, fun _ _ h => h.elim⟩
theorem later (h : Scene W l w) (hb : Below w.heap.size w w') : Scene W l w' := by
  obtain ⟨hbl, F, h1, h2, h3⟩ := h
  exact ⟨below_chain hbl hb, F, fun i O hi => O.keeps (h1 i O hi) (Keeps.of_below_all hb (fun _ => False)) (fun _ _ x => x), h2, fun i b hb' => ⟨(h3 i b hb').1, Nat.lt_of_lt_of_le (h3 i b hb').2 hb.size⟩⟩
theorem drew (h : Scene W l w) : Scene W l w.drew := h.later (Below.refl _ _).drew
theorem drewN (h : Scene W l w) (n : Nat) : Scene W l (w.drewN n) := h.later (below_drewN (Below.refl _ _) n)
theorem get (h : Scene W l w) {i : Nat} {O : Ob} (hi : l[i]? = some O) : ∃ F, O.holds w F := by
  obtain ⟨_, F, h1, _⟩ := h; exact ⟨F i, h1 i O hi⟩
theorem size (h : Scene W l w) : W.heap.size ≤ w.heap.size := h.below.size
/-- One thing turned into another one: the others are as they were. -/
theorem swap {F : Nat → Nat → Prop} {F' : Nat → Prop} {i : Nat} {O' : Ob} (hbl : Below W.heap.size W w) (h1 : ∀ (i : Nat) (O : Ob), l[i]? = some O → O.holds w (F i)) (h2 : ∀ (i j b : Nat), i ≠ j → F i b → ¬ F j b) (h3 : ∀ (i b : Nat), F i b → W.heap.size ≤ b ∧ b < w.heap.size)
    (hi : i < l.length) (ho : O'.holds w' F') (m : Moved (F i) F' w w') : Scene W (l.set i O') w' := by
  have hsz := m.keeps.size
  have hW := hbl.size
  refine ⟨hbl.trans (m.below_old (h3 i) hW), fun j => if j = i then F' else F j, fun j P hj => ?_, fun j k b hjk hb hb' => ?_, fun j b hb => ?_⟩
  · by_cases e : j = i
    · subst e
      rw [List.getElem?_set_self hi] at hj
      cases hj
      simpa using ho
    · rw [List.getElem?_set_ne (fun x => e x.symm)] at hj
      simp only [if_neg e]
      exact P.keeps (h1 j P hj) m.keeps (fun b hb => h2 j i b e hb)
  · simp only at hb hb'
    split at hb
    · rename_i e
      subst e
      rw [if_neg (fun x => hjk x.symm)] at hb'
      exact m.apart (fun k hk => (h3 _ k hk).2) (fun b hb hb2 => h2 _ _ b hjk hb hb2) b hb hb'
    · rename_i e
      split at hb'
      · rename_i e2
        subst e2
        exact m.apart (fun k hk => (h3 _ k hk).2) (fun b hb hb2 => h2 _ _ b (fun x => hjk x.symm) hb hb2) b hb' hb
      · exact h2 j k b hjk hb hb'
  · simp only at hb
    split at hb
    · refine ⟨?_, O'.lt ho b hb⟩
      rcases m.grow b hb with hg | hg
      · exact (h3 i b hg).1
      · omega
    · exact ⟨(h3 j b hb).1, Nat.lt_of_lt_of_le (h3 j b hb).2 hsz⟩
theorem idx {i : Nat} {O : Ob} (hi : l[i]? = some O) : i < l.length := by
  by_cases hl : i < l.length
  · exact hl
  · rw [List.getElem?_eq_none (by omega)] at hi; cases hi
theorem idx' {α : Type} {l : List α} {i : Nat} {O : α} (hi : l[i]? = some O) : i < l.length := by
  by_cases hl : i < l.length
  · exact hl
  · rw [List.getElem?_eq_none (by omega)] at hi; cases hi
theorem moved (h : Scene W l w) {i : Nat} {O O' : Ob} (hi : l[i]? = some O) (hm : ∀ F, O.holds w F → ∃ F', O'.holds w' F' ∧ Moved F F' w w') : Scene W (l.set i O') w' := by
  obtain ⟨hbl, F, h1, h2, h3⟩ := h
  obtain ⟨F', ho, m⟩ := hm (F i) (h1 i O hi)
  exact swap hbl h1 h2 h3 (idx hi) ho m
/-- Something new. -/
theorem add (h : Scene W l w) {O : Ob} {F' : Nat → Prop} (hb : Below w.heap.size w w') (ho : O.holds w' F') (hn : ∀ k, F' k → w.heap.size ≤ k) : Scene W (l ++ [O]) w' := by
  obtain ⟨hbl, F, h1, h2, h3⟩ := h
  have hW := hbl.size
  have hsz := hb.size
  refine ⟨below_chain hbl hb, fun j => if j = l.length then F' else if j < l.length then F j else fun _ => False, fun j P hj => ?_, fun j k b hjk hb1 hb2 => ?_, fun j b hb1 => ?_⟩
  · by_cases e : j = l.length
    · subst e
      simp at hj
      subst hj
      simpa using ho
    · by_cases e2 : j < l.length
      · rw [List.getElem?_append_left e2] at hj
        simp only [if_neg e, if_pos e2]
        exact P.keeps (h1 j P hj) (Keeps.of_below_all hb (fun _ => False)) (fun _ _ x => x)
      · rw [List.getElem?_eq_none (by simp; omega)] at hj; cases hj
  · simp only at hb1 hb2
    split at hb1
    · rename_i e
      rw [if_neg (by omega)] at hb2
      split at hb2
      · have := hn b hb1; have := (h3 k b hb2).2; omega
      · exact hb2
    · split at hb1
      · split at hb2
        · have := hn b hb2; have := (h3 j b hb1).2; omega
        · split at hb2
          · exact h2 j k b hjk hb1 hb2
          · exact hb2
      · exact hb1
  · simp only at hb1
    split at hb1
    · exact ⟨Nat.le_trans hW (hn b hb1), O.lt ho b hb1⟩
    · split at hb1
      · exact ⟨(h3 j b hb1).1, Nat.lt_of_lt_of_le (h3 j b hb1).2 hsz⟩
      · exact hb1.elim
theorem alloc (h : Scene W l w) (c : Array Value) (t : TypeId) : Scene W (l ++ [Ob.box w.heap.size c t]) (w.alloc (.cells c t)) :=
  h.add ((Below.refl _ _).alloc (Nat.le_refl _) _) ⟨blk_new w c t, rfl⟩ (fun _ hk => Nat.le_of_eq hk.symm)
/-- .. at a block that bears a name. -/
theorem alloc' (h : Scene W l w) (c : Array Value) (t : TypeId) {b : Nat} (hb : w.heap.size = b) : Scene W (l ++ [Ob.box b c t]) (w.alloc (.cells c t)) := by subst hb; exact h.alloc c t
theorem take (h : Scene W l w) (n : Nat) : Scene W (l.take n) w := by
  obtain ⟨hbl, F, h1, h2, h3⟩ := h
  exact ⟨hbl, F, fun i O hi => h1 i O (by rw [List.getElem?_take] at hi; split at hi; exact hi; cases hi), h2, h3⟩
/-- Some of them, in another order. -/
theorem select (h : Scene W l w) (idx : List Nat) (hd : idx.Nodup) (hr0 : (idx.all fun i => decide (i < l.length)) = true) : Scene W (idx.map fun i => l.getD i Ob.none) w := by
  have hr : ∀ i ∈ idx, i < l.length := by simpa using hr0
  obtain ⟨hbl, F, h1, h2, h3⟩ := h
  refine ⟨hbl, fun j => if j < idx.length then F (idx.getD j 0) else fun _ => False, fun j O hj => ?_, fun i j b hij hb hb' => ?_, fun j b hb => ?_⟩
  · have hl : j < idx.length := by simpa using idx' hj
    have e : idx[j]? = some (idx.getD j 0) := by simp [List.getD_eq_getElem?_getD, hl]
    rw [List.getElem?_map, e] at hj
    simp only [Option.map_some, Option.some.injEq] at hj
    have hm : idx.getD j 0 ∈ idx := List.mem_of_getElem? e
    have hlt := hr _ hm
    simp only [if_pos hl]
    refine h1 _ O ?_
    rw [← hj]
    generalize idx.getD j 0 = q at *
    simp [List.getD_eq_getElem?_getD, hlt]
  · simp only at hb hb'
    split at hb
    · rename_i hi
      split at hb'
      · rename_i hj
        refine h2 _ _ b (fun e => hij ?_) hb hb'
        simp only [List.getD_eq_getElem?_getD, List.getElem?_eq_getElem hi, List.getElem?_eq_getElem hj, Option.getD_some] at e
        exact (List.getElem_inj hd).1 e
      · exact hb'
    · exact hb
  · simp only at hb
    split at hb
    · exact h3 _ b hb
    · exact hb.elim
/-- One thing is looked upon as another one that is less. -/
theorem weaken (h : Scene W l w) {i : Nat} {O O' : Ob} (hi : l[i]? = some O) (hm : ∀ F, O.holds w F → O'.holds w F) : Scene W (l.set i O') w := h.moved hi fun F hF => ⟨F, hm F hF, Moved.refl _ _⟩
theorem blk (h : Scene W l w) (i : Nat) {b : Nat} {c : Array Value} {t : TypeId} (hi : l[i]? = some (Ob.box b c t)) : Blk w b c t := by
  obtain ⟨F, h, _⟩ := h.get hi; exact h
theorem cell (h : Scene W l w) (i : Nat) {b : Nat} {c : Array Value} {t : TypeId} (hi : l[i]? = some (Ob.box b c t)) {o : Nat} {v : Value} (hv : c[o]? = some v) : w.cell? ⟨b, o, none⟩ = some v := blk_cell (h.blk i hi) hv
theorem free (h : Scene W l w) (i : Nat) {b : Nat} {c : Array Value} {t : TypeId} (hi : l[i]? = some (Ob.box b c t)) (o : Nat) : w.frozen? ⟨b, o, none⟩ = false := blk_free (h.blk i hi) o
theorem lt (h : Scene W l w) (i : Nat) {b : Nat} {c : Array Value} {t : TypeId} (hi : l[i]? = some (Ob.box b c t)) : b < w.heap.size := blk_lt (h.blk i hi)
theorem ne (h : Scene W l w) (i j : Nat) {b b' : Nat} {c c' : Array Value} {t t' : TypeId} (hi : l[i]? = some (Ob.box b c t)) (hj : l[j]? = some (Ob.box b' c' t')) (hij : i ≠ j) : b ≠ b' := by
  obtain ⟨_, F, h1, h2, _⟩ := h
  obtain ⟨_, e1⟩ := h1 i _ hi
  obtain ⟨_, e2⟩ := h1 j _ hj
  intro e
  refine h2 i j b hij ?_ ?_
  · rw [e1]
  · rw [e2]; exact e
theorem owns (h : Scene W l w) (i : Nat) {B : Nat} {e : TypeId} {size : Nat} {v : Value} {n : Nat} {xs : List Value} (hi : l[i]? = some (Ob.row B e size v n xs)) : w.ownsRow B e size v n xs := by
  obtain ⟨F, h, _⟩ := h.get hi; exact h
/-- A row's block is no box's. -/
theorem rowNe (h : Scene W l w) (i j : Nat) {B : Nat} {e : TypeId} {size : Nat} {v : Value} {n : Nat} {xs : List Value} {b : Nat} {c : Array Value} {t : TypeId} (hi : l[i]? = some (Ob.row B e size v n xs)) (hj : l[j]? = some (Ob.box b c t)) (hij : i ≠ j) : ¬ rowF v b := by
  obtain ⟨_, F, h1, h2, _⟩ := h
  obtain ⟨_, e1⟩ := h1 i _ hi
  obtain ⟨_, e2⟩ := h1 j _ hj
  intro e
  refine h2 i j b hij ?_ ?_
  · rw [e1]; exact e
  · rw [e2]
/-- A cell of a box is written. -/
theorem store (h : Scene W l w) (i : Nat) {b : Nat} {c : Array Value} {t : TypeId} (hi : l[i]? = some (Ob.box b c t)) (o : Nat) (v : Value) : Scene W (l.set i (Ob.box b (c.setIfInBounds o v) t)) (w.setCell ⟨b, o, none⟩ v) :=
  h.moved hi fun F ⟨hb, hF⟩ => ⟨F, ⟨blk_set hb o v, hF⟩, (Keeps.refl F w).setCell ⟨b, o, none⟩ (Or.inl (by rw [hF])) v, fun _ hk => Or.inl hk⟩

variable {P : Program} {f : FuncId} {args : Array Value} {O O' : Ob} {i : Nat} {v : Value}
/-- A call on one thing, which it turns into another one. -/
theorem call (h : Scene W l w) (i : Nat) (hi : l[i]? = some O) (hc : ∀ F, O.holds w F → Calls P f args w fun e w' => e = .returned v ∧ ∃ F', O'.holds w' F' ∧ Moved F F' w w') : Calls P f args w fun e w' => e = .returned v ∧ Scene W (l.set i O') w' := by
  obtain ⟨hbl, F, h1, h2, h3⟩ := h
  exact (hc (F i) (h1 i O hi)).mono fun e w' ⟨he, F', ho, m⟩ => ⟨he, swap hbl h1 h2 h3 (idx hi) ho m⟩
/-- A call that only asks one thing. -/
theorem ask (h : Scene W l w) (i : Nat) (hi : l[i]? = some O) (hc : ∀ F, O.holds w F → Calls P f args w fun e w' => e = .returned v ∧ w = w') : Calls P f args w fun e w' => e = .returned v ∧ w = w' := by
  obtain ⟨F, ho⟩ := h.get hi; exact hc F ho
/-- .. and makes memory. -/
theorem askB (h : Scene W l w) (i : Nat) (hi : l[i]? = some O) (hc : ∀ F, O.holds w F → Calls P f args w fun e w' => e = .returned v ∧ Below w.heap.size w w') : Calls P f args w fun e w' => e = .returned v ∧ Scene W l w' := by
  obtain ⟨F, ho⟩ := h.get hi; exact (hc F ho).mono fun e w' ⟨he, hb⟩ => ⟨he, h.later hb⟩
end Scene
end Go.Proofs.Ytcjjglaimfhofaa

namespace Go.Proofs.Ytcjjglaimfhofaa
open Go.RowKit Go.Sort

/-- The value x is a slice of m elements that reads as news. -/
def RowReads (w : World) (size : Nat) (x : Value) (m : Nat) (news : List Value) : Prop :=
  news.length = m * size ∧ ((x = .slice none 0 0 ∧ m = 0) ∨ ∃ a c, x = .slice (some a) m c ∧ ∀ j u, news[j]? = some u → w.cell? (a.add j) = some u)
theorem add_at (g o j : Nat) : (⟨g, o, none⟩ : Addr).add j = ⟨g, o + j, none⟩ := by
  unfold Addr.add
  by_cases h0 : j = 0
  · simp [h0]
  · simp [h0]
theorem RowReads.keeps {F : Nat → Prop} {w w' : World} {size : Nat} {x : Value} {m : Nat} {news : List Value} (h : RowReads w size x m news) (k : Keeps F w w') (hn : ∀ a m' c, x = .slice (some a) m' c → ¬ F a.block) : RowReads w' size x m news := by
  refine ⟨h.1, ?_⟩
  rcases h.2 with h2 | ⟨a, c, hx, hr⟩
  · exact Or.inl h2
  · refine Or.inr ⟨a, c, hx, fun j u hj => ?_⟩
    have hb : (a.add j).block = a.block := by unfold Addr.add; split <;> rfl
    exact k.cell (hr j u hj) (by rw [hb]; exact hn a m c hx)
theorem RowReads.later {w w' : World} {size : Nat} {x : Value} {m : Nat} {news : List Value} (h : RowReads w size x m news) (hb : Below w.heap.size w w') : RowReads w' size x m news := h.keeps (Keeps.of_below_all hb (fun _ => False)) (fun _ _ _ _ x => x)
/-- A row that was just written out. -/
theorem reads_new (w : World) (c : Array Value) (t : TypeId) (size m : Nat) (H : Nat) (hH : w.heap.size = H) (hs : c.size = m * size) : RowReads (w.alloc (.cells c t)) size (.slice (some ⟨H, 0, none⟩) m m) m c.toList :=
  ⟨by simpa using hs, Or.inr ⟨_, m, rfl, new_cells' w c t c.toList H hH rfl⟩⟩
/-- An owned row reads as what it owns. -/
theorem reads_own {w : World} {base : Nat} {e : TypeId} {size : Nat} {v : Value} {n : Nat} {xs : List Value} (h : w.ownsRow base e size v n xs) : RowReads w size v n xs := by
  have hc := @World.ownsRow.cells _ _ _ _ _ _ _ h
  refine ⟨h.1, ?_⟩
  rcases h.2 with ⟨h0, h1⟩ | ⟨g, cap, cur, hv, _⟩
  · exact Or.inl ⟨h0, h1⟩
  · exact Or.inr ⟨_, cap, hv, hc (g := g) (by rw [hv]; rfl)⟩
/-- A piece of an owned row. -/
theorem reads_sub {w : World} {base : Nat} {e : TypeId} {size g cap n : Nat} {xs : List Value} (h : w.ownsRow base e size (.slice (some ⟨g, 0, none⟩) n cap) n xs) (i m c : Nat) (him : i + m ≤ n) :
    RowReads w size (.slice (some ⟨g, i * size, none⟩) m c) m ((xs.drop (i * size)).take (m * size)) := by
  have hmul : i * size + m * size ≤ n * size := by rw [← Nat.add_mul]; exact Nat.mul_le_mul_right _ him
  refine ⟨by simp [h.1]; omega, Or.inr ⟨_, c, rfl, fun j u hj => ?_⟩⟩
  rw [List.getElem?_take] at hj
  split at hj
  · rw [List.getElem?_drop] at hj
    rw [add_at, h.cellAt _ (by omega)]
    exact hj
  · cases hj
/-- Nothing of whatever row. -/
theorem reads_empty (w : World) (size : Nat) (a : Addr) (c : Nat) : RowReads w size (.slice (some a) 0 c) 0 [] := ⟨by simp, Or.inr ⟨a, c, rfl, fun j u hj => by simp at hj⟩⟩
/-- A row of none that was just written out is the call's own. -/
theorem owns_empty (w : World) (e : TypeId) (size base : Nat) (hb : base ≤ w.heap.size) : (w.alloc (.cells #[] e)).ownsRow base e size (.slice (some ⟨w.heap.size, 0, none⟩) 0 0) 0 [] := World.ownsRow_made w #[] 0 hb (by decide) (by simp)

section
variable {P : Program} (w : World)
theorem run_append_any (base : Nat) (t ty e : TypeId) (i : TypeInfo) (z : Value) (size bytes : Nat) (ht : P.underlying t = some (.slice e)) (hi : P.info? e = some i) (hz : i.zero = some z)
    (hsize : i.size = size) (hby : i.bytes = bytes) (hzs : z.cells.size = size) (hsz : 0 < size)
    (v : Value) (n : Nat) (xs : List Value) (hown : w.ownsRow base e size v n xs)
    (x : Value) (m : Nat) (news : List Value) (hr : RowReads w size x m news) (h1 : ∀ u ∈ news, u.oneCell' = true)
    (h63 : n + m ≤ maxLen) (hbytes : (n + m) * bytes ≤ 140737488355328) (hbase : base ≤ w.heap.size) :
    ∃ v' w', (Builtin.append_ #[t, t] ty #[v, x]).run P w = .ok v' w' ∧ w'.ownsRow base e size v' (n + m) (xs ++ news) ∧ w.grownBy w' v.ownBlock ∧ (∀ k, rowF v' k → rowF v k ∨ k = w.heap.size) := by
  obtain ⟨hl, ⟨rfl, rfl⟩ | ⟨a, c, rfl, hnews⟩⟩ := hr
  · have : news = [] := List.eq_nil_of_length_eq_zero (by simpa using hl)
    subst this
    refine ⟨v, w, run_append_owned_none w base t ty e i size ht hi v n xs hown, by simpa using hown, ⟨rfl, rfl, rfl, Nat.le_refl _, fun _ _ _ => rfl⟩, fun k hk => Or.inl hk⟩
  · obtain ⟨v', w', h2, h3, h4, _, h5⟩ := run_append_own_at (P := P) w base t ty e i z size bytes ht hi hz hsize hby hzs hsz v n xs hown a m c news hl hnews h1 h63 hbytes hbase
    refine ⟨v', w', h2, h3, h4, fun k hk => ?_⟩
    unfold rowF at *
    rcases h5 with h5 | h5
    · exact Or.inl (by rw [← h5]; exact hk)
    · rw [h5] at hk
      exact Or.inr (by injection hk with hk; exact hk.symm)

theorem wp_append_any {o : Oper} {a : Act} {K : Act → World → Prop} {Q : Exit → Act → World → Prop} (s x : Operand) (t : TypeId)
    (ho : o.op = .call { callee := .builtin .append, args := #[s, x], argTypes := #[t, t] })
    (base : Nat) (e : TypeId) (i : TypeInfo) (z : Value) (size bytes : Nat) (ht : P.underlying t = some (.slice e)) (hi : P.info? e = some i) (hz : i.zero = some z)
    (hsize : i.size = size) (hby : i.bytes = bytes) (hzs : z.cells.size = size) (hsz : 0 < size)
    (v : Value) (n : Nat) (xs : List Value) (hs : a.eval s = v) (hown : w.ownsRow base e size v n xs)
    (y : Value) (m : Nat) (news : List Value) (hx : a.eval x = y) (hr : RowReads w size y m news) (h1 : ∀ u ∈ news, u.oneCell' = true)
    (h63 : n + m ≤ maxLen) (hbytes : (n + m) * bytes ≤ 140737488355328) (hbase : base ≤ w.heap.size)
    (h : ∀ v' w', w'.ownsRow base e size v' (n + m) (xs ++ news) → w.grownBy w' v.ownBlock → (∀ k, rowF v' k → rowF v k ∨ k = w.heap.size) → K (a.put o.dst v') w') : o.wp P a w K Q := by
  obtain ⟨v', w', hr, h2, h3, h4⟩ := run_append_any (P := P) w base t o.type e i z size bytes ht hi hz hsize hby hzs hsz v n xs hown y m news hr h1 h63 hbytes hbase
  unfold Oper.wp execOp
  simp only [ho, resolve, invoke, builtin, Sem.run_bind, Sem.run_pure, Result.andThen_ok, List.map_toArray, List.map_cons, List.map_nil, hs, hx, hr]
  exact h v' w' h2 h3 h4

/-- At a plain region's operation. -/
theorem wpList_append_any {ops : Array Oper} {rest : List Oper} {o : Oper} {a : Act} {Q : Exit → Act → World → Prop} (hgd : o.guard = none) (s x : Operand) (t : TypeId)
    (ho : o.op = .call { callee := .builtin .append, args := #[s, x], argTypes := #[t, t] })
    (base : Nat) (e : TypeId) (i : TypeInfo) (z : Value) (size bytes : Nat) (ht : P.underlying t = some (.slice e)) (hi : P.info? e = some i) (hz : i.zero = some z)
    (hsize : i.size = size) (hby : i.bytes = bytes) (hzs : z.cells.size = size) (hsz : 0 < size)
    (v : Value) (n : Nat) (xs : List Value) (hs : a.eval s = v) (hown : w.ownsRow base e size v n xs)
    (y : Value) (m : Nat) (news : List Value) (hx : a.eval x = y) (hr : RowReads w size y m news) (h1 : ∀ u ∈ news, u.oneCell' = true)
    (h63 : n + m ≤ maxLen) (hbytes : (n + m) * bytes ≤ 140737488355328) (hbase : base ≤ w.heap.size)
    (h : ∀ v' w', w'.ownsRow base e size v' (n + m) (xs ++ news) → w.grownBy w' v.ownBlock → (∀ k, rowF v' k → rowF v k ∨ k = w.heap.size) → wpList P ops Q rest (a.put o.dst v') w') : wpList P ops Q (o :: rest) a w :=
  wpList_plain hgd fun _ hK => wp_append_any w s x t ho base e i z size bytes ht hi hz hsize hby hzs hsz v n xs hs hown y m news hx hr h1 h63 hbytes hbase fun v' w' h2 h3 h4 => hK _ _ (h v' w' h2 h3 h4)

/-- At a step of a region that draws its order. -/
theorem step_append_any {ops : Array Oper} {o : Oper} {a : Act} {K : Act → World → Prop} {Q : Exit → Act → World → Prop} {E : Prop} (hgd : o.guard = none) (s x : Operand) (t : TypeId)
    (ho : o.op = .call { callee := .builtin .append, args := #[s, x], argTypes := #[t, t] })
    (base : Nat) (e : TypeId) (i : TypeInfo) (z : Value) (size bytes : Nat) (ht : P.underlying t = some (.slice e)) (hi : P.info? e = some i) (hz : i.zero = some z)
    (hsize : i.size = size) (hby : i.bytes = bytes) (hzs : z.cells.size = size) (hsz : 0 < size)
    (v : Value) (n : Nat) (xs : List Value) (hs : a.eval s = v) (hown : w.ownsRow base e size v n xs)
    (y : Value) (m : Nat) (news : List Value) (hx : a.eval x = y) (hr : RowReads w size y m news) (h1 : ∀ u ∈ news, u.oneCell' = true)
    (h63 : n + m ≤ maxLen) (hbytes : (n + m) * bytes ≤ 140737488355328) (hbase : base ≤ w.heap.size)
    (h : ∀ v' w', w'.ownsRow base e size v' (n + m) (xs ++ news) → w.grownBy w' v.ownBlock → (∀ k, rowF v' k → rowF v k ∨ k = w.heap.size) → K (a.put o.dst v') w') :
    if Region.wanted o (yielded ops a.tmps) = true then Oper.wp P o a w K Q else E := by
  have hw : Region.wanted o (yielded ops a.tmps) = true := by simp [Region.wanted, hgd]
  rw [if_pos hw]
  exact wp_append_any w s x t ho base e i z size bytes ht hi hz hsize hby hzs hsz v n xs hs hown y m news hx hr h1 h63 hbytes hbase h
end
/-- Behind 'append(append(T{}, ..), ..)', the first append. -/
theorem fresh_first {w w' : World} {e : TypeId} {v : Value} (hg : ((w.alloc (.cells #[] e)).drew).grownBy w' (Value.slice (some ⟨w.heap.size, 0, none⟩) 0 0).ownBlock) (hl : ∀ k, rowF v k → rowF (.slice (some ⟨w.heap.size, 0, none⟩) 0 0) k ∨ k = ((w.alloc (.cells #[] e)).drew).heap.size) :
    Below w.heap.size w w' ∧ ∀ k, rowF v k → w.heap.size ≤ k := by
  have hb : Below w.heap.size w ((w.alloc (.cells #[] e)).drew) := ((Below.refl _ w).alloc (Nat.le_refl _) _).drew
  refine ⟨hb.trans ((grown_keeps hg).below hb.size (fun b hb => ?_)), fun k hk => ?_⟩
  · have : w.heap.size = b := by simpa [rowF, Value.ownBlock] using hb
    omega
  · rcases hl k hk with h1 | h1
    · have : w.heap.size = k := by simpa [rowF, Value.ownBlock] using h1
      omega
    · rw [h1]; exact hb.size
theorem fresh_first' {w w' : World} {e : TypeId} {v : Value} (hg : (w.alloc (.cells #[] e)).grownBy w' (Value.slice (some ⟨w.heap.size, 0, none⟩) 0 0).ownBlock) (hl : ∀ k, rowF v k → rowF (.slice (some ⟨w.heap.size, 0, none⟩) 0 0) k ∨ k = w.heap.size + 1) :
    Below w.heap.size w w' ∧ ∀ k, rowF v k → w.heap.size ≤ k := by
  have hb : Below w.heap.size w (w.alloc (.cells #[] e)) := ((Below.refl _ w).alloc (Nat.le_refl _) _)
  refine ⟨hb.trans ((grown_keeps hg).below hb.size (fun b hb => ?_)), fun k hk => ?_⟩
  · have : w.heap.size = b := by simpa [rowF, Value.ownBlock] using hb
    omega
  · rcases hl k hk with h1 | h1
    · have : w.heap.size = k := by simpa [rowF, Value.ownBlock] using h1
      omega
    · omega
/-- .. and the second. -/
theorem fresh_next {B : Nat} {w w1 w' : World} {v v' : Value} (hb : Below B w w1) (hB : B ≤ w.heap.size) (hv : ∀ k, rowF v k → B ≤ k) (hg : w1.grownBy w' v.ownBlock) (hl : ∀ k, rowF v' k → rowF v k ∨ k = w1.heap.size) : Below B w w' ∧ ∀ k, rowF v' k → B ≤ k :=
  ⟨hb.trans ((grown_keeps hg).below (Nat.le_trans hB hb.size) hv), fun k hk => by
    rcases hl k hk with h1 | h1
    · exact hv k h1
    · rw [h1]; exact Nat.le_trans hB hb.size⟩
theorem reads_same {w w' : World} (hh : w'.heap = w.heap) {size : Nat} {x : Value} {m : Nat} {news : List Value} (h : RowReads w size x m news) : RowReads w' size x m news :=
  ⟨h.1, h.2.imp id fun ⟨a, c, hx, hr⟩ => ⟨a, c, hx, fun j u hj => by rw [World.cell?_of_block (w := w) (by rw [hh])]; exact hr j u hj⟩⟩
/-- .. where another row was appended to. -/
theorem reads_grown {w w' : World} {X n c : Nat} (hg : w.grownBy w' (Value.slice (some ⟨X, 0, none⟩) n c).ownBlock) {size m Y c2 : Nat} {news : List Value} (h : RowReads w size (.slice (some ⟨Y, 0, none⟩) m c2) m news) (hne : X ≠ Y) : RowReads w' size (.slice (some ⟨Y, 0, none⟩) m c2) m news :=
  h.keeps (grown_keeps hg) (fun a m' c' e => by cases e; intro hf; exact hne (by simpa [rowF, Value.ownBlock] using hf))
theorem owns_empty' (w : World) (e : TypeId) (size base H : Nat) (hH : w.heap.size = H) (hb : base ≤ w.heap.size) : (w.alloc (.cells #[] e)).ownsRow base e size (.slice (some ⟨H, 0, none⟩) 0 0) 0 [] := by
  subst hH; exact owns_empty w e size base hb
end Go.Proofs.Ytcjjglaimfhofaa
