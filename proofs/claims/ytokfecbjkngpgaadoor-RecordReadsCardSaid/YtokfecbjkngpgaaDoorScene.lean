/- Things in memory that share no block, told together, of no program: a box, a row, an object; what a call on one of them leaves of the others. -/
import Derived.Test.YtokfecbjkngpgaaDoorBox
namespace Go.Proofs.YtokfecbjkngpgaaDoor
open Go.RowKit Go.Sort

/-- A thing in memory: what holds of it, and which blocks are its own. It holds on while no block of its own is turned. -/
structure Ob where
  holds : World → (Nat → Prop) → Prop
  keeps : ∀ {w w' : World} {F G : Nat → Prop}, holds w F → Keeps G w w' → (∀ b, F b → ¬ G b) → holds w' F
  lt : ∀ {w : World} {F : Nat → Prop}, holds w F → ∀ k, F k → k < w.heap.size
/-- A block that is known whole. -/
def Ob.box (b : Nat) (c : Array Value) (t : TypeId) : Ob where
  holds w F := Blk w b c t ∧ F = (· = b)
  keeps := by rintro w w' F G ⟨h, rfl⟩ k hn; exact ⟨k.blk h (hn b rfl), rfl⟩
  lt := by rintro w F ⟨h, rfl⟩ k rfl; exact blk_lt h
/-- A row of one's own. -/
def Ob.row (B : Nat) (e : TypeId) (size : Nat) (v : Value) (n : Nat) (xs : List Value) : Ob where
  holds w F := w.ownsRow B e size v n xs ∧ F = rowF v
  keeps := by rintro w w' F G ⟨h, rfl⟩ k hn; exact ⟨owns_keeps h k hn, rfl⟩
  lt := by rintro w F ⟨h, rfl⟩ k hk; exact (h.lt k hk).2
/-- Something that hangs on no memory. -/
def Ob.none : Ob where
  holds _ F := F = fun _ => False
  keeps := fun h _ _ => h
  lt := by rintro w F rfl k h; exact h.elim

/-- All of l are there, apart from each other, in blocks that are new since W; what was there at W is as it was. -/
structure Scene (W : World) (l : List Ob) (w : World) : Prop where
  below : Below W.heap.size W w
  all : ∃ F : Nat → Nat → Prop, (∀ (i : Nat) (O : Ob), l[i]? = some O → O.holds w (F i)) ∧ (∀ (i j b : Nat), i ≠ j → F i b → ¬ F j b) ∧ ∀ (i b : Nat), F i b → W.heap.size ≤ b ∧ b < w.heap.size

namespace Scene
variable {W w w' : World} {l : List Ob}
theorem start (W : World) : Scene W [] W := ⟨Below.refl _ _, fun _ _ => False, fun i O h => by simp at h, fun _ _ _ _ h => h.elim, fun _ _ h => h.elim⟩
theorem later (h : Scene W l w) (hb : Below w.heap.size w w') : Scene W l w' := by
  obtain ⟨hbl, F, h1, h2, h3⟩ := h
  exact ⟨below_chain hbl hb, F, fun i O hi => O.keeps (h1 i O hi) (Keeps.of_below_all hb (fun _ => False)) (fun _ _ x => x), h2, fun i b hb' => ⟨(h3 i b hb').1, Nat.lt_of_lt_of_le (h3 i b hb').2 hb.size⟩⟩
theorem drew (h : Scene W l w) : Scene W l w.drew := h.later (Below.refl _ _).drew
theorem drewN (h : Scene W l w) (n : Nat) : Scene W l (w.drewN n) := h.later (below_drewN (Below.refl _ _) n)
theorem get (h : Scene W l w) {i : Nat} {O : Ob} (hi : l[i]? = some O) : ∃ F, O.holds w F := by
  obtain ⟨_, F, h1, _⟩ := h; exact ⟨F i, h1 i O hi⟩
theorem size (h : Scene W l w) : W.heap.size ≤ w.heap.size := h.below.size
/-- One thing turned into another one: the others are as they were. -/
theorem swap {F : Nat → Nat → Prop} {F' : Nat → Prop} {i : Nat} {O' : Ob} (hbl : Below W.heap.size W w) (h1 : ∀ (i : Nat) (O : Ob), l[i]? = some O → O.holds w (F i)) (h2 : ∀ (i j b : Nat), i ≠ j → F i b → ¬ F j b) (h3 : ∀ (i b : Nat), F i b → W.heap.size ≤ b ∧ b < w.heap.size)
    (hi : i < l.length) (ho : O'.holds w' F') (m : Moved (F i) F' w w') : Scene W (l.set i O') w' := by
  have hsz := m.keeps.size
  have hW := hbl.size
  refine ⟨hbl.trans (m.below_old (h3 i) hW), fun j => if j = i then F' else F j, fun j P hj => ?_, fun j k b hjk hb hb' => ?_, fun j b hb => ?_⟩
  · by_cases e : j = i
    · subst e
      rw [List.getElem?_set_self hi] at hj
      cases hj
      simpa using ho
    · rw [List.getElem?_set_ne (fun x => e x.symm)] at hj
      simp only [if_neg e]
      exact P.keeps (h1 j P hj) m.keeps (fun b hb => h2 j i b e hb)
  · simp only at hb hb'
    split at hb
    · rename_i e
      subst e
      rw [if_neg (fun x => hjk x.symm)] at hb'
      exact m.apart (fun k hk => (h3 _ k hk).2) (fun b hb hb2 => h2 _ _ b hjk hb hb2) b hb hb'
    · rename_i e
      split at hb'
      · rename_i e2
        subst e2
        exact m.apart (fun k hk => (h3 _ k hk).2) (fun b hb hb2 => h2 _ _ b (fun x => hjk x.symm) hb hb2) b hb' hb
      · exact h2 j k b hjk hb hb'
  · simp only at hb
    split at hb
    · refine ⟨?_, O'.lt ho b hb⟩
      rcases m.grow b hb with hg | hg
      · exact (h3 i b hg).1
      · omega
    · exact ⟨(h3 j b hb).1, Nat.lt_of_lt_of_le (h3 j b hb).2 hsz⟩
theorem idx {i : Nat} {O : Ob} (hi : l[i]? = some O) : i < l.length := by
  by_cases hl : i < l.length
  · exact hl
  · rw [List.getElem?_eq_none (by omega)] at hi; cases hi
theorem idx' {α : Type} {l : List α} {i : Nat} {O : α} (hi : l[i]? = some O) : i < l.length := by
  by_cases hl : i < l.length
  · exact hl
  · rw [List.getElem?_eq_none (by omega)] at hi; cases hi
theorem moved (h : Scene W l w) {i : Nat} {O O' : Ob} (hi : l[i]? = some O) (hm : ∀ F, O.holds w F → ∃ F', O'.holds w' F' ∧ Moved F F' w w') : Scene W (l.set i O') w' := by
  obtain ⟨hbl, F, h1, h2, h3⟩ := h
  obtain ⟨F', ho, m⟩ := hm (F i) (h1 i O hi)
  exact swap hbl h1 h2 h3 (idx hi) ho m
/-- Something new. -/
theorem add (h : Scene W l w) {O : Ob} {F' : Nat → Prop} (hb : Below w.heap.size w w') (ho : O.holds w' F') (hn : ∀ k, F' k → w.heap.size ≤ k) : Scene W (l ++ [O]) w' := by
  obtain ⟨hbl, F, h1, h2, h3⟩ := h
  have hW := hbl.size
  have hsz := hb.size
  refine ⟨below_chain hbl hb, fun j => if j = l.length then F' else if j < l.length then F j else fun _ => False, fun j P hj => ?_, fun j k b hjk hb1 hb2 => ?_, fun j b hb1 => ?_⟩
  · by_cases e : j = l.length
    · subst e
      simp at hj
      subst hj
      simpa using ho
    · by_cases e2 : j < l.length
      · rw [List.getElem?_append_left e2] at hj
        simp only [if_neg e, if_pos e2]
        exact P.keeps (h1 j P hj) (Keeps.of_below_all hb (fun _ => False)) (fun _ _ x => x)
      · rw [List.getElem?_eq_none (by simp; omega)] at hj; cases hj
  · simp only at hb1 hb2
    split at hb1
    · rename_i e
      rw [if_neg (by omega)] at hb2
      split at hb2
      · have := hn b hb1; have := (h3 k b hb2).2; omega
      · exact hb2
    · split at hb1
      · split at hb2
        · have := hn b hb2; have := (h3 j b hb1).2; omega
        · split at hb2
          · exact h2 j k b hjk hb1 hb2
          · exact hb2
      · exact hb1
  · simp only at hb1
    split at hb1
    · exact ⟨Nat.le_trans hW (hn b hb1), O.lt ho b hb1⟩
    · split at hb1
      · exact ⟨(h3 j b hb1).1, Nat.lt_of_lt_of_le (h3 j b hb1).2 hsz⟩
      · exact hb1.elim
theorem alloc (h : Scene W l w) (c : Array Value) (t : TypeId) : Scene W (l ++ [Ob.box w.heap.size c t]) (w.alloc (.cells c t)) :=
  h.add ((Below.refl _ _).alloc (Nat.le_refl _) _) ⟨blk_new w c t, rfl⟩ (fun _ hk => Nat.le_of_eq hk.symm)
/-- .. at a block that bears a name. -/
theorem alloc' (h : Scene W l w) (c : Array Value) (t : TypeId) {b : Nat} (hb : w.heap.size = b) : Scene W (l ++ [Ob.box b c t]) (w.alloc (.cells c t)) := by subst hb; exact h.alloc c t
theorem take (h : Scene W l w) (n : Nat) : Scene W (l.take n) w := by
  obtain ⟨hbl, F, h1, h2, h3⟩ := h
  exact ⟨hbl, F, fun i O hi => h1 i O (by rw [List.getElem?_take] at hi; split at hi; exact hi; cases hi), h2, h3⟩
/-- Some of them, in another order. -/
theorem select (h : Scene W l w) (idx : List Nat) (hd : idx.Nodup) (hr0 : (idx.all fun i => decide (i < l.length)) = true) : Scene W (idx.map fun i => l.getD i Ob.none) w := by
  have hr : ∀ i ∈ idx, i < l.length := by simpa using hr0
  obtain ⟨hbl, F, h1, h2, h3⟩ := h
  refine ⟨hbl, fun j => if j < idx.length then F (idx.getD j 0) else fun _ => False, fun j O hj => ?_, fun i j b hij hb hb' => ?_, fun j b hb => ?_⟩
  · have hl : j < idx.length := by simpa using idx' hj
    have e : idx[j]? = some (idx.getD j 0) := by simp [List.getD_eq_getElem?_getD, hl]
    rw [List.getElem?_map, e] at hj
    simp only [Option.map_some, Option.some.injEq] at hj
    have hm : idx.getD j 0 ∈ idx := List.mem_of_getElem? e
    have hlt := hr _ hm
    simp only [if_pos hl]
    refine h1 _ O ?_
    rw [← hj]
    generalize idx.getD j 0 = q at *
    simp [List.getD_eq_getElem?_getD, hlt]
  · simp only at hb hb'
    split at hb
    · rename_i hi
      split at hb'
      · rename_i hj
        refine h2 _ _ b (fun e => hij ?_) hb hb'
        simp only [List.getD_eq_getElem?_getD, List.getElem?_eq_getElem hi, List.getElem?_eq_getElem hj, Option.getD_some] at e
        exact (List.getElem_inj hd).1 e
      · exact hb'
    · exact hb
  · simp only at hb
    split at hb
    · exact h3 _ b hb
    · exact hb.elim
/-- One thing is looked upon as another one that is less. -/
theorem weaken (h : Scene W l w) {i : Nat} {O O' : Ob} (hi : l[i]? = some O) (hm : ∀ F, O.holds w F → O'.holds w F) : Scene W (l.set i O') w := h.moved hi fun F hF => ⟨F, hm F hF, Moved.refl _ _⟩
theorem blk (h : Scene W l w) (i : Nat) {b : Nat} {c : Array Value} {t : TypeId} (hi : l[i]? = some (Ob.box b c t)) : Blk w b c t := by
  obtain ⟨F, h, _⟩ := h.get hi; exact h
theorem cell (h : Scene W l w) (i : Nat) {b : Nat} {c : Array Value} {t : TypeId} (hi : l[i]? = some (Ob.box b c t)) {o : Nat} {v : Value} (hv : c[o]? = some v) : w.cell? ⟨b, o, none⟩ = some v := blk_cell (h.blk i hi) hv
theorem free (h : Scene W l w) (i : Nat) {b : Nat} {c : Array Value} {t : TypeId} (hi : l[i]? = some (Ob.box b c t)) (o : Nat) : w.frozen? ⟨b, o, none⟩ = false := blk_free (h.blk i hi) o
theorem lt (h : Scene W l w) (i : Nat) {b : Nat} {c : Array Value} {t : TypeId} (hi : l[i]? = some (Ob.box b c t)) : b < w.heap.size := blk_lt (h.blk i hi)
theorem ne (h : Scene W l w) (i j : Nat) {b b' : Nat} {c c' : Array Value} {t t' : TypeId} (hi : l[i]? = some (Ob.box b c t)) (hj : l[j]? = some (Ob.box b' c' t')) (hij : i ≠ j) : b ≠ b' := by
  obtain ⟨_, F, h1, h2, _⟩ := h
  obtain ⟨_, e1⟩ := h1 i _ hi
  obtain ⟨_, e2⟩ := h1 j _ hj
  intro e
  refine h2 i j b hij ?_ ?_
  · rw [e1]
  · rw [e2]; exact e
theorem owns (h : Scene W l w) (i : Nat) {B : Nat} {e : TypeId} {size : Nat} {v : Value} {n : Nat} {xs : List Value} (hi : l[i]? = some (Ob.row B e size v n xs)) : w.ownsRow B e size v n xs := by
  obtain ⟨F, h, _⟩ := h.get hi; exact h
/-- A row's block is no box's. -/
theorem rowNe (h : Scene W l w) (i j : Nat) {B : Nat} {e : TypeId} {size : Nat} {v : Value} {n : Nat} {xs : List Value} {b : Nat} {c : Array Value} {t : TypeId} (hi : l[i]? = some (Ob.row B e size v n xs)) (hj : l[j]? = some (Ob.box b c t)) (hij : i ≠ j) : ¬ rowF v b := by
  obtain ⟨_, F, h1, h2, _⟩ := h
  obtain ⟨_, e1⟩ := h1 i _ hi
  obtain ⟨_, e2⟩ := h1 j _ hj
  intro e
  refine h2 i j b hij ?_ ?_
  · rw [e1]; exact e
  · rw [e2]
/-- A cell of a box is written. -/
theorem store (h : Scene W l w) (i : Nat) {b : Nat} {c : Array Value} {t : TypeId} (hi : l[i]? = some (Ob.box b c t)) (o : Nat) (v : Value) : Scene W (l.set i (Ob.box b (c.setIfInBounds o v) t)) (w.setCell ⟨b, o, none⟩ v) :=
  h.moved hi fun F ⟨hb, hF⟩ => ⟨F, ⟨blk_set hb o v, hF⟩, (Keeps.refl F w).setCell ⟨b, o, none⟩ (Or.inl (by rw [hF])) v, fun _ hk => Or.inl hk⟩

variable {P : Program} {f : FuncId} {args : Array Value} {O O' : Ob} {i : Nat} {v : Value}
/-- A call on one thing, which it turns into another one. -/
theorem call (h : Scene W l w) (i : Nat) (hi : l[i]? = some O) (hc : ∀ F, O.holds w F → Calls P f args w fun e w' => e = .returned v ∧ ∃ F', O'.holds w' F' ∧ Moved F F' w w') : Calls P f args w fun e w' => e = .returned v ∧ Scene W (l.set i O') w' := by
  obtain ⟨hbl, F, h1, h2, h3⟩ := h
  exact (hc (F i) (h1 i O hi)).mono fun e w' ⟨he, F', ho, m⟩ => ⟨he, swap hbl h1 h2 h3 (idx hi) ho m⟩
/-- A call that only asks one thing. -/
theorem ask (h : Scene W l w) (i : Nat) (hi : l[i]? = some O) (hc : ∀ F, O.holds w F → Calls P f args w fun e w' => e = .returned v ∧ w = w') : Calls P f args w fun e w' => e = .returned v ∧ w = w' := by
  obtain ⟨F, ho⟩ := h.get hi; exact hc F ho
/-- .. and makes memory. -/
theorem askB (h : Scene W l w) (i : Nat) (hi : l[i]? = some O) (hc : ∀ F, O.holds w F → Calls P f args w fun e w' => e = .returned v ∧ Below w.heap.size w w') : Calls P f args w fun e w' => e = .returned v ∧ Scene W l w' := by
  obtain ⟨F, ho⟩ := h.get hi; exact (hc F ho).mono fun e w' ⟨he, hb⟩ => ⟨he, h.later hb⟩
end Scene
end Go.Proofs.YtokfecbjkngpgaaDoor
