/- Things in memory that share no block, told together, of no program: a scene within an object (blocks of F0, or new ones, may have turned); things grouped to one thing; maps of integers as things. -/
import Derived.Test.YtokfecbjkngpgaaDoorScene
import Derived.Test.YtokfecbjkngpgaaDoorAppend
import Derived.Test.YtokfecbjkngpgaaDoorRow
import Derived.Maps.OwnSet
import Derived.Maps.OwnOps
import Derived.Deep.OwnRows
namespace Go.Proofs.YtokfecbjkngpgaaDoor
open Go.RowKit Go.Sort

/-- All of l are there, apart from each other, in blocks of F0 or new since W; what else was there at W is as it was. -/
structure Stage (F0 : Nat → Prop) (W : World) (l : List Ob) (w : World) : Prop where
  keeps : Keeps F0 W w
  all : ∃ F : Nat → Nat → Prop, (∀ (i : Nat) (O : Ob), l[i]? = some O → O.holds w (F i)) ∧ (∀ (i j b : Nat), i ≠ j → F i b → ¬ F j b) ∧ ∀ (i b : Nat), F i b → (F0 b ∨ W.heap.size ≤ b) ∧ b < w.heap.size

/-- Things together, as one thing. -/
def Ob.group (l : List Ob) : Ob where
  holds w F := (∀ b, F b → b < w.heap.size) ∧ ∃ G : Nat → Nat → Prop, (∀ (i : Nat) (O : Ob), l[i]? = some O → O.holds w (G i)) ∧ (∀ (i j b : Nat), i ≠ j → G i b → ¬ G j b) ∧ ∀ (i b : Nat), G i b → F b
  keeps := by
    rintro w w' F G ⟨h0, H, h1, h2, h3⟩ k hn
    exact ⟨fun b hb => Nat.lt_of_lt_of_le (h0 b hb) k.size, H, fun i O hi => O.keeps (h1 i O hi) k (fun b hb => hn b (h3 i b hb)), h2, h3⟩
  lt := fun h => h.1
theorem Ob.group.open {l : List Ob} {w : World} {F : Nat → Prop} (h : (Ob.group l).holds w F) : Stage F w l w := by
  obtain ⟨h0, G, h1, h2, h3⟩ := h
  exact ⟨Keeps.refl _ _, G, h1, h2, fun i b hb => ⟨Or.inl (h3 i b hb), h0 b (h3 i b hb)⟩⟩
/-- Something that is one of some things. -/
def Ob.ex {α : Type} (O : α → Ob) : Ob where
  holds w F := ∃ a, (O a).holds w F
  keeps := fun ⟨a, h⟩ k hn => ⟨a, (O a).keeps h k hn⟩
  lt := fun ⟨a, h⟩ => (O a).lt h

namespace Stage
variable {F0 : Nat → Prop} {W w w' : World} {l : List Ob}
theorem start (W : World) : Stage (fun _ => False) W [] W := ⟨Keeps.refl _ _, fun _ _ => False, fun i O h => by simp at h, fun _ _ _ _ h => h.elim, fun _ _ h => h.elim⟩
theorem begin (F0 : Nat → Prop) (W : World) : Stage F0 W [] W := ⟨Keeps.refl _ _, fun _ _ => False, fun i O h => by simp at h, fun _ _ _ _ h => h.elim, fun _ _ h => h.elim⟩
theorem below (h : Stage (fun _ => False) W l w) : Below W.heap.size W w := h.keeps.below (Nat.le_refl _) (fun _ h => h.elim)
theorem size (h : Stage F0 W l w) : W.heap.size ≤ w.heap.size := h.keeps.size
/-- What was turned: behind the whole, an object of the blocks F0. -/
theorem close (h : Stage F0 W l w) (_h0 : ∀ b, F0 b → b < W.heap.size) : ∃ F', (Ob.group l).holds w F' ∧ Moved F0 F' W w := by
  obtain ⟨hk, F, h1, h2, h3⟩ := h
  exact ⟨fun b => (F0 b ∨ W.heap.size ≤ b) ∧ b < w.heap.size, ⟨fun b hb => hb.2, F, h1, h2, h3⟩, hk, fun k hk' => hk'.1⟩
/-- .. something new. -/
theorem closeNew (h : Stage (fun _ => False) W l w) : ∃ F', (Ob.group l).holds w F' ∧ (∀ k, F' k → W.heap.size ≤ k) ∧ Below W.heap.size W w := by
  obtain ⟨F', h1, m⟩ := h.close (fun _ h => h.elim)
  exact ⟨F', h1, fun k hk => (m.grow k hk).elim False.elim id, h.below⟩
theorem later (h : Stage F0 W l w) (hb : Below w.heap.size w w') : Stage F0 W l w' := by
  obtain ⟨hk, F, h1, h2, h3⟩ := h
  exact ⟨hk.then (Keeps.of_below_all hb F0), F, fun i O hi => O.keeps (h1 i O hi) (Keeps.of_below_all hb (fun _ => False)) (fun _ _ x => x), h2, fun i b hb' => ⟨(h3 i b hb').1, Nat.lt_of_lt_of_le (h3 i b hb').2 hb.size⟩⟩
theorem drew (h : Stage F0 W l w) : Stage F0 W l w.drew := h.later (Below.refl _ _).drew
theorem drewN (h : Stage F0 W l w) (n : Nat) : Stage F0 W l (w.drewN n) := h.later (below_drewN (Below.refl _ _) n)
theorem get (h : Stage F0 W l w) {i : Nat} {O : Ob} (hi : l[i]? = some O) : ∃ F, O.holds w F := by
  obtain ⟨_, F, h1, _⟩ := h; exact ⟨F i, h1 i O hi⟩
/-- One thing turned into another one: the others are as they were. -/
theorem swap {F : Nat → Nat → Prop} {F' : Nat → Prop} {i : Nat} {O' : Ob} (hbl : Keeps F0 W w) (h1 : ∀ (i : Nat) (O : Ob), l[i]? = some O → O.holds w (F i)) (h2 : ∀ (i j b : Nat), i ≠ j → F i b → ¬ F j b) (h3 : ∀ (i b : Nat), F i b → (F0 b ∨ W.heap.size ≤ b) ∧ b < w.heap.size)
    (hi : i < l.length) (ho : O'.holds w' F') (m : Moved (F i) F' w w') : Stage F0 W (l.set i O') w' := by
  have hsz := m.keeps.size
  have hW := hbl.size
  refine ⟨⟨m.keeps.os.trans hbl.os, m.keeps.tape.trans hbl.tape, m.keeps.output.trans hbl.output, Nat.le_trans hW hsz, fun k hk hn => (m.keeps.block k (Nat.lt_of_lt_of_le hk hW) (fun hf => ?_)).trans (hbl.block k hk hn)⟩, fun j => if j = i then F' else F j, fun j P hj => ?_, fun j k b hjk hb hb' => ?_, fun j b hb => ?_⟩
  · rcases (h3 i k hf).1 with h | h
    · exact hn h
    · omega
  · by_cases e : j = i
    · subst e
      rw [List.getElem?_set_self hi] at hj
      cases hj
      simpa using ho
    · rw [List.getElem?_set_ne (fun x => e x.symm)] at hj
      simp only [if_neg e]
      exact P.keeps (h1 j P hj) m.keeps (fun b hb => h2 j i b e hb)
  · simp only at hb hb'
    split at hb
    · rename_i e
      subst e
      rw [if_neg (fun x => hjk x.symm)] at hb'
      exact m.apart (fun k hk => (h3 _ k hk).2) (fun b hb hb2 => h2 _ _ b hjk hb hb2) b hb hb'
    · rename_i e
      split at hb'
      · rename_i e2
        subst e2
        exact m.apart (fun k hk => (h3 _ k hk).2) (fun b hb hb2 => h2 _ _ b (fun x => hjk x.symm) hb hb2) b hb' hb
      · exact h2 j k b hjk hb hb'
  · simp only at hb
    split at hb
    · refine ⟨?_, O'.lt ho b hb⟩
      rcases m.grow b hb with hg | hg
      · exact (h3 i b hg).1
      · exact Or.inr (by omega)
    · exact ⟨(h3 j b hb).1, Nat.lt_of_lt_of_le (h3 j b hb).2 hsz⟩
theorem moved (h : Stage F0 W l w) {i : Nat} {O O' : Ob} (hi : l[i]? = some O) (hm : ∀ F, O.holds w F → ∃ F', O'.holds w' F' ∧ Moved F F' w w') : Stage F0 W (l.set i O') w' := by
  obtain ⟨hbl, F, h1, h2, h3⟩ := h
  obtain ⟨F', ho, m⟩ := hm (F i) (h1 i O hi)
  exact swap hbl h1 h2 h3 (Scene.idx hi) ho m
/-- Something new. -/
theorem add (h : Stage F0 W l w) {O : Ob} {F' : Nat → Prop} (hb : Below w.heap.size w w') (ho : O.holds w' F') (hn : ∀ k, F' k → w.heap.size ≤ k) : Stage F0 W (l ++ [O]) w' := by
  obtain ⟨hbl, F, h1, h2, h3⟩ := h
  have hW := hbl.size
  have hsz := hb.size
  refine ⟨hbl.then (Keeps.of_below_all hb F0 |>.mono fun _ _ x => x), fun j => if j = l.length then F' else if j < l.length then F j else fun _ => False, fun j P hj => ?_, fun j k b hjk hb1 hb2 => ?_, fun j b hb1 => ?_⟩
  · by_cases e : j = l.length
    · subst e
      simp at hj
      subst hj
      simpa using ho
    · by_cases e2 : j < l.length
      · rw [List.getElem?_append_left e2] at hj
        simp only [if_neg e, if_pos e2]
        exact P.keeps (h1 j P hj) (Keeps.of_below_all hb (fun _ => False)) (fun _ _ x => x)
      · rw [List.getElem?_eq_none (by simp; omega)] at hj; cases hj
  · simp only at hb1 hb2
    split at hb1
    · rename_i e
      rw [if_neg (by omega)] at hb2
      split at hb2
      · have := hn b hb1; have := (h3 k b hb2).2; omega
      · exact hb2
    · split at hb1
      · split at hb2
        · have := hn b hb2; have := (h3 j b hb1).2; omega
        · split at hb2
          · exact h2 j k b hjk hb1 hb2
          · exact hb2
      · exact hb1
  · simp only at hb1
    split at hb1
    · exact ⟨Or.inr (Nat.le_trans hW (hn b hb1)), O.lt ho b hb1⟩
    · split at hb1
      · exact ⟨(h3 j b hb1).1, Nat.lt_of_lt_of_le (h3 j b hb1).2 hsz⟩
      · exact hb1.elim
/-- A block that was just laid (e: its number as the walk tells it). -/
theorem alloc (h : Stage F0 W l w) (c : Array Value) (t : TypeId) : Stage F0 W (l ++ [Ob.box w.heap.size c t]) (w.alloc (.cells c t)) :=
  h.add ((Below.refl _ _).alloc (Nat.le_refl _) _) ⟨blk_new w c t, rfl⟩ (fun _ hk => Nat.le_of_eq hk.symm)
theorem alloc' (h : Stage F0 W l w) (c : Array Value) (t : TypeId) {b : Nat} (hb : w.heap.size = b) : Stage F0 W (l ++ [Ob.box b c t]) (w.alloc (.cells c t)) := by subst hb; exact h.alloc c t
theorem take (h : Stage F0 W l w) (n : Nat) : Stage F0 W (l.take n) w := by
  obtain ⟨hbl, F, h1, h2, h3⟩ := h
  exact ⟨hbl, F, fun i O hi => h1 i O (by rw [List.getElem?_take] at hi; split at hi; exact hi; cases hi), h2, h3⟩
/-- Some of them, in another order. -/
theorem select (h : Stage F0 W l w) (idx : List Nat) (hd : idx.Nodup) (hr0 : (idx.all fun i => decide (i < l.length)) = true) : Stage F0 W (idx.map fun i => l.getD i Ob.none) w := by
  have hr : ∀ i ∈ idx, i < l.length := by simpa using hr0
  obtain ⟨hbl, F, h1, h2, h3⟩ := h
  refine ⟨hbl, fun j => if j < idx.length then F (idx.getD j 0) else fun _ => False, fun j O hj => ?_, fun i j b hij hb hb' => ?_, fun j b hb => ?_⟩
  · have hl : j < idx.length := by simpa using Scene.idx' hj
    have e : idx[j]? = some (idx.getD j 0) := by simp [List.getD_eq_getElem?_getD, hl]
    rw [List.getElem?_map, e] at hj
    simp only [Option.map_some, Option.some.injEq] at hj
    have hm : idx.getD j 0 ∈ idx := List.mem_of_getElem? e
    have hlt := hr _ hm
    simp only [if_pos hl]
    refine h1 _ O ?_
    rw [← hj]
    generalize idx.getD j 0 = q at *
    simp [List.getD_eq_getElem?_getD, hlt]
  · simp only at hb hb'
    split at hb
    · rename_i hi
      split at hb'
      · rename_i hj
        refine h2 _ _ b (fun e => hij ?_) hb hb'
        simp only [List.getD_eq_getElem?_getD, List.getElem?_eq_getElem hi, List.getElem?_eq_getElem hj, Option.getD_some] at e
        exact (List.getElem_inj hd).1 e
      · exact hb'
    · exact hb
  · simp only at hb
    split at hb
    · exact h3 _ b hb
    · exact hb.elim
/-- Two things at once, by their places. -/
theorem two (h : Stage F0 W l w) {i j : Nat} {O P : Ob} (hi : l[i]? = some O) (hj : l[j]? = some P) (hij : i ≠ j) : ∃ F G, O.holds w F ∧ P.holds w G ∧ ∀ b, F b → ¬ G b := by
  obtain ⟨_, F, h1, h2, _⟩ := h
  exact ⟨F i, F j, h1 i O hi, h1 j P hj, fun b => h2 i j b hij⟩
/-- One thing is looked upon as another one that is less. -/
theorem weaken (h : Stage F0 W l w) {i : Nat} {O O' : Ob} (hi : l[i]? = some O) (hm : ∀ F, O.holds w F → O'.holds w F) : Stage F0 W (l.set i O') w := h.moved hi fun F hF => ⟨F, hm F hF, Moved.refl _ _⟩
theorem blk (h : Stage F0 W l w) (i : Nat) {b : Nat} {c : Array Value} {t : TypeId} (hi : l[i]? = some (Ob.box b c t)) : Blk w b c t := by
  obtain ⟨F, h, _⟩ := h.get hi; exact h
theorem cell (h : Stage F0 W l w) (i : Nat) {b : Nat} {c : Array Value} {t : TypeId} (hi : l[i]? = some (Ob.box b c t)) {o : Nat} {v : Value} (hv : c[o]? = some v) : w.cell? ⟨b, o, none⟩ = some v := blk_cell (h.blk i hi) hv
theorem free (h : Stage F0 W l w) (i : Nat) {b : Nat} {c : Array Value} {t : TypeId} (hi : l[i]? = some (Ob.box b c t)) (o : Nat) : w.frozen? ⟨b, o, none⟩ = false := blk_free (h.blk i hi) o
theorem lt (h : Stage F0 W l w) (i : Nat) {b : Nat} {c : Array Value} {t : TypeId} (hi : l[i]? = some (Ob.box b c t)) : b < w.heap.size := blk_lt (h.blk i hi)
theorem ne (h : Stage F0 W l w) (i j : Nat) {b b' : Nat} {c c' : Array Value} {t t' : TypeId} (hi : l[i]? = some (Ob.box b c t)) (hj : l[j]? = some (Ob.box b' c' t')) (hij : i ≠ j) : b ≠ b' := by
  obtain ⟨F, G, ⟨_, e1⟩, ⟨_, e2⟩, h2⟩ := h.two hi hj hij
  intro e
  exact h2 b (by rw [e1]) (by rw [e2]; exact e)
theorem owns (h : Stage F0 W l w) (i : Nat) {B : Nat} {e : TypeId} {size : Nat} {v : Value} {n : Nat} {xs : List Value} (hi : l[i]? = some (Ob.row B e size v n xs)) : w.ownsRow B e size v n xs := by
  obtain ⟨F, h, _⟩ := h.get hi; exact h
/-- A row's block is no box's. -/
theorem rowNe (h : Stage F0 W l w) (i j : Nat) {B : Nat} {e : TypeId} {size : Nat} {v : Value} {n : Nat} {xs : List Value} {b : Nat} {c : Array Value} {t : TypeId} (hi : l[i]? = some (Ob.row B e size v n xs)) (hj : l[j]? = some (Ob.box b c t)) (hij : i ≠ j) : ¬ rowF v b := by
  obtain ⟨F, G, ⟨_, e1⟩, ⟨_, e2⟩, h2⟩ := h.two hi hj hij
  intro e
  exact h2 b (by rw [e1]; exact e) (by rw [e2])
/-- A cell of a box is written. -/
theorem store (h : Stage F0 W l w) (i : Nat) {b : Nat} {c : Array Value} {t : TypeId} (hi : l[i]? = some (Ob.box b c t)) (o : Nat) (v : Value) : Stage F0 W (l.set i (Ob.box b (c.setIfInBounds o v) t)) (w.setCell ⟨b, o, none⟩ v) :=
  h.moved hi fun F ⟨hb, hF⟩ => ⟨F, ⟨blk_set hb o v, hF⟩, (Keeps.refl F w).setCell ⟨b, o, none⟩ (Or.inl (by rw [hF])) v, fun _ hk => Or.inl hk⟩
/-- A cell of a box was written by a call. -/
theorem wrote (h : Stage F0 W l w) (i : Nat) {b : Nat} {c : Array Value} {t : TypeId} (hi : l[i]? = some (Ob.box b c t)) {o : Nat} {v : Value} (hw : Wrote ⟨b, o, none⟩ v w w') : Stage F0 W (l.set i (Ob.box b (c.setIfInBounds o v) t)) w' :=
  h.moved hi fun F ⟨hb, hF⟩ => ⟨F, ⟨hw.blk hb, hF⟩, hw.keeps.mono (fun _ _ e => by rw [hF]; exact e), fun _ hk => Or.inl hk⟩

variable {P : Program} {f : FuncId} {args : Array Value} {O O' : Ob} {i : Nat} {v : Value}
/-- A call on one thing, which it turns into another one. -/
theorem call (h : Stage F0 W l w) (i : Nat) (hi : l[i]? = some O) (hc : ∀ F, O.holds w F → Calls P f args w fun e w' => e = .returned v ∧ ∃ F', O'.holds w' F' ∧ Moved F F' w w') : Calls P f args w fun e w' => e = .returned v ∧ Stage F0 W (l.set i O') w' := by
  obtain ⟨hbl, F, h1, h2, h3⟩ := h
  exact (hc (F i) (h1 i O hi)).mono fun e w' ⟨he, F', ho, m⟩ => ⟨he, swap hbl h1 h2 h3 (Scene.idx hi) ho m⟩
/-- A call that only asks one thing. -/
theorem ask (h : Stage F0 W l w) (i : Nat) (hi : l[i]? = some O) (hc : ∀ F, O.holds w F → Calls P f args w fun e w' => e = .returned v ∧ w = w') : Calls P f args w fun e w' => e = .returned v ∧ w = w' := by
  obtain ⟨F, ho⟩ := h.get hi; exact hc F ho
/-- .. and makes memory. -/
theorem askB (h : Stage F0 W l w) (i : Nat) (hi : l[i]? = some O) (hc : ∀ F, O.holds w F → Calls P f args w fun e w' => e = .returned v ∧ Below w.heap.size w w') : Calls P f args w fun e w' => e = .returned v ∧ Stage F0 W l w' := by
  obtain ⟨F, ho⟩ := h.get hi; exact (hc F ho).mono fun e w' ⟨he, hb⟩ => ⟨he, h.later hb⟩

/-- A row that is nil. -/
theorem nilRow (h : Stage F0 W l w) (B : Nat) (e : TypeId) (size : Nat) : Stage F0 W (l ++ [Ob.row B e size (.slice none 0 0) 0 []]) w :=
  h.add (Below.refl _ _) ⟨World.ownsRow_nil _ _ _ _, rfl⟩ (fun k hk => by simp [rowF, Value.ownBlock] at hk)
/-- An empty row that was just written out. -/
theorem emptyRow (h : Stage F0 W l w) (e : TypeId) (size : Nat) : Stage F0 W (l ++ [Ob.row 0 e size (.slice (some ⟨w.heap.size, 0, none⟩) 0 0) 0 []]) (w.alloc (.cells #[] e)) :=
  h.add ((Below.refl _ _).alloc (Nat.le_refl _) _) ⟨owns_empty w e size 0 (Nat.zero_le _), rfl⟩ (fun k hk => Nat.le_of_eq (by simpa [rowF, Value.ownBlock] using hk))
/-- A row that was just written out. -/
theorem newRow (h : Stage F0 W l w) (e : TypeId) (size n : Nat) (c : Array Value) (hs : c.size = n * size) (hm : n ≤ maxLen) : Stage F0 W (l ++ [Ob.row 0 e size (.slice (some ⟨w.heap.size, 0, none⟩) n n) n c.toList]) (w.alloc (.cells c e)) :=
  h.add ((Below.refl _ _).alloc (Nat.le_refl _) _) ⟨owns_new (Nat.zero_le _) hs hm, rfl⟩ (fun k hk => Nat.le_of_eq (by simpa [rowF, Value.ownBlock] using hk))
/-- Behind an append onto it. -/
theorem grown (h : Stage F0 W l w) (i : Nat) {B : Nat} {e : TypeId} {size : Nat} {v v' : Value} {n m : Nat} {xs ys : List Value} (hi : l[i]? = some (Ob.row B e size v n xs)) (ho : w'.ownsRow B e size v' m ys) (hg : w.grownBy w' v.ownBlock) {H : Nat} (hl : ∀ k, rowF v' k → rowF v k ∨ k = H) (hH : w.heap.size ≤ H := by first | exact Nat.le_refl _ | exact Nat.le_of_eq (size_alloc _ _)) : Stage F0 W (l.set i (Ob.row B e size v' m ys)) w' :=
  h.moved hi fun F ⟨_, hF⟩ => ⟨rowF v', ⟨ho, rfl⟩, by subst hF; exact ⟨grown_keeps hg, fun k hk => (hl k hk).imp id (fun e => by omega)⟩⟩
/-- A cell of a row is written. -/
theorem storeRow (h : Stage F0 W l w) (i : Nat) {B : Nat} {e : TypeId} {size g n cap : Nat} {xs ys : List Value} (hi : l[i]? = some (Ob.row B e size (.slice (some ⟨g, 0, none⟩) n cap) n xs)) (o : Nat) (u : Value) (hys : xs.set o u = ys) : Stage F0 W (l.set i (Ob.row B e size (.slice (some ⟨g, 0, none⟩) n cap) n ys)) (w.setCell ⟨g, o, none⟩ u) :=
  h.moved hi fun F ⟨ho, hF⟩ => ⟨F, ⟨hys ▸ (ho.stored o u).1, hF⟩, (Keeps.refl F w).setCell ⟨g, o, none⟩ (Or.inl (by rw [hF]; rfl)) u, fun _ hk => Or.inl hk⟩
end Stage

/-- A row of n like things that was just made. -/
theorem made_rows {α : Type} {f : α → List Value} {z : Nat} (hf : ∀ a, (f a).length = z) (hz : 0 < z) (d : α) (zs : Array Value) (h : f d = zs.toList) (n : Nat) : (madeCells zs (n * z)).toList = cellsBy f (List.replicate n d) := by
  have hs : zs.size = z := by rw [← hf d, h]; simp
  apply List.ext_getElem?
  intro j
  by_cases hj : j < n * z
  · have hq : j / z < n := (Nat.div_lt_iff_lt_mul hz).2 hj
    have hr : j % z < z := Nat.mod_lt _ hz
    have e : j = j / z * z + j % z := by rw [Nat.mul_comm]; exact (Nat.div_add_mod j z).symm
    have h1 := cellsBy_get f z hf d (List.replicate n d) (j / z) (j % z) (by simpa using hq) hr
    have h2 : (List.replicate n d).getD (j / z) d = d := by simp [List.getD_eq_getElem?_getD, hq]
    rw [h2, h, ← e] at h1
    rw [h1]
    simp [madeCells, hj, hs, hr]
  · rw [List.getElem?_eq_none (by simp [madeCells]; omega), List.getElem?_eq_none (by rw [cellsBy_length f z hf]; simp; omega)]
/-- 'make([]T, n)' of things of some cells: an equation that the walk takes. -/
theorem run_make_rows {P : Program} (t e : TypeId) (z : Value) (size bytes : Nat) (ht : P.underlying t = some (.slice e)) (hinfo : (P.info? e).map (fun i => (i.zero, i.size, i.bytes)) = some (some z, size, bytes)) (n : Nat) (hbytes : bytes * n ≤ 281474976710656) (h63 : n ≤ 9223372036854775807) (w : World) :
    (Instr.makeSlice t (.int .i64 (n : Int)) (.int .i64 (n : Int))).run P w = .ok (.slice (some ⟨w.heap.size, 0, none⟩) n n) (w.alloc (.cells (madeCells z.cells (n * size)) e)) := by
  obtain ⟨i, hi, hzz⟩ := Option.map_eq_some_iff.1 hinfo
  simp only [Prod.mk.injEq] at hzz
  obtain ⟨hz, hs, hb⟩ := hzz
  have hb' : (i.bytes : Int) * (n : Int) ≤ 281474976710656 := by
    have h : ((i.bytes * n : Nat) : Int) ≤ 281474976710656 := by rw [hb]; omega
    rwa [Int.natCast_mul] at h
  have hr := run_make (P := P) w t e i z ht hi hz .i64 .i64 n n (by omega) (Int.le_refl _) hb' (by omega)
  simp only [Int.toNat_natCast, hs] at hr
  exact hr

/-! ### maps of integers -/
/-- What a map of integers holds at a key: nothing is 0; and each key is from 0 to below M. -/
structure MapIs (D : DataW Unit) (f : Int → Int) (M : Nat) : Prop where
  at' : ∀ h : Int, D.atKey (.int .i64 h) (.lit (.int .i64 0)) = .lit (.int .i64 (f h))
  keys : ∃ es, D = .map es ∧ es.Pairwise (fun p q => p.1 ≠ q.1) ∧ ∀ p ∈ es, ∃ n : Nat, p.1 = .int .i64 n ∧ n < M
/-- No more keys than there can be. -/
theorem len_le_of_keys {α : Type} (es : List (Lit × α)) (hd : es.Pairwise (fun p q => p.1 ≠ q.1)) (M : Nat) (h : ∀ p ∈ es, ∃ n : Nat, p.1 = .int .i64 n ∧ n < M) : es.length ≤ M := by
  induction M generalizing es with
  | zero =>
    cases es with
    | nil => simp
    | cons p r => obtain ⟨n, _, hn⟩ := h p (by simp); omega
  | succ M ih =>
    obtain ⟨g, hg⟩ : ∃ g : Lit × α → Bool, g = fun p => p.1.sameKey (.int .i64 M) := ⟨_, rfl⟩
    have hs : (es.filter g).length ≤ 1 := by
      match hf : es.filter g with
      | [] => simp
      | [_] => simp
      | p :: q :: r =>
        have hp := hd.filter g
        rw [hf] at hp
        have h1 := (List.pairwise_cons.1 hp).1 q (by simp)
        have m1 : p ∈ es.filter g := by rw [hf]; simp
        have m2 : q ∈ es.filter g := by rw [hf]; simp
        have e1 := (List.mem_filter.1 m1).2
        have e2 := (List.mem_filter.1 m2).2
        rw [hg] at e1 e2
        exact absurd ((WideAt.sameKey_eq e1).trans (WideAt.sameKey_eq e2).symm) h1
    have hr := ih (es.filter fun p => !g p) (hd.filter _) (fun p hp => by
      obtain ⟨hp1, hp2⟩ := List.mem_filter.1 hp
      obtain ⟨n, hn, hl⟩ := h p hp1
      refine ⟨n, hn, ?_⟩
      have : n ≠ M := by
        rintro rfl
        rw [hg] at hp2
        simp [hn, Lit.sameKey] at hp2
      omega)
    have hsum : ∀ l : List (Lit × α), (l.filter g).length + (l.filter fun p => !g p).length = l.length := by
      intro l
      induction l with
      | nil => rfl
      | cons a r ih2 =>
        cases ha : g a
        · simp only [List.filter_cons, ha, Bool.false_eq_true, if_false, Bool.not_false, if_true, List.length_cons]; omega
        · simp only [List.filter_cons, ha, if_true, Bool.not_true, Bool.false_eq_true, if_false, List.length_cons]; omega
    have := hsum es
    omega
theorem MapIs.size {D : DataW Unit} {f : Int → Int} {M : Nat} (h : MapIs D f M) : Maps.size D ≤ M := by
  obtain ⟨es, rfl, h1, h2⟩ := h.keys
  exact len_le_of_keys es h1 M h2
def setI (f : Int → Int) (k v : Int) : Int → Int := fun h => if h = k then v else f h
theorem setI_set (f : Int → Int) (k u v : Int) : setI (setI f k u) k v = setI f k v := by
  funext h; unfold setI; split <;> rfl
theorem setI_same (f : Int → Int) (k v : Int) : setI f k v k = v := by simp [setI]
theorem MapIs.empty (M : Nat) : MapIs (.map []) (fun _ => 0) M := ⟨fun _ => rfl, [], rfl, List.Pairwise.nil, by simp⟩
theorem MapIs.put {D : DataW Unit} {f : Int → Int} {M : Nat} (h : MapIs D f M) (k : Nat) (hk : k < M) (v : Int) : MapIs (D.put (.int .i64 k) (.lit (.int .i64 v))) (setI f k v) M := by
  obtain ⟨h1, es, rfl, h2, h3⟩ := h
  refine ⟨fun x => ?_, ?_⟩
  · by_cases hx : x = k
    · subst hx
      rw [Maps.atKey_put_same ⟨_, rfl⟩ (show WideAt.IsKeyLit (.int .i64 (k : Int)) from trivial), setI_same]
    · rw [Maps.atKey_put_other (by simpa using hx), h1]
      simp [setI, hx]
  · obtain ⟨es', he, hp⟩ := Maps.Tidy.put (D := DataW.map es) ⟨es, rfl, h2⟩ (k := .int .i64 k) trivial (.lit (.int .i64 v))
    refine ⟨es', he, hp, fun p hp => ?_⟩
    have e : DataW.insert (.int .i64 (k : Int), .lit (.int .i64 v)) (es.filter fun p => !p.1.sameKey (.int .i64 (k : Int))) = es' := by
      have : DataW.map (DataW.insert (.int .i64 (k : Int), .lit (.int .i64 v)) (es.filter fun p => !p.1.sameKey (.int .i64 (k : Int)))) = DataW.map es' := he
      injection this
    rw [← e] at hp
    rcases Go.ChangeMaps.mem_insert_iff.1 hp with rfl | hp
    · exact ⟨k, rfl, hk⟩
    · exact h3 p (List.mem_filter.1 hp).1
theorem MapIs.del {D : DataW Unit} {f : Int → Int} {M : Nat} (h : MapIs D f M) (k : Int) : MapIs (D.del (.int .i64 k)) (setI f k 0) M := by
  obtain ⟨h1, es, rfl, h2, h3⟩ := h
  refine ⟨fun x => ?_, es.filter fun p => !p.1.sameKey (.int .i64 k), rfl, h2.filter _, fun p hp => h3 p (List.mem_filter.1 hp).1⟩
  by_cases hx : x = k
  · subst hx
    rw [Maps.atKey_del_same, setI_same]
  · rw [Maps.atKey_del_other (by simpa using hx), h1]
    simp [setI, hx]
theorem owns_tight {P : Program} {k : TypeId} {R : Value → Option (DataW Unit × List MemPlace)} {w : World} {b n M : Nat} {D : DataW Unit} (h : w.ownsMap P k R b n D) (hM : Maps.size D ≤ M) : w.ownsMap P k R b M D := by
  obtain ⟨es, clock, hb, F, _, rfl⟩ := h
  refine ⟨es, clock, hb, F, ?_, rfl⟩
  simpa [Maps.size, length_sorted] using hM
/-- At block b lies a map of integers that holds f. -/
def Ob.imap (P : Program) (k e : TypeId) (b : Nat) (f : Int → Int) (M : Nat) : Ob where
  holds w F := (∃ D, w.ownsMap (H := Unit) P k (plainElem P e) b M D ∧ MapIs D f M) ∧ F = (· = b)
  keeps := by
    rintro w w' F G ⟨⟨D, h, hm⟩, rfl⟩ kp hg
    refine ⟨⟨D, ?_, hm⟩, rfl⟩
    have hlt := h.lt
    obtain ⟨es, clock, hb, r⟩ := h
    exact ⟨es, clock, by rw [kp.block b hlt (hg b rfl)]; exact hb, r⟩
  lt := by rintro w F ⟨⟨D, h, _⟩, rfl⟩ k rfl; exact h.lt
theorem keeps_of_grown {w w' : World} {b : Nat} (h : w.grownBy w' (some b)) : Keeps (· = b) w w' := ⟨h.os, h.tape, h.output, h.size, fun k hk hn => h.block k hk (fun e => hn (by injection e))⟩
theorem wf_i64' {n : Int} (h : -9223372036854775808 ≤ n ∧ n ≤ 9223372036854775807) : (Lit.int .i64 n).wf = true := by
  simp [Lit.wf, IntKind.min, IntKind.max]; first | exact h | (simp [IntKind.bits, IntKind.signed]; exact h)

namespace Stage
variable {F0 : Nat → Prop} {W w w' : World} {l : List Ob} {P : Program} {t k e : TypeId} {b M : Nat} {f : Int → Int}
/-- A map that was just made. -/
theorem newMap (h : Stage F0 W l w) (P : Program) (k e : TypeId) (M : Nat) {b : Nat} (hb : w.heap.size = b) : Stage F0 W (l ++ [Ob.imap P k e b (fun _ => 0) M]) (w.alloc (.map #[] 0)) := by
  subst hb
  exact h.add ((Below.refl _ _).alloc (Nat.le_refl _) _) ⟨⟨_, (World.ownsMap_made w P k _).mono (Nat.zero_le _), MapIs.empty M⟩, rfl⟩ (fun _ hk => Nat.le_of_eq hk.symm)
/-- 'm[k]': an equation that the walk takes. -/
theorem look (h : Stage F0 W l w) (i : Nat) (hi : l[i]? = some (Ob.imap P k e b f M)) (ht : P.underlying t = some (.map k e)) (hk : P.underlying k = some (.int .i64)) (he : P.underlying e = some (.int .i64)) (hz : (zeroValue e).run P w = .ok (.int .i64 0) w)
    (x : Int) (hx : -9223372036854775808 ≤ x ∧ x ≤ 9223372036854775807) : (Instr.lookup t (.map (some b)) (.int .i64 x) false).run P w = .ok (.int .i64 (f x)) w := by
  obtain ⟨_, ⟨D, hown, hm⟩, _⟩ := h.get hi
  obtain ⟨c, hrun, hat, _⟩ := hown.lookup_int (Maps.int_keyed hk) ht he hz (Maps.keyOf_int_mk hk (wf_i64' hx))
  rw [hm.at' x] at hat
  injection hat with hat
  injection hat with _ hat
  rw [hrun, hat]
/-- 'm[k] = v' at the operation. -/
theorem wp_put {ops : Array Oper} {rest : List Oper} {o : Oper} {a : Act} {Q : Exit → Act → World → Prop} (h : Stage F0 W l w) (i : Nat) (hi : l[i]? = some (Ob.imap P k e b f M)) (hg : o.guard = none) (m x v : Operand) (hop : o.op = Op.mapUpdate t m x v)
    (ht : P.underlying t = some (.map k e)) (hk : P.underlying k = some (.int .i64)) (he : P.underlying e = some (.int .i64)) (hM : M < maxLen)
    (hm : a.eval m = .map (some b)) (key : Nat) (val : Int) (hx : a.eval x = .int .i64 key) (hv : a.eval v = .int .i64 val) (hkey : key < M) (hval : -9223372036854775808 ≤ val ∧ val ≤ 9223372036854775807)
    (hK : ∀ w', Stage F0 W (l.set i (Ob.imap P k e b (setI f key val) M)) w' → wpList P ops Q rest (a.put o.dst undef) w') : wpList P ops Q (o :: rest) a w := by
  obtain ⟨_, ⟨D, hown, hmi⟩, _⟩ := h.get hi
  unfold maxLen at hM
  refine wpList_mapUpdate_own w hg m x v t hop k e (Maps.int_keyed hk) ht _ b M D hm hown (by unfold maxLen; omega) _ _ _ hx hv (Maps.keyOf_int_mk hk (wf_i64' (by omega))) _ [] (plainElem_int he (wf_i64' hval)) fun w' h1 h2 => hK w' ?_
  have h3 := hmi.put key hkey val
  exact h.moved hi fun F hF => ⟨(· = b), ⟨⟨_, owns_tight h1 h3.size, h3⟩, rfl⟩, by
    have e2 : F = (· = b) := hF.2
    subst e2
    exact ⟨keeps_of_grown h2, fun k hk => Or.inl hk⟩⟩
/-- 'delete(m, k)' at the operation. -/
theorem wp_delete {ops : Array Oper} {rest : List Oper} {o : Oper} {a : Act} {Q : Exit → Act → World → Prop} (h : Stage F0 W l w) (i : Nat) (hi : l[i]? = some (Ob.imap P k e b f M)) (hg : o.guard = none) (m x : Operand) (hop : o.op = Op.call { callee := Callee.builtin Builtin.delete, args := #[m, x], argTypes := #[t, k] })
    (ht : P.underlying t = some (.map k e)) (hk : P.underlying k = some (.int .i64))
    (hm : a.eval m = .map (some b)) (key : Int) (hx : a.eval x = .int .i64 key) (hkey : -9223372036854775808 ≤ key ∧ key ≤ 9223372036854775807)
    (hK : ∀ w', Stage F0 W (l.set i (Ob.imap P k e b (setI f key 0) M)) w' → wpList P ops Q rest (a.put o.dst (.tuple #[])) w') : wpList P ops Q (o :: rest) a w := by
  obtain ⟨_, ⟨D, hown, hmi⟩, _⟩ := h.get hi
  refine wpList_delete_own w hg m x t k hop e (Maps.int_keyed hk) ht _ b M D hm hown _ _ hx (Maps.keyOf_int_mk hk (wf_i64' hkey)) fun w' h1 h2 => hK w' ?_
  have h3 := hmi.del key
  exact h.moved hi fun F hF => ⟨(· = b), ⟨⟨_, owns_tight h1 h3.size, h3⟩, rfl⟩, by
    have e2 : F = (· = b) := hF.2
    subst e2
    exact ⟨keeps_of_grown h2.grown, fun k hk => Or.inl hk⟩⟩
end Stage
end Go.Proofs.YtokfecbjkngpgaaDoor
