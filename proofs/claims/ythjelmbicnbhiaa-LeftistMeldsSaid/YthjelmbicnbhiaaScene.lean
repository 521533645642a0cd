/- Merged of SpineRowMath, Box, Scene. -/
import Derived.Test.YthjelmbicnbhiaaTrMath
import Derived.Test.YthjelmbicnbhiaaRow
namespace Go.Proofs.Ythjelmbicnbhiaa
open Go.RowKit

/-- What is next to a thing: above it, at its left, at its right; -1 is nothing. -/
structure Th where
  up : Int
  l : Int
  r : Int
def thC (t : Th) : List Value := [.int .i64 t.up, .int .i64 t.l, .int .i64 t.r]
theorem thC_len (t : Th) : (thC t).length = 3 := rfl
def Th.no : Th := ⟨-1, -1, -1⟩
def oI (o : Option Int) : Int := o.getD (-1)
def thOf (L : List Hg) (x : Int) : Th := ⟨oI (upL L x), oI (kidL L x false), oI (kidL L x true)⟩
def rawOf (n : Nat) (L : List Hg) : List Th := (List.range n).map fun i : Nat => thOf L i
theorem raw_len (n : Nat) (L : List Hg) : (rawOf n L).length = n := by simp [rawOf]
theorem raw_at {n : Nat} (L : List Hg) {i : Nat} (h : i < n) (d : Th) : (rawOf n L).getD i d = thOf L i := by
  simp [rawOf, List.getD_eq_getElem?_getD, h]
theorem th_ext {a b : List Th} {n : Nat} (ha : a.length = n) (hb : b.length = n) (h : ∀ i, i < n → a.getD i .no = b.getD i .no) : a = b := by
  apply List.ext_getElem (ha.trans hb.symm)
  intro i h1 h2
  have := h i (by omega)
  simpa [List.getD_eq_getElem?_getD, h1, h2] using this
theorem raw_new (n : Nat) : rawOf n [] = List.replicate n .no := by
  refine th_ext (raw_len _ _) (by simp) (fun i hi => ?_)
  rw [raw_at _ hi]
  simp [List.getD_eq_getElem?_getD, hi, thOf, upL, kidL, oI, Th.no]
/-- Another child on a side. -/
def Th.kid (t : Th) (s : Bool) (x : Int) : Th := if s then ⟨t.up, t.l, x⟩ else ⟨t.up, x, t.r⟩
theorem thC_up (t : Th) (x : Int) : thC ⟨x, t.l, t.r⟩ = (thC t).set 0 (.int .i64 x) := rfl
theorem thC_kid (t : Th) (s : Bool) (x : Int) : thC (t.kid s x) = (thC t).set (1 + s.toNat) (.int .i64 x) := by cases s <;> rfl
theorem th_set_up (l : List Th) (i : Nat) (hi : i < l.length) (x : Int) : (cellsBy thC l).set (i * 3) (.int .i64 x) = cellsBy thC (l.set i ⟨x, (l.getD i .no).l, (l.getD i .no).r⟩) := by
  have := cellsBy_set thC 3 thC_len .no l i 0 (.int .i64 x) _ hi (by omega) (thC_up _ x)
  rwa [Nat.add_zero] at this
theorem th_set_kid (l : List Th) (i : Nat) (hi : i < l.length) (s : Bool) (x : Int) : (cellsBy thC l).set (i * 3 + (1 + s.toNat)) (.int .i64 x) = cellsBy thC (l.set i ((l.getD i .no).kid s x)) :=
  cellsBy_set thC 3 thC_len .no l i (1 + s.toNat) (.int .i64 x) _ hi (by cases s <;> simp) (thC_kid _ s x)
section
variable {n : Nat} {L : List Hg}
theorem up_in (I : GInv n L) {x p : Int} (h : upL L x = some p) : inN n x ∧ inN n p := by
  obtain ⟨g, hg, rfl, rfl⟩ := upL_some h
  exact ⟨(I.rng g hg).2, (I.rng g hg).1⟩
theorem up_out (I : GInv n L) {x : Int} (h : ¬ inN n x) : upL L x = none := by
  cases e : upL L x with
  | none => rfl
  | some p => exact absurd (up_in I e).1 h
theorem kid_out (I : GInv n L) {x : Int} (r : Bool) (h : ¬ inN n x) : kidL L x r = none := by
  cases e : kidL L x r with
  | none => rfl
  | some p => exact absurd (kid_in I e).2 h
theorem oI_none {o : Option Int} (h : ∀ y, o = some y → inN n y) : oI o = -1 ↔ o = none := by
  cases o with
  | none => simp [oI]
  | some y => have := h y rfl; unfold inN at this; simp [oI]; omega
theorem oI_some {o : Option Int} {x : Int} (hx : inN n x) : oI o = x ↔ o = some x := by
  unfold inN at hx
  cases o with
  | none => simp [oI]; omega
  | some y => simp [oI]
/-- Hung. -/
theorem raw_hang {p x : Nat} {s : Bool} (hp : p < n) (hx : x < n) (hne : p ≠ x) (hu : upL L x = none) (hk : kidL L p s = none) :
    ((rawOf n L).set p ((thOf L p).kid s x)).set x ⟨p, (thOf L x).l, (thOf L x).r⟩ = rawOf n (L ++ [⟨p, x, s⟩]) := by
  refine th_ext (by simp [raw_len]) (raw_len _ _) (fun i hi => ?_)
  rw [getD_set' _ _ _ _ _ (by rw [List.length_set, raw_len]; exact hx), getD_set' _ _ _ _ _ (by rw [raw_len]; exact hp), raw_at _ hi, raw_at _ hi]
  have e1 : ∀ y, upL (L ++ [⟨p, x, s⟩]) y = (upL L y).or (if (x : Int) = y then some (p : Int) else none) := up_append L ⟨p, x, s⟩
  have e2 : ∀ q r, kidL (L ++ [⟨p, x, s⟩]) q r = (kidL L q r).or (if (p : Int) = q ∧ s = r then some (x : Int) else none) := kid_append L ⟨p, x, s⟩
  unfold thOf
  rw [e1, e2, e2]
  by_cases h1 : x = i
  · subst h1
    have h2 : (p : Int) ≠ x := by omega
    simp [hu, h2, oI]
  · have h1' : (x : Int) ≠ i := by omega
    by_cases h3 : p = i
    · subst h3
      cases s <;> simp [h1, h1', hk, oI, Th.kid]
    · have h3' : (p : Int) ≠ i := by omega
      simp [h1, h1', h3, h3']
/-- Cut: each side of the one above on which it is, and its way up. -/
theorem raw_cut (I : GInv n L) {p x : Nat} (hp : p < n) (hx : x < n) (hne : p ≠ x) (hu : upL L x = some (p : Int)) :
    ((rawOf n L).set p ⟨oI (upL L p), (if kidL L p false = some (x : Int) then -1 else oI (kidL L p false)), (if kidL L p true = some (x : Int) then -1 else oI (kidL L p true))⟩).set x ⟨-1, oI (kidL L x false), oI (kidL L x true)⟩ = rawOf n (cutL L x) := by
  refine th_ext (by simp [raw_len]) (raw_len _ _) (fun i hi => ?_)
  rw [getD_set' _ _ _ _ _ (by rw [List.length_set, raw_len]; exact hx), getD_set' _ _ _ _ _ (by rw [raw_len]; exact hp), raw_at _ hi, raw_at _ hi]
  unfold thOf
  have hk : ∀ q r, kidL L q r = some (x : Int) → q = (p : Int) := fun q r h => by
    have := I.up_kid.2 ⟨r, h⟩
    rw [hu] at this; injection this with this; exact this.symm
  rw [up_cut, kid_cut I, kid_cut I]
  by_cases h1 : x = i
  · subst h1
    have h2 : ∀ r, kidL L x r ≠ some (x : Int) := fun r h => hne (by have := hk _ _ h; omega)
    simp [h2, oI]
  · have h1' : (i : Int) ≠ x := by omega
    by_cases h3 : p = i
    · subst h3
      by_cases h4 : kidL L p false = some (x : Int) <;> by_cases h5 : kidL L p true = some (x : Int) <;> simp [h1, h1', h4, h5, oI]
    · have h2 : ∀ r, kidL L i r ≠ some (x : Int) := fun r h => h3 (by have := hk _ _ h; omega)
      simp [h1, h1', h3, h2]
theorem cut_same (_I : GInv n L) {x : Int} (hu : upL L x = none) : cutL L x = L := by
  unfold cutL
  rw [List.filter_eq_self]
  intro g hg
  have := upL_none.1 hu g hg
  simpa using this
/-- Turned. -/
theorem raw_turn (L : List Hg) {p : Nat} (hp : p < n) :
    (rawOf n L).set p ⟨oI (upL L p), oI (kidL L p true), oI (kidL L p false)⟩ = rawOf n (turnL L p) := by
  refine th_ext (by simp [raw_len]) (raw_len _ _) (fun i hi => ?_)
  rw [getD_set' _ _ _ _ _ (by rw [raw_len]; exact hp), raw_at _ hi, raw_at _ hi]
  unfold thOf
  rw [up_turn, kid_turn, kid_turn]
  by_cases h3 : p = i
  · subst h3; simp
  · have h3' : (i : Int) ≠ p := by omega
    simp [h3, h3']
theorem turn_same (I : GInv n L) {p : Int} (hp : ¬ inN n p) : turnL L p = L := by
  unfold turnL
  conv => rhs; rw [← List.map_id L]
  apply List.map_congr_left
  intro g hg
  have : (g.p == p) = false := by
    rw [beq_eq_false_iff_ne]
    rintro rfl
    exact hp (I.rng g hg).1
  rw [this]; rfl
end
end Go.Proofs.Ythjelmbicnbhiaa

namespace Go.Proofs.Ythjelmbicnbhiaa
open Go.RowKit Go.Sort

/-- A block that is known whole and is none of an object's. -/
structure Box (F : Nat → Prop) (w : World) (b : Nat) (c : Array Value) (t : TypeId) : Prop where
  blk : Blk w b c t
  off : ¬ F b
theorem Box.moved {F F' : Nat → Prop} {w w' : World} {b : Nat} {c : Array Value} {t : TypeId} (h : Box F w b c t) (m : Moved F F' w w') : Box F' w' b c t :=
  ⟨m.keeps.blk h.blk h.off, fun hf => by
    rcases m.grow b hf with h1 | h1
    · exact h.off h1
    · have := blk_lt h.blk; omega⟩
theorem Box.later {F : Nat → Prop} {w w' : World} {b : Nat} {c : Array Value} {t : TypeId} (h : Box F w b c t) (hb : Below w.heap.size w w') : Box F w' b c t := ⟨later_blk hb h.blk, h.off⟩
theorem Box.alloc {F : Nat → Prop} {w : World} {b : Nat} {c : Array Value} {t : TypeId} (h : Box F w b c t) (o : Obj) : Box F (w.alloc o) b c t := ⟨blk_alloc h.blk o, h.off⟩
theorem Box.new {F : Nat → Prop} {w : World} (hF : ∀ k, F k → k < w.heap.size) (c : Array Value) (t : TypeId) : Box F (w.alloc (.cells c t)) w.heap.size c t :=
  ⟨blk_new w c t, fun hf => by have := hF _ hf; omega⟩
theorem Box.cell {F : Nat → Prop} {w : World} {b : Nat} {c : Array Value} {t : TypeId} (h : Box F w b c t) {o : Nat} {v : Value} (hv : c[o]? = some v) : w.cell? ⟨b, o, none⟩ = some v := blk_cell h.blk hv
theorem Moved.alloc {F F' : Nat → Prop} {a b : World} (h : Moved F F' a b) (o : Obj) : Moved F F' a (b.alloc o) := ⟨h.keeps.alloc o, h.grow⟩
theorem Moved.below_old {F F' : Nat → Prop} {B : Nat} {w w' : World} (h : Moved F F' w w') (hF : ∀ k, F k → B ≤ k ∧ k < w.heap.size) (hB : B ≤ w.heap.size) : Below B w w' := h.keeps.below hB (fun k hk => (hF k hk).1)
end Go.Proofs.Ythjelmbicnbhiaa

namespace Go.Proofs.Ythjelmbicnbhiaa
open Go.RowKit Go.Sort

/-- A thing in memory: what holds of it, and which blocks are its own. It holds on while no block of its own is turned. -/
structure Ob where
  holds : World → (Nat → Prop) → Prop
  keeps : ∀ {w w' : World} {F G : Nat → Prop}, holds w F → Keeps G w w' → (∀ b, F b → ¬ G b) → holds w' F
  lt : ∀ {w : World} {F : Nat → Prop}, holds w F → ∀ k, F k → k < w.heap.size
/-- A block that is known whole. -/
def Ob.box (b : Nat) (c : Array Value) (t : TypeId) : Ob where
  holds w F := Blk w b c t ∧ F = (· = b)
  keeps := by rintro w w' F G ⟨h, rfl⟩ k hn; exact ⟨k.blk h (hn b rfl), rfl⟩
  lt := by rintro w F ⟨h, rfl⟩ k rfl; exact blk_lt h
/-- A row of one's own. -/
def Ob.row (B : Nat) (e : TypeId) (size : Nat) (v : Value) (n : Nat) (xs : List Value) : Ob where
  holds w F := w.ownsRow B e size v n xs ∧ F = rowF v
  keeps := by rintro w w' F G ⟨h, rfl⟩ k hn; exact ⟨owns_keeps h k hn, rfl⟩
  lt := by rintro w F ⟨h, rfl⟩ k hk; exact (h.lt k hk).2
/-- Something that hangs on no memory. -/
def Ob.none : Ob where
  holds _ F := F = fun _ => False
  keeps := fun h _ _ => h
  lt := by rintro w F rfl k h; exact h.elim

/-- All of l are there, apart from each other, in blocks that are new since W; what was there at W is as it was. -/
structure Scene (W : World) (l : List Ob) (w : World) : Prop where
  below : Below W.heap.size W w
  all : ∃ F : Nat → Nat → Prop, (∀ (i : Nat) (O : Ob), l[i]? = some O → O.holds w (F i)) ∧ (∀ (i j b : Nat), i ≠ j → F i b → ¬ F j b) ∧ ∀ (i b : Nat), F i b → W.heap.size ≤ b ∧ b < w.heap.size

namespace Scene
variable {W w w' : World} {l : List Ob}
theorem start (W : World) : Scene W [] W := ⟨Below.refl _ _, fun _ _ => False, fun i O h => by simp at h, fun _ _ _ _ h => h.elim, fun _ _ h => h.elim⟩
theorem later (h : Scene W l w) (hb : Below w.heap.size w w') : Scene W l w' := by
  obtain ⟨hbl, F, h1, h2, h3⟩ := h
  exact ⟨below_chain hbl hb, F, fun i O hi => O.keeps (h1 i O hi) (Keeps.of_below_all hb (fun _ => False)) (fun _ _ x => x), h2, fun i b hb' => ⟨(h3 i b hb').1, Nat.lt_of_lt_of_le (h3 i b hb').2 hb.size⟩⟩
theorem drew (h : Scene W l w) : Scene W l w.drew := h.later (Below.refl _ _).drew
theorem drewN (h : Scene W l w) (n : Nat) : Scene W l (w.drewN n) := h.later (below_drewN (Below.refl _ _) n)
theorem get (h : Scene W l w) {i : Nat} {O : Ob} (hi : l[i]? = some O) : ∃ F, O.holds w F := by
  obtain ⟨_, F, h1, _⟩ := h; exact ⟨F i, h1 i O hi⟩
theorem size (h : Scene W l w) : W.heap.size ≤ w.heap.size := h.below.size
/-- One thing turned into another one: the others are as they were. -/
theorem swap {F : Nat → Nat → Prop} {F' : Nat → Prop} {i : Nat} {O' : Ob} (hbl : Below W.heap.size W w) (h1 : ∀ (i : Nat) (O : Ob), l[i]? = some O → O.holds w (F i)) (h2 : ∀ (i j b : Nat), i ≠ j → F i b → ¬ F j b) (h3 : ∀ (i b : Nat), F i b → W.heap.size ≤ b ∧ b < w.heap.size)
    (hi : i < l.length) (ho : O'.holds w' F') (m : Moved (F i) F' w w') : Scene W (l.set i O') w' := by
  have hsz := m.keeps.size
  have hW := hbl.size
  refine ⟨hbl.trans (m.below_old (h3 i) hW), fun j => if j = i then F' else F j, fun j P hj => ?_, fun j k b hjk hb hb' => ?_, fun j b hb => ?_⟩
  · by_cases e : j = i
    · subst e
      rw [List.getElem?_set_self hi] at hj
      cases hj
      simpa using ho
    · rw [List.getElem?_set_ne (fun x => e x.symm)] at hj
      simp only [if_neg e]
      exact P.keeps (h1 j P hj) m.keeps (fun b hb => h2 j i b e hb)
  · simp only at hb hb'
    split at hb
    · rename_i e
      subst e
      rw [if_neg (fun x => hjk x.symm)] at hb'
      exact m.apart (fun k hk => (h3 _ k hk).2) (fun b hb hb2 => h2 _ _ b hjk hb hb2) b hb hb'
    · rename_i e
      split at hb'
      · rename_i e2
        subst e2
        exact m.apart (fun k hk => (h3 _ k hk).2) (fun b hb hb2 => h2 _ _ b (fun x => hjk x.symm) hb hb2) b hb' hb
      · exact h2 j k b hjk hb hb'
  · simp only at hb
    split at hb
    · refine ⟨?_, O'.lt ho b hb⟩
      rcases m.grow b hb with hg | hg
      · exact (h3 i b hg).1
      · omega
    · exact ⟨(h3 j b hb).1, Nat.lt_of_lt_of_le (h3 j b hb).2 hsz⟩
theorem idx {i : Nat} {O : Ob} (hi : l[i]? = some O) : i < l.length := by
  by_cases hl : i < l.length
  · exact hl
  · rw [List.getElem?_eq_none (by omega)] at hi; cases hi
theorem idx' {α : Type} {l : List α} {i : Nat} {O : α} (hi : l[i]? = some O) : i < l.length := by
  by_cases hl : i < l.length
  · exact hl
  · rw [List.getElem?_eq_none (by omega)] at hi; cases hi
theorem moved (h : Scene W l w) {i : Nat} {O O' : Ob} (hi : l[i]? = some O) (hm : ∀ F, O.holds w F → ∃ F', O'.holds w' F' ∧ Moved F F' w w') : Scene W (l.set i O') w' := by
  obtain ⟨hbl, F, h1, h2, h3⟩ := h
  obtain ⟨F', ho, m⟩ := hm (F i) (h1 i O hi)
  exact swap hbl h1 h2 h3 (idx hi) ho m
/-- Something new. -/
theorem add (h : Scene W l w) {O : Ob} {F' : Nat → Prop} (hb : Below w.heap.size w w') (ho : O.holds w' F') (hn : ∀ k, F' k → w.heap.size ≤ k) : Scene W (l ++ [O]) w' := by
  obtain ⟨hbl, F, h1, h2, h3⟩ := h
  have hW := hbl.size
  have hsz := hb.size
  refine ⟨below_chain hbl hb, fun j => if j = l.length then F' else if j < l.length then F j else fun _ => False, fun j P hj => ?_, fun j k b hjk hb1 hb2 => ?_, fun j b hb1 => ?_⟩
  · by_cases e : j = l.length
    · subst e
      simp at hj
      subst hj
      simpa using ho
    · by_cases e2 : j < l.length
      · rw [List.getElem?_append_left e2] at hj
        simp only [if_neg e, if_pos e2]
        exact P.keeps (h1 j P hj) (Keeps.of_below_all hb (fun _ => False)) (fun _ _ x => x)
      · rw [List.getElem?_eq_none (by simp; omega)] at hj; cases hj
  · simp only at hb1 hb2
    split at hb1
    · rename_i e
      rw [if_neg (by omega)] at hb2
      split at hb2
      · have := hn b hb1; have := (h3 k b hb2).2; omega
      · exact hb2
    · split at hb1
      · split at hb2
        · have := hn b hb2; have := (h3 j b hb1).2; omega
        · split at hb2
          · exact h2 j k b hjk hb1 hb2
          · exact hb2
      · exact hb1
  · simp only at hb1
    split at hb1
    · exact ⟨Nat.le_trans hW (hn b hb1), O.lt ho b hb1⟩
    · split at hb1
      · exact ⟨(h3 j b hb1).1, Nat.lt_of_lt_of_le (h3 j b hb1).2 hsz⟩
      · exact hb1.elim
theorem alloc (h : Scene W l w) (c : Array Value) (t : TypeId) : Scene W (l ++ [Ob.box w.heap.size c t]) (w.alloc (.cells c t)) :=
  h.add ((Below.refl _ _).alloc (Nat.le_refl _) _) ⟨blk_new w c t, rfl⟩ (fun _ hk => Nat.le_of_eq hk.symm)
/-- .. at a block that bears a name. -/
theorem alloc' (h : Scene W l w) (c : Array Value) (t : TypeId) {b : Nat} (hb : w.heap.size = b) : Scene W (l ++ [Ob.box b c t]) (w.alloc (.cells c t)) := by subst hb; exact h.alloc c t
theorem take (h : Scene W l w) (n : Nat) : Scene W (l.take n) w := by
  obtain ⟨hbl, F, h1, h2, h3⟩ := h
  exact ⟨hbl, F, fun i O hi => h1 i O (by rw [List.getElem?_take] at hi; split at hi; exact hi; cases hi), h2, h3⟩
/-- Some of them, in another order. -/
theorem select (h : Scene W l w) (idx : List Nat) (hd : idx.Nodup) (hr0 : (idx.all fun i => decide (i < l.length)) = true) : Scene W (idx.map fun i => l.getD i Ob.none) w := by
  have hr : ∀ i ∈ idx, i < l.length := by simpa using hr0
  obtain ⟨hbl, F, h1, h2, h3⟩ := h
  refine ⟨hbl, fun j => if j < idx.length then F (idx.getD j 0) else fun _ => False, fun j O hj => ?_, fun i j b hij hb hb' => ?_, fun j b hb => ?_⟩
  · have hl : j < idx.length := by simpa using idx' hj
    have e : idx[j]? = some (idx.getD j 0) := by simp [List.getD_eq_getElem?_getD, hl]
    rw [List.getElem?_map, e] at hj
    simp only [Option.map_some, Option.some.injEq] at hj
    have hm : idx.getD j 0 ∈ idx := List.mem_of_getElem? e
    have hlt := hr _ hm
    simp only [if_pos hl]
    refine h1 _ O ?_
    rw [← hj]
    generalize idx.getD j 0 = q at *
    simp [List.getD_eq_getElem?_getD, hlt]
  · simp only at hb hb'
    split at hb
    · rename_i hi
      split at hb'
      · rename_i hj
        refine h2 _ _ b (fun e => hij ?_) hb hb'
        simp only [List.getD_eq_getElem?_getD, List.getElem?_eq_getElem hi, List.getElem?_eq_getElem hj, Option.getD_some] at e
        exact (List.getElem_inj hd).1 e
      · exact hb'
    · exact hb
  · simp only at hb
    split at hb
    · exact h3 _ b hb
    · exact hb.elim
/-- One thing is looked upon as another one that is less. -/
theorem weaken (h : Scene W l w) {i : Nat} {O O' : Ob} (hi : l[i]? = some O) (hm : ∀ F, O.holds w F → O'.holds w F) : Scene W (l.set i O') w := h.moved hi fun F hF => ⟨F, hm F hF, Moved.refl _ _⟩
theorem blk (h : Scene W l w) (i : Nat) {b : Nat} {c : Array Value} {t : TypeId} (hi : l[i]? = some (Ob.box b c t)) : Blk w b c t := by
  obtain ⟨F, h, _⟩ := h.get hi; exact h
theorem cell (h : Scene W l w) (i : Nat) {b : Nat} {c : Array Value} {t : TypeId} (hi : l[i]? = some (Ob.box b c t)) {o : Nat} {v : Value} (hv : c[o]? = some v) : w.cell? ⟨b, o, none⟩ = some v := blk_cell (h.blk i hi) hv
theorem free (h : Scene W l w) (i : Nat) {b : Nat} {c : Array Value} {t : TypeId} (hi : l[i]? = some (Ob.box b c t)) (o : Nat) : w.frozen? ⟨b, o, none⟩ = false := blk_free (h.blk i hi) o
theorem lt (h : Scene W l w) (i : Nat) {b : Nat} {c : Array Value} {t : TypeId} (hi : l[i]? = some (Ob.box b c t)) : b < w.heap.size := blk_lt (h.blk i hi)
theorem ne (h : Scene W l w) (i j : Nat) {b b' : Nat} {c c' : Array Value} {t t' : TypeId} (hi : l[i]? = some (Ob.box b c t)) (hj : l[j]? = some (Ob.box b' c' t')) (hij : i ≠ j) : b ≠ b' := by
  obtain ⟨_, F, h1, h2, _⟩ := h
  obtain ⟨_, e1⟩ := h1 i _ hi
  obtain ⟨_, e2⟩ := h1 j _ hj
  intro e
  refine h2 i j b hij ?_ ?_
  · rw [e1]
  · rw [e2]; exact e
theorem owns (h : Scene W l w) (i : Nat) {B : Nat} {e : TypeId} {size : Nat} {v : Value} {n : Nat} {xs : List Value} (hi : l[i]? = some (Ob.row B e size v n xs)) : w.ownsRow B e size v n xs := by
  obtain ⟨F, h, _⟩ := h.get hi; exact h
/-- A row's block is no box's. -/
theorem rowNe (h : Scene W l w) (i j : Nat) {B : Nat} {e : TypeId} {size : Nat} {v : Value} {n : Nat} {xs : List Value} {b : Nat} {c : Array Value} {t : TypeId} (hi : l[i]? = some (Ob.row B e size v n xs)) (hj : l[j]? = some (Ob.box b c t)) (hij : i ≠ j) : ¬ rowF v b := by
  obtain ⟨_, F, h1, h2, _⟩ := h
  obtain ⟨_, e1⟩ := h1 i _ hi
  obtain ⟨_, e2⟩ := h1 j _ hj
  intro e
  refine h2 i j b hij ?_ ?_
  · rw [e1]; exact e
  · rw [e2]
/-- A cell of a box is written. -/
theorem store (h : Scene W l w) (i : Nat) {b : Nat} {c : Array Value} {t : TypeId} (hi : l[i]? = some (Ob.box b c t)) (o : Nat) (v : Value) : Scene W (l.set i (Ob.box b (c.setIfInBounds o v) t)) (w.setCell ⟨b, o, none⟩ v) :=
  h.moved hi fun F ⟨hb, hF⟩ => ⟨F, ⟨blk_set hb o v, hF⟩, (Keeps.refl F w).setCell ⟨b, o, none⟩ (Or.inl (by rw [hF])) v, fun _ hk => Or.inl hk⟩

variable {P : Program} {f : FuncId} {args : Array Value} {O O' : Ob} {i : Nat} {v : Value}
/-- A call on one thing, which it turns into another one. -/
theorem call (h : Scene W l w) (i : Nat) (hi : l[i]? = some O) (hc : ∀ F, O.holds w F → Calls P f args w fun e w' => e = .returned v ∧ ∃ F', O'.holds w' F' ∧ Moved F F' w w') : Calls P f args w fun e w' => e = .returned v ∧ Scene W (l.set i O') w' := by
  obtain ⟨hbl, F, h1, h2, h3⟩ := h
  exact (hc (F i) (h1 i O hi)).mono fun e w' ⟨he, F', ho, m⟩ => ⟨he, swap hbl h1 h2 h3 (idx hi) ho m⟩
/-- A call that only asks one thing. -/
theorem ask (h : Scene W l w) (i : Nat) (hi : l[i]? = some O) (hc : ∀ F, O.holds w F → Calls P f args w fun e w' => e = .returned v ∧ w = w') : Calls P f args w fun e w' => e = .returned v ∧ w = w' := by
  obtain ⟨F, ho⟩ := h.get hi; exact hc F ho
/-- .. and makes memory. -/
theorem askB (h : Scene W l w) (i : Nat) (hi : l[i]? = some O) (hc : ∀ F, O.holds w F → Calls P f args w fun e w' => e = .returned v ∧ Below w.heap.size w w') : Calls P f args w fun e w' => e = .returned v ∧ Scene W l w' := by
  obtain ⟨F, ho⟩ := h.get hi; exact (hc F ho).mono fun e w' ⟨he, hb⟩ => ⟨he, h.later hb⟩
end Scene
end Go.Proofs.Ythjelmbicnbhiaa
