/- Merged of Own, Row, SpineRowMath, Box. -/
import Derived.Test.YtehoejoeoaimjaaLaw
import Derived.Laws.OwnMore
import Derived.WalkSmall
import Derived.Test.YtehoejoeoaimjaaTrMath
namespace Go.Proofs.Ytehoejoeoaimjaa
open Go.RowKit Go.Sort

/-- A call on an object whose blocks are F: nothing else that was there has turned; its blocks are now F', old ones of its own or new. -/
structure Moved (F F' : Nat → Prop) (w w' : World) : Prop where
  keeps : Keeps F w w'
  grow : ∀ k, F' k → F k ∨ w.heap.size ≤ k
theorem Moved.refl (F : Nat → Prop) (w : World) : Moved F F w w := ⟨Keeps.refl _ _, fun _ h => Or.inl h⟩
theorem Moved.trans {F G H : Nat → Prop} {a b c : World} (h : Moved F G a b) (k : Moved G H b c) : Moved F H a c :=
  ⟨h.keeps.trans k.keeps (fun i hi hg => by rcases h.grow i hg with h1 | h1; exact h1; omega),
   fun i hi => by
    rcases k.grow i hi with h1 | h1
    · exact h.grow i h1
    · exact Or.inr (Nat.le_trans h.keeps.size h1)⟩
theorem Moved.of_below {F : Nat → Prop} {a b : World} (h : Below a.heap.size a b) : Moved F F a b := ⟨Keeps.of_below_all h F, fun _ h => Or.inl h⟩
/-- What lies below all of an object's blocks is as it was. -/
theorem Moved.below {F F' : Nat → Prop} {w w' : World} (h : Moved F F' w w') {B : Nat} (hB : B ≤ w.heap.size) (hF : ∀ k, F k → B ≤ k) : Below B w w' := h.keeps.below hB hF
/-- Two objects that share no block share none behind a call on one of them. -/
theorem Moved.apart {F F' G : Nat → Prop} {w w' : World} (h : Moved F F' w w') (hG : ∀ k, G k → k < w.heap.size) (hd : ∀ k, F k → ¬ G k) : ∀ k, F' k → ¬ G k := by
  intro k hk hg
  rcases h.grow k hk with h1 | h1
  · exact hd k h1 hg
  · have := hG k hg; omega

/-- The blocks of a row. -/
def rowF (v : Value) : Nat → Prop := fun k => v.ownBlock = some k
/-- An owned row under a call that has turned other blocks alone. -/
theorem owns_keeps {F : Nat → Prop} {w w' : World} {base : Nat} {e : TypeId} {size : Nat} {v : Value} {n : Nat} {xs : List Value} (h : w.ownsRow base e size v n xs) (k : Keeps F w w') (hn : ∀ b, rowF v b → ¬ F b) : w'.ownsRow base e size v n xs := owns_keep h k hn
theorem owns_same {w w' : World} (hh : w'.heap = w.heap) {base : Nat} {e : TypeId} {size : Nat} {v : Value} {n : Nat} {xs : List Value} (h : w.ownsRow base e size v n xs) : w'.ownsRow base e size v n xs := by
  unfold World.ownsRow at *; rw [hh]; exact h
theorem owns_set_other {w : World} {base : Nat} {e : TypeId} {size : Nat} {v : Value} {n : Nat} {xs : List Value} (h : w.ownsRow base e size v n xs) {a : Addr} (ha : v.ownBlock ≠ some a.block) (u : Value) : (w.setCell a u).ownsRow base e size v n xs :=
  owns_keep h (Keeps.setCell (Keeps.refl (· = a.block) w) a (Or.inl rfl) u) (fun b hb e => ha (by rw [hb, e]))
/-- A row's value is a slice of that length. -/
theorem owns_form {w : World} {base : Nat} {e : TypeId} {size : Nat} {v : Value} {n : Nat} {xs : List Value} (h : w.ownsRow base e size v n xs) : ∃ a cap, v = .slice a n cap ∧ n ≤ cap ∧ cap ≤ maxLen := by
  obtain ⟨_, ⟨rfl, rfl⟩ | ⟨g, cap, cur, hv, hg, hh, hle, hmax, _⟩⟩ := h
  · exact ⟨none, 0, rfl, Nat.le_refl _, by decide⟩
  · exact ⟨_, cap, hv, hle, hmax⟩
theorem grown_keeps {w w' : World} {v : Value} (h : w.grownBy w' v.ownBlock) : Keeps (rowF v) w w' := ⟨h.os, h.tape, h.output, h.size, fun k hk hn => h.block k hk (fun e => hn e.symm)⟩
theorem new_cells' (w : World) (c : Array Value) (t : TypeId) (news : List Value) (H : Nat) (hH : w.heap.size = H) (h : news = c.toList) : ∀ j u, news[j]? = some u → (w.alloc (.cells c t)).cell? ((⟨H, 0, none⟩ : Addr).add j) = some u := by
  subst hH; exact new_cells w c t news h
theorem size_alloc (w : World) (o : Obj) : (w.alloc o).heap.size = w.heap.size + 1 := by show (w.heap.push _).size = _; simp
end Go.Proofs.Ytehoejoeoaimjaa

namespace Go.Proofs.Ytehoejoeoaimjaa
open Go.RowKit

section
variable {α : Type} (f : α → List Value) (z : Nat) (hf : ∀ a, (f a).length = z)
/-- A list as cells. -/
def cellsBy (l : List α) : List Value := l.flatMap f
theorem cellsBy_nil : cellsBy f [] = [] := rfl
theorem cellsBy_cons (a : α) (l : List α) : cellsBy f (a :: l) = f a ++ cellsBy f l := rfl
theorem cellsBy_append (a b : List α) : cellsBy f (a ++ b) = cellsBy f a ++ cellsBy f b := by simp [cellsBy]
theorem cellsBy_one (a : α) : cellsBy f [a] = f a := by simp [cellsBy]
include hf
theorem cellsBy_length (l : List α) : (cellsBy f l).length = l.length * z := by
  induction l with
  | nil => simp [cellsBy]
  | cons a r ih => rw [cellsBy_cons, List.length_append, ih, hf, List.length_cons, Nat.add_mul]; omega
theorem cellsBy_get (d : α) (l : List α) (i j : Nat) (hi : i < l.length) (hj : j < z) : (cellsBy f l)[i * z + j]? = (f (l.getD i d))[j]? := by
  induction l generalizing i with
  | nil => simp at hi
  | cons a r ih =>
    rw [cellsBy_cons]
    cases i with
    | zero => rw [Nat.zero_mul, Nat.zero_add, List.getElem?_append_left (by rw [hf]; exact hj)]; simp
    | succ i =>
      rw [List.getElem?_append_right (by rw [hf, Nat.add_mul]; omega), hf]
      have : (i + 1) * z + j - z = i * z + j := by rw [Nat.add_mul]; omega
      rw [this, ih i (by simpa using hi), List.getD_cons_succ]
theorem cellsBy_take (l : List α) (k : Nat) : (cellsBy f l).take (k * z) = cellsBy f (l.take k) := by
  induction l generalizing k with
  | nil => simp [cellsBy]
  | cons a r ih =>
    cases k with
    | zero => simp [cellsBy]
    | succ k =>
      have e : (k + 1) * z = (f a).length + k * z := by rw [hf, Nat.add_mul]; omega
      rw [cellsBy_cons, List.take_succ_cons, cellsBy_cons, e, List.take_length_add_append, ih]
theorem cellsBy_drop (l : List α) (k : Nat) : (cellsBy f l).drop (k * z) = cellsBy f (l.drop k) := by
  induction l generalizing k with
  | nil => simp [cellsBy]
  | cons a r ih =>
    cases k with
    | zero => simp [cellsBy]
    | succ k =>
      have e : (k + 1) * z = (f a).length + k * z := by rw [hf, Nat.add_mul]; omega
      rw [cellsBy_cons, List.drop_succ_cons, e, List.drop_length_add_append, ih]
/-- One cell of one thing turned: the thing turned. -/
theorem cellsBy_set (d : α) (l : List α) (i j : Nat) (u : Value) (a' : α) (hi : i < l.length) (hj : j < z) (ha : f a' = (f (l.getD i d)).set j u) : (cellsBy f l).set (i * z + j) u = cellsBy f (l.set i a') := by
  induction l generalizing i with
  | nil => simp at hi
  | cons a r ih =>
    rw [cellsBy_cons]
    cases i with
    | zero =>
      simp only [List.getD_cons_zero] at ha
      rw [Nat.zero_mul, Nat.zero_add, List.set_append_left _ _ (by rw [hf]; exact hj), List.set_cons_zero, cellsBy_cons, ha]
    | succ i =>
      have e : (i + 1) * z + j - z = i * z + j := by rw [Nat.add_mul]; omega
      rw [List.set_append_right _ _ (by rw [hf, Nat.add_mul]; omega), hf, e, List.set_cons_succ, cellsBy_cons, ih i (by simpa using hi) (by simpa using ha)]
end
/-- What one more gives. -/
theorem take_snocD {α : Type} (d : α) (l : List α) (k : Nat) (h : k < l.length) : l.take (k + 1) = l.take k ++ [l.getD k d] := by
  rw [List.take_succ_eq_append_getElem h]; simp [List.getD_eq_getElem?_getD, h]
theorem drop_consD {α : Type} (d : α) (l : List α) (k : Nat) (h : k < l.length) : l.drop k = l.getD k d :: l.drop (k + 1) := by
  rw [List.drop_eq_getElem_cons h]; simp [List.getD_eq_getElem?_getD, h]
theorem mem_getD' {α : Type} (l : List α) (i : Nat) (d : α) (h : i < l.length) : l.getD i d ∈ l := by
  simp [List.getD_eq_getElem?_getD, h]
theorem getD_set' {α : Type} (l : List α) (i j : Nat) (x d : α) (hi : i < l.length) : (l.set i x).getD j d = if i = j then x else l.getD j d := by
  simp only [List.getD_eq_getElem?_getD, List.getElem?_set]
  by_cases h : i = j
  · subst h; simp [hi]
  · simp [h]
theorem getD_snoc' {α : Type} (l : List α) (j : Nat) (x d : α) : (l ++ [x]).getD j d = if j = l.length then x else l.getD j d := by
  simp only [List.getD_eq_getElem?_getD, List.getElem?_append]
  by_cases h : j < l.length
  · simp [h]; omega
  · by_cases h2 : j = l.length
    · subst h2; simp
    · have h3 : l.length < j := by omega
      simp only [h, if_false, h2]
      rw [List.getElem?_eq_none (by simp; omega), List.getElem?_eq_none (by omega)]
/-- A row that isn't empty: its block, and each cell of each thing. -/
theorem owns_at {α : Type} {f : α → List Value} {z : Nat} (hf : ∀ a, (f a).length = z) (d : α) {w : World} {base : Nat} {e : TypeId} {v : Value} {n : Nat} {l : List α} (h : w.ownsRow base e z v n (cellsBy f l)) (hl : l.length = n) (hn : 0 < n) :
    ∃ g cap, v = .slice (some ⟨g, 0, none⟩) n cap ∧ n ≤ cap ∧ cap ≤ maxLen ∧ base ≤ g ∧ g < w.heap.size ∧ (∀ i j u, i < n → j < z → (f (l.getD i d))[j]? = some u → w.cell? ⟨g, i * z + j, none⟩ = some u) ∧ ∀ o, w.frozen? ⟨g, o, none⟩ = false := by
  obtain ⟨g, cap, hv, h1, h2, h3, h4, hc⟩ := owns_slice h hn
  subst hv
  exact ⟨g, cap, rfl, h1, h2, h3, h4, fun i j u hi hj hu => hc _ _ (by rw [cellsBy_get f z hf d l i j (by omega) hj]; exact hu), fun o => h.frozenAt o⟩
/-- One cell of an owned row is written. -/
theorem owns_write {α : Type} {f : α → List Value} {z : Nat} (hf : ∀ a, (f a).length = z) (d : α) {w : World} {base : Nat} {e : TypeId} {g n cap : Nat} {l : List α} (h : w.ownsRow base e z (.slice (some ⟨g, 0, none⟩) n cap) n (cellsBy f l)) (hl : l.length = n) {i j : Nat} {u : Value} {a' : α} (hi : i < n) (hj : j < z)
    (ha : f a' = (f (l.getD i d)).set j u) : (w.setCell ⟨g, i * z + j, none⟩ u).ownsRow base e z (.slice (some ⟨g, 0, none⟩) n cap) n (cellsBy f (l.set i a')) := by
  have := (h.stored (i * z + j) u).1
  rw [cellsBy_set f z hf d l i j u a' (by omega) hj ha] at this
  exact this
end Go.Proofs.Ytehoejoeoaimjaa

namespace Go.Proofs.Ytehoejoeoaimjaa
open Go.RowKit

/-- What is next to a thing: above it, at its left, at its right; -1 is nothing. -/
structure Th where
  up : Int
  l : Int
  r : Int
def thC (t : Th) : List Value := [.int .i64 t.up, .int .i64 t.l, .int .i64 t.r]
theorem thC_len (t : Th) : (thC t).length = 3 := rfl
def Th.no : Th := ⟨-1, -1, -1⟩
def oI (o : Option Int) : Int := o.getD (-1)
def thOf (L : List Hg) (x : Int) : Th := ⟨oI (upL L x), oI (kidL L x false), oI (kidL L x true)⟩
def rawOf (n : Nat) (L : List Hg) : List Th := (List.range n).map fun i : Nat => thOf L i
theorem raw_len (n : Nat) (L : List Hg) : (rawOf n L).length = n := by simp [rawOf]
theorem raw_at {n : Nat} (L : List Hg) {i : Nat} (h : i < n) (d : Th) : (rawOf n L).getD i d = thOf L i := by
  simp [rawOf, List.getD_eq_getElem?_getD, h]
theorem th_ext {a b : List Th} {n : Nat} (ha : a.length = n) (hb : b.length = n) (h : ∀ i, i < n → a.getD i .no = b.getD i .no) : a = b := by
  apply List.ext_getElem (ha.trans hb.symm)
  intro i h1 h2
  have := h i (by omega)
  simpa [List.getD_eq_getElem?_getD, h1, h2] using this
theorem raw_new (n : Nat) : rawOf n [] = List.replicate n .no := by
  refine th_ext (raw_len _ _) (by simp) (fun i hi => ?_)
  rw [raw_at _ hi]
  simp [List.getD_eq_getElem?_getD, hi, thOf, upL, kidL, oI, Th.no]
/-- Another child on a side. -/
def Th.kid (t : Th) (s : Bool) (x : Int) : Th := if s then ⟨t.up, t.l, x⟩ else ⟨t.up, x, t.r⟩
theorem thC_up (t : Th) (x : Int) : thC ⟨x, t.l, t.r⟩ = (thC t).set 0 (.int .i64 x) := rfl
theorem thC_kid (t : Th) (s : Bool) (x : Int) : thC (t.kid s x) = (thC t).set (1 + s.toNat) (.int .i64 x) := by cases s <;> rfl
theorem th_set_up (l : List Th) (i : Nat) (hi : i < l.length) (x : Int) : (cellsBy thC l).set (i * 3) (.int .i64 x) = cellsBy thC (l.set i ⟨x, (l.getD i .no).l, (l.getD i .no).r⟩) := by
  have := cellsBy_set thC 3 thC_len .no l i 0 (.int .i64 x) _ hi (by omega) (thC_up _ x)
  rwa [Nat.add_zero] at this
theorem th_set_kid (l : List Th) (i : Nat) (hi : i < l.length) (s : Bool) (x : Int) : (cellsBy thC l).set (i * 3 + (1 + s.toNat)) (.int .i64 x) = cellsBy thC (l.set i ((l.getD i .no).kid s x)) :=
  cellsBy_set thC 3 thC_len .no l i (1 + s.toNat) (.int .i64 x) _ hi (by cases s <;> simp) (thC_kid _ s x)
section
variable {n : Nat} {L : List Hg}
theorem up_in (I : GInv n L) {x p : Int} (h : upL L x = some p) : inN n x ∧ inN n p := by
  obtain ⟨g, hg, rfl, rfl⟩ := upL_some h
  exact ⟨(I.rng g hg).2, (I.rng g hg).1⟩
theorem up_out (I : GInv n L) {x : Int} (h : ¬ inN n x) : upL L x = none := by
  cases e : upL L x with
  | none => rfl
  | some p => exact absurd (up_in I e).1 h
theorem kid_out (I : GInv n L) {x : Int} (r : Bool) (h : ¬ inN n x) : kidL L x r = none := by
  cases e : kidL L x r with
  | none => rfl
  | some p => exact absurd (kid_in I e).2 h
theorem oI_none {o : Option Int} (h : ∀ y, o = some y → inN n y) : oI o = -1 ↔ o = none := by
  cases o with
  | none => simp [oI]
  | some y => have := h y rfl; unfold inN at this; simp [oI]; omega
theorem oI_some {o : Option Int} {x : Int} (hx : inN n x) : oI o = x ↔ o = some x := by
  unfold inN at hx
  cases o with
  | none => simp [oI]; omega
  | some y => simp [oI]
/-- Hung. -/
theorem raw_hang {p x : Nat} {s : Bool} (hp : p < n) (hx : x < n) (hne : p ≠ x) (hu : upL L x = none) (hk : kidL L p s = none) :
    ((rawOf n L).set p ((thOf L p).kid s x)).set x ⟨p, (thOf L x).l, (thOf L x).r⟩ = rawOf n (L ++ [⟨p, x, s⟩]) := by
  refine th_ext (by simp [raw_len]) (raw_len _ _) (fun i hi => ?_)
  rw [getD_set' _ _ _ _ _ (by rw [List.length_set, raw_len]; exact hx), getD_set' _ _ _ _ _ (by rw [raw_len]; exact hp), raw_at _ hi, raw_at _ hi]
  have e1 : ∀ y, upL (L ++ [⟨p, x, s⟩]) y = (upL L y).or (if (x : Int) = y then some (p : Int) else none) := up_append L ⟨p, x, s⟩
  have e2 : ∀ q r, kidL (L ++ [⟨p, x, s⟩]) q r = (kidL L q r).or (if (p : Int) = q ∧ s = r then some (x : Int) else none) := kid_append L ⟨p, x, s⟩
  unfold thOf
  rw [e1, e2, e2]
  by_cases h1 : x = i
  · subst h1
    have h2 : (p : Int) ≠ x := by omega
    simp [hu, h2, oI]
  · have h1' : (x : Int) ≠ i := by omega
    by_cases h3 : p = i
    · subst h3
      cases s <;> simp [h1, h1', hk, oI, Th.kid]
    · have h3' : (p : Int) ≠ i := by omega
      simp [h1, h1', h3, h3']
/-- Cut: each side of the one above on which it is, and its way up. -/
theorem raw_cut (I : GInv n L) {p x : Nat} (hp : p < n) (hx : x < n) (hne : p ≠ x) (hu : upL L x = some (p : Int)) :
    ((rawOf n L).set p ⟨oI (upL L p), (if kidL L p false = some (x : Int) then -1 else oI (kidL L p false)), (if kidL L p true = some (x : Int) then -1 else oI (kidL L p true))⟩).set x ⟨-1, oI (kidL L x false), oI (kidL L x true)⟩ = rawOf n (cutL L x) := by
  refine th_ext (by simp [raw_len]) (raw_len _ _) (fun i hi => ?_)
  rw [getD_set' _ _ _ _ _ (by rw [List.length_set, raw_len]; exact hx), getD_set' _ _ _ _ _ (by rw [raw_len]; exact hp), raw_at _ hi, raw_at _ hi]
  unfold thOf
  have hk : ∀ q r, kidL L q r = some (x : Int) → q = (p : Int) := fun q r h => by
    have := I.up_kid.2 ⟨r, h⟩
    rw [hu] at this; injection this with this; exact this.symm
  rw [up_cut, kid_cut I, kid_cut I]
  by_cases h1 : x = i
  · subst h1
    have h2 : ∀ r, kidL L x r ≠ some (x : Int) := fun r h => hne (by have := hk _ _ h; omega)
    simp [h2, oI]
  · have h1' : (i : Int) ≠ x := by omega
    by_cases h3 : p = i
    · subst h3
      by_cases h4 : kidL L p false = some (x : Int) <;> by_cases h5 : kidL L p true = some (x : Int) <;> simp [h1, h1', h4, h5, oI]
    · have h2 : ∀ r, kidL L i r ≠ some (x : Int) := fun r h => h3 (by have := hk _ _ h; omega)
      simp [h1, h1', h3, h2]
theorem cut_same (_I : GInv n L) {x : Int} (hu : upL L x = none) : cutL L x = L := by
  unfold cutL
  rw [List.filter_eq_self]
  intro g hg
  have := upL_none.1 hu g hg
  simpa using this
/-- Turned. -/
theorem raw_turn (L : List Hg) {p : Nat} (hp : p < n) :
    (rawOf n L).set p ⟨oI (upL L p), oI (kidL L p true), oI (kidL L p false)⟩ = rawOf n (turnL L p) := by
  refine th_ext (by simp [raw_len]) (raw_len _ _) (fun i hi => ?_)
  rw [getD_set' _ _ _ _ _ (by rw [raw_len]; exact hp), raw_at _ hi, raw_at _ hi]
  unfold thOf
  rw [up_turn, kid_turn, kid_turn]
  by_cases h3 : p = i
  · subst h3; simp
  · have h3' : (i : Int) ≠ p := by omega
    simp [h3, h3']
theorem turn_same (I : GInv n L) {p : Int} (hp : ¬ inN n p) : turnL L p = L := by
  unfold turnL
  conv => rhs; rw [← List.map_id L]
  apply List.map_congr_left
  intro g hg
  have : (g.p == p) = false := by
    rw [beq_eq_false_iff_ne]
    rintro rfl
    exact hp (I.rng g hg).1
  rw [this]; rfl
end
end Go.Proofs.Ytehoejoeoaimjaa

namespace Go.Proofs.Ytehoejoeoaimjaa
open Go.RowKit Go.Sort

/-- A block that is known whole and is none of an object's. -/
structure Box (F : Nat → Prop) (w : World) (b : Nat) (c : Array Value) (t : TypeId) : Prop where
  blk : Blk w b c t
  off : ¬ F b
theorem Box.moved {F F' : Nat → Prop} {w w' : World} {b : Nat} {c : Array Value} {t : TypeId} (h : Box F w b c t) (m : Moved F F' w w') : Box F' w' b c t :=
  ⟨m.keeps.blk h.blk h.off, fun hf => by
    rcases m.grow b hf with h1 | h1
    · exact h.off h1
    · have := blk_lt h.blk; omega⟩
theorem Box.later {F : Nat → Prop} {w w' : World} {b : Nat} {c : Array Value} {t : TypeId} (h : Box F w b c t) (hb : Below w.heap.size w w') : Box F w' b c t := ⟨later_blk hb h.blk, h.off⟩
theorem Box.alloc {F : Nat → Prop} {w : World} {b : Nat} {c : Array Value} {t : TypeId} (h : Box F w b c t) (o : Obj) : Box F (w.alloc o) b c t := ⟨blk_alloc h.blk o, h.off⟩
theorem Box.new {F : Nat → Prop} {w : World} (hF : ∀ k, F k → k < w.heap.size) (c : Array Value) (t : TypeId) : Box F (w.alloc (.cells c t)) w.heap.size c t :=
  ⟨blk_new w c t, fun hf => by have := hF _ hf; omega⟩
theorem Box.cell {F : Nat → Prop} {w : World} {b : Nat} {c : Array Value} {t : TypeId} (h : Box F w b c t) {o : Nat} {v : Value} (hv : c[o]? = some v) : w.cell? ⟨b, o, none⟩ = some v := blk_cell h.blk hv
theorem Moved.alloc {F F' : Nat → Prop} {a b : World} (h : Moved F F' a b) (o : Obj) : Moved F F' a (b.alloc o) := ⟨h.keeps.alloc o, h.grow⟩
theorem Moved.below_old {F F' : Nat → Prop} {B : Nat} {w w' : World} (h : Moved F F' w w') (hF : ∀ k, F k → B ≤ k ∧ k < w.heap.size) (hB : B ≤ w.heap.size) : Below B w w' := h.keeps.below hB (fun k hk => (hF k hk).1)
end Go.Proofs.Ytehoejoeoaimjaa
