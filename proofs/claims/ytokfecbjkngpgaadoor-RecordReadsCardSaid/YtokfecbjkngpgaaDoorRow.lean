/- Lists of things of some cells each, written out as cells, of no program: what stands where; one thing turned; a piece. -/
import Derived.Test.YtokfecbjkngpgaaDoorOwn
namespace Go.Proofs.YtokfecbjkngpgaaDoor
open Go.RowKit

section
variable {α : Type} (f : α → List Value) (z : Nat) (hf : ∀ a, (f a).length = z)
/-- A list as cells. -/
def cellsBy (l : List α) : List Value := l.flatMap f
theorem cellsBy_nil : cellsBy f [] = [] := rfl
theorem cellsBy_cons (a : α) (l : List α) : cellsBy f (a :: l) = f a ++ cellsBy f l := rfl
theorem cellsBy_append (a b : List α) : cellsBy f (a ++ b) = cellsBy f a ++ cellsBy f b := by simp [cellsBy]
theorem cellsBy_one (a : α) : cellsBy f [a] = f a := by simp [cellsBy]
include hf
theorem cellsBy_length (l : List α) : (cellsBy f l).length = l.length * z := by
  induction l with
  | nil => simp [cellsBy]
  | cons a r ih => rw [cellsBy_cons, List.length_append, ih, hf, List.length_cons, Nat.add_mul]; omega
theorem cellsBy_get (d : α) (l : List α) (i j : Nat) (hi : i < l.length) (hj : j < z) : (cellsBy f l)[i * z + j]? = (f (l.getD i d))[j]? := by
  induction l generalizing i with
  | nil => simp at hi
  | cons a r ih =>
    rw [cellsBy_cons]
    cases i with
    | zero => rw [Nat.zero_mul, Nat.zero_add, List.getElem?_append_left (by rw [hf]; exact hj)]; simp
    | succ i =>
      rw [List.getElem?_append_right (by rw [hf, Nat.add_mul]; omega), hf]
      have : (i + 1) * z + j - z = i * z + j := by rw [Nat.add_mul]; omega
      rw [this, ih i (by simpa using hi), List.getD_cons_succ]
theorem cellsBy_take (l : List α) (k : Nat) : (cellsBy f l).take (k * z) = cellsBy f (l.take k) := by
  induction l generalizing k with
  | nil => simp [cellsBy]
  | cons a r ih =>
    cases k with
    | zero => simp [cellsBy]
    | succ k =>
      have e : (k + 1) * z = (f a).length + k * z := by rw [hf, Nat.add_mul]; omega
      rw [cellsBy_cons, List.take_succ_cons, cellsBy_cons, e, List.take_length_add_append, ih]
theorem cellsBy_drop (l : List α) (k : Nat) : (cellsBy f l).drop (k * z) = cellsBy f (l.drop k) := by
  induction l generalizing k with
  | nil => simp [cellsBy]
  | cons a r ih =>
    cases k with
    | zero => simp [cellsBy]
    | succ k =>
      have e : (k + 1) * z = (f a).length + k * z := by rw [hf, Nat.add_mul]; omega
      rw [cellsBy_cons, List.drop_succ_cons, e, List.drop_length_add_append, ih]
/-- One cell of one thing turned: the thing turned. -/
theorem cellsBy_set (d : α) (l : List α) (i j : Nat) (u : Value) (a' : α) (hi : i < l.length) (hj : j < z) (ha : f a' = (f (l.getD i d)).set j u) : (cellsBy f l).set (i * z + j) u = cellsBy f (l.set i a') := by
  induction l generalizing i with
  | nil => simp at hi
  | cons a r ih =>
    rw [cellsBy_cons]
    cases i with
    | zero =>
      simp only [List.getD_cons_zero] at ha
      rw [Nat.zero_mul, Nat.zero_add, List.set_append_left _ _ (by rw [hf]; exact hj), List.set_cons_zero, cellsBy_cons, ha]
    | succ i =>
      have e : (i + 1) * z + j - z = i * z + j := by rw [Nat.add_mul]; omega
      rw [List.set_append_right _ _ (by rw [hf, Nat.add_mul]; omega), hf, e, List.set_cons_succ, cellsBy_cons, ih i (by simpa using hi) (by simpa using ha)]
end
/-- What one more gives. -/
theorem take_snocD {α : Type} (d : α) (l : List α) (k : Nat) (h : k < l.length) : l.take (k + 1) = l.take k ++ [l.getD k d] := by
  rw [List.take_succ_eq_append_getElem h]; simp [List.getD_eq_getElem?_getD, h]
theorem drop_consD {α : Type} (d : α) (l : List α) (k : Nat) (h : k < l.length) : l.drop k = l.getD k d :: l.drop (k + 1) := by
  rw [List.drop_eq_getElem_cons h]; simp [List.getD_eq_getElem?_getD, h]
theorem mem_getD' {α : Type} (l : List α) (i : Nat) (d : α) (h : i < l.length) : l.getD i d ∈ l := by
  simp [List.getD_eq_getElem?_getD, h]
theorem getD_set' {α : Type} (l : List α) (i j : Nat) (x d : α) (hi : i < l.length) : (l.set i x).getD j d = if i = j then x else l.getD j d := by
  simp only [List.getD_eq_getElem?_getD, List.getElem?_set]
  by_cases h : i = j
  · subst h; simp [hi]
  · simp [h]
theorem getD_snoc' {α : Type} (l : List α) (j : Nat) (x d : α) : (l ++ [x]).getD j d = if j = l.length then x else l.getD j d := by
  simp only [List.getD_eq_getElem?_getD, List.getElem?_append]
  by_cases h : j < l.length
  · simp [h]; omega
  · by_cases h2 : j = l.length
    · subst h2; simp
    · have h3 : l.length < j := by omega
      simp only [h, if_false, h2]
      rw [List.getElem?_eq_none (by simp; omega), List.getElem?_eq_none (by omega)]
/-- A row that isn't empty: its block, and each cell of each thing. -/
theorem owns_at {α : Type} {f : α → List Value} {z : Nat} (hf : ∀ a, (f a).length = z) (d : α) {w : World} {base : Nat} {e : TypeId} {v : Value} {n : Nat} {l : List α} (h : w.ownsRow base e z v n (cellsBy f l)) (hl : l.length = n) (hn : 0 < n) :
    ∃ g cap, v = .slice (some ⟨g, 0, none⟩) n cap ∧ n ≤ cap ∧ cap ≤ maxLen ∧ base ≤ g ∧ g < w.heap.size ∧ (∀ i j u, i < n → j < z → (f (l.getD i d))[j]? = some u → w.cell? ⟨g, i * z + j, none⟩ = some u) ∧ ∀ o, w.frozen? ⟨g, o, none⟩ = false := by
  obtain ⟨g, cap, hv, h1, h2, h3, h4, hc⟩ := owns_slice h hn
  subst hv
  exact ⟨g, cap, rfl, h1, h2, h3, h4, fun i j u hi hj hu => hc _ _ (by rw [cellsBy_get f z hf d l i j (by omega) hj]; exact hu), fun o => h.frozenAt o⟩
/-- One cell of an owned row is written. -/
theorem owns_write {α : Type} {f : α → List Value} {z : Nat} (hf : ∀ a, (f a).length = z) (d : α) {w : World} {base : Nat} {e : TypeId} {g n cap : Nat} {l : List α} (h : w.ownsRow base e z (.slice (some ⟨g, 0, none⟩) n cap) n (cellsBy f l)) (hl : l.length = n) {i j : Nat} {u : Value} {a' : α} (hi : i < n) (hj : j < z)
    (ha : f a' = (f (l.getD i d)).set j u) : (w.setCell ⟨g, i * z + j, none⟩ u).ownsRow base e z (.slice (some ⟨g, 0, none⟩) n cap) n (cellsBy f (l.set i a')) := by
  have := (h.stored (i * z + j) u).1
  rw [cellsBy_set f z hf d l i j u a' (by omega) hj ha] at this
  exact this
end Go.Proofs.YtokfecbjkngpgaaDoor
