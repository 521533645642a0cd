/- The document's rings in memory: a row of rows, nobody writes them; what its functions return that only look: place, All. -/
import Derived.Test.YtfngooaobjafjaaIntsIn
import Derived.Test.YtfngooaobjafjaaRingTwiceMath
import Derived.Deep.RegionHeld3
namespace Go.Proofs.Ytfngooaobjafjaa
open Go.RowKit Go.Sort

/-- A row of rows: each row by its value, and what it reads as. -/
structure RowsAre (w : World) (F : Nat → Prop) (Z : List (Value × List Int)) (R : List (List Int)) : Prop where
  all : R = Z.map Prod.snd
  read : ∀ p ∈ Z, IntsIn w F p.1 p.2
/-- v is the document's rings R. -/
def DocL (w : World) (F : Nat → Prop) (v : Value) (R : List (List Int)) : Prop :=
  ∃ Z, RowsAre w F Z R ∧ ((v = .slice none 0 0 ∧ Z = []) ∨ ∃ g c, v = .slice (some ⟨g, 0, none⟩) Z.length c ∧ Z.length ≤ c ∧ c ≤ 9223372036854775807 ∧ F g ∧ ∀ i, i < Z.length → w.cell? ⟨g, i, none⟩ = some (Z.getD i (.slice none 0 0, [])).1)
theorem RowsAre.mono {w : World} {F G : Nat → Prop} {Z : List (Value × List Int)} {R : List (List Int)} (H : RowsAre w F Z R) (hG : ∀ b, F b → G b) : RowsAre w G Z R := ⟨H.all, fun p hp => (H.read p hp).mono hG⟩
theorem RowsAre.later {w w' : World} {F : Nat → Prop} {Z : List (Value × List Int)} {R : List (List Int)} (H : RowsAre w F Z R) (hb : Below w.heap.size w w') : RowsAre w' F Z R := ⟨H.all, fun p hp => (H.read p hp).later hb⟩
theorem DocL.keeps {w w' : World} {F G : Nat → Prop} {v : Value} {R : List (List Int)} (H : DocL w F v R) (k : Keeps G w w') (hn : ∀ b, F b → ¬ G b) : DocL w' F v R := by
  obtain ⟨Z, h1, h2⟩ := H
  refine ⟨Z, ⟨h1.all, fun p hp => (h1.read p hp).keeps k hn⟩, ?_⟩
  rcases h2 with h2 | ⟨g, c, h2, h3, h4, h5, h6⟩
  · exact Or.inl h2
  · exact Or.inr ⟨g, c, h2, h3, h4, h5, fun i hi => k.cell (h6 i hi) (hn g h5)⟩
theorem DocL.later {w w' : World} {F : Nat → Prop} {v : Value} {R : List (List Int)} (H : DocL w F v R) (hb : Below w.heap.size w w') : DocL w' F v R := H.keeps (Keeps.of_below_all hb (fun _ => False)) (fun _ _ x => x)
def Ob.docL (v : Value) (R : List (List Int)) : Ob where
  holds w F := (∀ b, F b → b < w.heap.size) ∧ DocL w F v R
  keeps := by rintro w w' F G ⟨h0, h⟩ k hn; exact ⟨fun b hb => Nat.lt_of_lt_of_le (h0 b hb) k.size, h.keeps k hn⟩
  lt := fun h => h.1
theorem DocL.form {w : World} {F : Nat → Prop} {v : Value} {R : List (List Int)} (H : DocL w F v R) : ∃ a c, v = .slice a R.length c ∧ R.length ≤ c ∧ c ≤ 9223372036854775807 := by
  obtain ⟨Z, h1, ⟨h2, h3⟩ | ⟨g, c, h2, h3, h4, h5, h6⟩⟩ := H
  · rw [h1.all, h3]; exact ⟨none, 0, h2, Nat.le_refl _, by omega⟩
  · rw [h1.all, List.length_map]; exact ⟨_, c, h2, h3, h4⟩
theorem DocL.at' {w : World} {F : Nat → Prop} {v : Value} {R : List (List Int)} (H : DocL w F v R) {i : Nat} (hi : i < R.length) : ∃ g c u, v = .slice (some ⟨g, 0, none⟩) R.length c ∧ w.cell? ⟨g, i, none⟩ = some u ∧ IntsIn w F u (R.getD i []) := by
  obtain ⟨Z, h1, ⟨h2, h3⟩ | ⟨g, c, h2, h3, h4, h5, h6⟩⟩ := H
  · rw [h1.all, h3] at hi; simp at hi
  · have hl : R.length = Z.length := by rw [h1.all, List.length_map]
    have hz : i < Z.length := by omega
    refine ⟨g, c, _, by rw [hl]; exact h2, h6 i hz, ?_⟩
    have e : R.getD i [] = (Z.getD i (.slice none 0 0, [])).2 := by
      rw [h1.all]; simp [List.getD_eq_getElem?_getD, hz]
    rw [e]
    refine h1.read _ ?_
    simp [List.getD_eq_getElem?_getD, hz]
section
variable {w : World} {F : Nat → Prop} {v : Value} {R : List (List Int)}
theorem IntsIn.drop {u : Value} {l : List Int} (H : IntsIn w F u l) {i : Nat} (hi : i < l.length) : ∃ g o c, u = .slice (some ⟨g, o, none⟩) l.length c ∧ l.length ≤ c ∧ c ≤ 9223372036854775807 ∧ (∀ j, j < l.length → w.cell? ⟨g, o + j, none⟩ = some (.int .i64 (l.getD j 0))) ∧
    RowReads w 1 (.slice (some ⟨g, o + i, none⟩) (l.length - i) (c - i)) (l.length - i) (cellsBy intC (l.drop i)) ∧ RowReads w 1 (.slice (some ⟨g, o, none⟩) i c) i (cellsBy intC (l.take i)) := by
  rcases H with ⟨_, h2⟩ | ⟨g, o, c, h1, h2, h3, h4, h5⟩
  · subst h2; simp at hi
  · refine ⟨g, o, c, h1, h2, h3, h5, ⟨by rw [cellsBy_length intC 1 intC_len, List.length_drop, Nat.mul_one], Or.inr ⟨_, _, rfl, fun j x hj => ?_⟩⟩, ⟨by rw [cellsBy_length intC 1 intC_len, List.length_take, Nat.mul_one]; omega, Or.inr ⟨_, _, rfl, fun j x hj => ?_⟩⟩⟩
    · have hjl : j < (l.drop i).length := by
        have := (List.getElem?_eq_some_iff.1 hj).1
        rwa [cellsBy_length intC 1 intC_len, Nat.mul_one] at this
      have h6 := cellsBy_get intC 1 intC_len 0 (l.drop i) j 0 hjl (by omega)
      rw [Nat.mul_one, Nat.add_zero] at h6
      rw [h6] at hj
      rw [List.length_drop] at hjl
      rw [add_at, Nat.add_assoc, h5 (i + j) (by omega)]
      have e : (l.drop i).getD j 0 = l.getD (i + j) 0 := by simp [List.getD_eq_getElem?_getD]
      rw [e] at hj
      exact hj
    · have hjl : j < (l.take i).length := by
        have := (List.getElem?_eq_some_iff.1 hj).1
        rwa [cellsBy_length intC 1 intC_len, Nat.mul_one] at this
      have h6 := cellsBy_get intC 1 intC_len 0 (l.take i) j 0 hjl (by omega)
      rw [Nat.mul_one, Nat.add_zero] at h6
      rw [h6] at hj
      rw [List.length_take] at hjl
      rw [add_at, h5 j (by omega)]
      have e : (l.take i).getD j 0 = l.getD j 0 := by simp [List.getD_eq_getElem?_getD, show j < i by omega]
      rw [e] at hj
      exact hj
/-- Where x is in a list; -1: it isn't. -/
def placeI (l : List Int) (x : Int) : Int := if x ∈ l then (l.idxOf x : Int) else -1
theorem idx_first {l : List Int} {x : Int} {j : Nat} (hj : j < l.length) (e : l.getD j 0 = x) (h : ∀ i, i < j → l.getD i 0 ≠ x) : x ∈ l ∧ l.idxOf x = j := by
  have e1 : l[j] = x := by simpa [List.getD_eq_getElem?_getD, hj] using e
  have hm : x ∈ l := by rw [← e1]; exact List.getElem_mem hj
  have hi := List.idxOf_lt_length_of_mem hm
  have e2 : l[l.idxOf x] = x := List.getElem_idxOf hi
  refine ⟨hm, ?_⟩
  rcases Nat.lt_trichotomy (l.idxOf x) j with h1 | h1 | h1
  · exact absurd (by simp [List.getD_eq_getElem?_getD, hi]) (h _ h1)
  · exact h1
  · have h2 := List.not_of_lt_findIdx (p := fun y => y == x) (xs := l) (i := j) h1
    simp [e1] at h2
theorem not_all {l : List Int} {x : Int} (h : ∀ i, i < l.length → l.getD i 0 ≠ x) : x ∉ l := fun hx => by
  obtain ⟨i, hi, e⟩ := List.getElem_of_mem hx
  exact h i hi (by simpa [List.getD_eq_getElem?_getD, hi] using e)
theorem rPlace (l : List Int) (a : Option Addr) (c : Nat) (hc : l.length ≤ c ∧ c ≤ 9223372036854775807) (hl : IntsAt w .i64 a l) (x : Int) :
    Calls Try.prog 26 #[.slice a l.length c, .int .i64 x] w fun e w' => e = .returned (.int .i64 (placeI l x)) ∧ w = w' := by
  obtain ⟨hc1, hc2⟩ := hc
  have hyes : ∀ j : Nat, j < l.length → l.getD j 0 = x → (∀ i, i < j → l.getD i 0 ≠ x) → placeI l x = j := fun j h1 h2 h3 => by
    obtain ⟨h4, h5⟩ := idx_first h1 h2 h3
    unfold placeI; rw [if_pos h4, h5]
  have hno' : (∀ i, i < l.length → l.getD i 0 ≠ x) → placeI l x = -1 := fun h => by unfold placeI; rw [if_neg (not_all h)]
  generalize placeI l x = P at *
  go_enter Try.func26, Try.ntmps26
  go_wp2_with fail
  go_loopw [9] (fun i wr => ∃ j : Nat, i = .int .i64 j ∧ j ≤ l.length ∧ (∀ i, i < j → l.getD i 0 ≠ x) ∧ w = wr) (fun i _ => l.length - (intOf i).toNat)
  case atStart => exact ⟨0, rfl, Nat.zero_le _, fun i hi => absurd hi (Nat.not_lt_zero _), rfl⟩
  case round =>
    obtain ⟨j, rfl, hj, hno, rfl⟩ := hrel
    by_cases hjn : j < l.length
    · have hji : (j : Int) < l.length := by omega
      obtain ⟨gb, o, rfl, u0⟩ := hl j hjn
      by_cases e : l.getD j 0 = x
      · have hP := hyes j hjn e hno
        rw [e] at u0
        subst hP
        clear hl hno' hno e hyes
        generalize l.length = m at *
        go_wp2_with fail
        go_ret
        exact ⟨rfl, rfl⟩
      · have e' : (l.getD j 0 == x) = false := by simpa using e
        have hno2 : ∀ i, i < j + 1 → l.getD i 0 ≠ x := fun i hi => by
          by_cases e2 : i = j
          · rw [e2]; exact e
          · exact hno i (by omega)
        clear hl hno' hno hyes
        generalize l.getD j 0 = y at *
        generalize l.length = m at *
        go_wp2_with fail
        go_roundw
        case rel => exact ⟨j + 1, by go_num, by omega, hno2, trivial⟩
        case measure => simp [intOf]; omega
    · obtain rfl : j = l.length := by omega
      have hP := hno' hno
      subst hP
      clear hl hno' hno hyes
      generalize l.length = m at *
      go_wp2_with fail
      go_ret
      exact ⟨rfl, rfl⟩
end
end Go.Proofs.Ytfngooaobjafjaa
