/- What the document's functions on rings return: New; rows new and old together, in a row of one's own. -/
import Derived.Test.YtfngooaobjafjaaRingRef3
namespace Go.Proofs.Ytfngooaobjafjaa
open Go.RowKit Go.Sort

/-- Rows that nobody else has. -/
def Ob.rowsAre (Z : List (Value × List Int)) (R : List (List Int)) : Ob where
  holds w F := (∀ b, F b → b < w.heap.size) ∧ RowsAre w F Z R
  keeps := by rintro w w' F G ⟨h0, h⟩ k hn; exact ⟨fun b hb => Nat.lt_of_lt_of_le (h0 b hb) k.size, h.all, fun p hp => (h.read p hp).keeps k hn⟩
  lt := fun h => h.1
namespace Stage
variable {F0 : Nat → Prop} {W w : World} {l : List Ob}
/-- The last two things are one. -/
theorem fuse {A B C : Ob} (h : Stage F0 W (l ++ [A, B]) w) (hC : ∀ F G, A.holds w F → B.holds w G → (∀ b, F b → b < w.heap.size) → (∀ b, G b → b < w.heap.size) → C.holds w (fun b => F b ∨ G b)) : Stage F0 W (l ++ [C]) w := by
  obtain ⟨K, F, h1, h2, h3⟩ := h
  refine ⟨K, fun i b => if i < l.length then F i b else if i = l.length then F l.length b ∨ F (l.length + 1) b else False, ?_, ?_, ?_⟩
  · intro i O hi
    by_cases e : i < l.length
    · rw [List.getElem?_append_left e] at hi
      simp only [e, if_true]
      exact h1 i O (by rw [List.getElem?_append_left e]; exact hi)
    · rw [List.getElem?_append_right (by omega)] at hi
      have e2 : i = l.length := by
        rcases Nat.lt_or_ge (i - l.length) 1 with h4 | h4
        · omega
        · rw [List.getElem?_eq_none (by simpa using h4)] at hi; cases hi
      subst e2
      rw [Nat.sub_self] at hi
      obtain rfl : C = O := by simpa using hi
      simp only [Nat.lt_irrefl, if_false, if_true]
      refine hC _ _ (h1 _ A (by rw [List.getElem?_append_right (Nat.le_refl _), Nat.sub_self]; rfl)) (h1 _ B (by rw [List.getElem?_append_right (by omega), show l.length + 1 - l.length = 1 by omega]; rfl)) (fun b hb => (h3 _ b hb).2) (fun b hb => (h3 _ b hb).2)
  · intro i j b hij hi hj
    by_cases e1 : i < l.length <;> by_cases e2 : j < l.length <;> simp only [e1, e2, if_true, if_false] at hi hj
    · exact h2 i j b hij hi hj
    · by_cases e3 : j = l.length
      · simp only [e3, if_true] at hj
        rcases hj with hj | hj
        · exact h2 i _ b (by omega) hi hj
        · exact h2 i _ b (by omega) hi hj
      · simp only [e3, if_false] at hj
    · by_cases e3 : i = l.length
      · simp only [e3, if_true] at hi
        rcases hi with hi | hi
        · exact h2 _ j b (by omega) hi hj
        · exact h2 _ j b (by omega) hi hj
      · simp only [e3, if_false] at hi
    · by_cases e3 : i = l.length <;> by_cases e4 : j = l.length
      · omega
      · simp only [e4, if_false] at hj
      · simp only [e3, if_false] at hi
      · simp only [e3, if_false] at hi
  · intro i b hi
    by_cases e1 : i < l.length
    · simp only [e1, if_true] at hi; exact h3 i b hi
    · simp only [e1, if_false] at hi
      by_cases e3 : i = l.length
      · simp only [e3, if_true] at hi
        rcases hi with hi | hi
        · exact h3 _ b hi
        · exact h3 _ b hi
      · simp only [e3, if_false] at hi
/-- A new row of numbers comes to the rows. -/
theorem rowsAdd {Z : List (Value × List Int)} {R : List (List Int)} {v : Value} {s : List Int} (h : Stage F0 W (l ++ [Ob.rowsAre Z R, Ob.ints v s]) w) : Stage F0 W (l ++ [Ob.rowsAre (Z ++ [(v, s)]) (R ++ [s])]) w := by
  refine h.fuse fun F G hF hG h1 h2 => ⟨fun b hb => ?_, ?_, fun p hp => ?_⟩
  · rcases hb with hb | hb
    · exact h1 b hb
    · exact h2 b hb
  · rw [hF.2.all, List.map_append, List.map_cons, List.map_nil]
  · rcases List.mem_append.1 hp with hp | hp
    · exact (hF.2.read p hp).mono fun b hb => Or.inl hb
    · obtain rfl : p = (v, s) := by simpa using hp
      exact (IntsIn.of_ints hG (F := G) fun b hb => hb).mono fun b hb => Or.inr hb
theorem rowsNone (h : Stage F0 W l w) : Stage F0 W (l ++ [Ob.rowsAre [] []]) w :=
  h.add (F' := fun _ => False) (Below.refl _ _) ⟨fun _ h => h.elim, rfl, fun p hp => by simp at hp⟩ fun _ h => h.elim
end Stage
/-- Old rows and new ones in a row of one's own are the document's rings. -/
theorem doc_close {w w' : World} {F : Nat → Prop} {Z N : List (Value × List Int)} {R S : List (List Int)} {u : Value} (H : RowsAre w F Z R) (hF : ∀ b, F b → b < w.heap.size) (h : Stage (fun _ => False) w [Ob.outer u (Z ++ N), Ob.rowsAre N S] w') :
    ∃ F', (Ob.docL u (R ++ S)).holds w' F' ∧ Moved F F' w w' := by
  have hb := h.below
  have H' := H.later hb
  have ho := h.owns 0 rfl
  obtain ⟨-, G, g1, g2, g3⟩ := h
  have gN := (g1 1 _ rfl).2
  refine ⟨fun b => F b ∨ w.heap.size ≤ b ∧ b < w'.heap.size, ⟨fun b hb' => ?_, Z ++ N, ⟨?_, fun p hp => ?_⟩, ?_⟩, Keeps.of_below_all hb _, fun k hk => ?_⟩
  · rcases hb' with h1 | h1
    · exact Nat.lt_of_lt_of_le (hF b h1) hb.size
    · exact h1.2
  · rw [List.map_append, H.all, gN.all]
  · rcases List.mem_append.1 hp with hp | hp
    · exact (H'.read p hp).mono fun b hb => Or.inl hb
    · exact (gN.read p hp).mono fun b hb => Or.inr ⟨((g3 1 b hb).1.resolve_left fun x => x), (g3 1 b hb).2⟩
  · have hr := reads_own ho
    have gF := (g1 0 _ rfl).2
    have gL := g3 0
    rw [gF] at gL
    obtain ⟨_, ⟨e1, e2⟩ | ⟨g, cap, cur, e1, _, _, e2, e3, _⟩⟩ := ho
    · exact Or.inl ⟨e1, List.length_eq_zero_iff.1 e2⟩
    · refine Or.inr ⟨g, cap, e1, e2, by unfold maxLen at e3; omega, Or.inr ?_, fun i hi => ?_⟩
      · have := gL g (by rw [e1]; rfl)
        exact ⟨this.1.resolve_left fun x => x, this.2⟩
      · obtain ⟨_, ⟨e4, _⟩ | ⟨a, c, e4, hc⟩⟩ := hr
        · rw [e1] at e4; cases e4
        · rw [e1] at e4
          cases e4
          have := hc i (((Z ++ N).getD i (.slice none 0 0, [])).1) (by rw [List.getElem?_map, List.getD_eq_getElem?_getD, List.getElem?_eq_getElem hi]; rfl)
          rw [add_at, Nat.zero_add] at this
          exact this
  · rcases hk with h1 | h1
    · exact Or.inl h1
    · exact Or.inr h1.1
end Go.Proofs.Ytfngooaobjafjaa
