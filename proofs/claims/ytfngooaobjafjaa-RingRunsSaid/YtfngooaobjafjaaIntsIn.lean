/- Rows of integers that are only read, in blocks of whoever; what is made by a call that only looks: of no program. (IntsIn stands in CarryRef, IntsPost, ints_close, newInts in CarryObj, intsAtI in CarryTake, too: never two of them in one seat.) -/
import Derived.Test.YtfngooaobjafjaaInts
import Derived.Test.YtfngooaobjafjaaLaw
namespace Go.Proofs.Ytfngooaobjafjaa
open Go.RowKit Go.Sort

def IntsPost (w : World) (l : List Int) (e : Ending) (w' : World) : Prop := ∃ v, e = .returned v ∧ ∃ G, (Ob.ints v l).holds w' G ∧ (∀ k, G k → w.heap.size ≤ k) ∧ Below w.heap.size w w'
theorem ints_close {v : Value} {l : List Int} {w w' : World} (h : Stage (fun _ => False) w [Ob.ints v l] w') : IntsPost w l (.returned v) w' := by
  obtain ⟨hk, G, h1, h2, h3⟩ := h
  exact ⟨v, rfl, G 0, h1 0 _ rfl, fun k hb => (h3 0 k hb).1.elim False.elim id, hk.below (Nat.le_refl _) (fun _ h => h.elim)⟩
theorem Stage.newInts {F0 : Nat → Prop} {W w : World} {l : List Ob} {P : Program} {f : FuncId} {args : Array Value} {xs : List Int} (h : Stage F0 W l w) (hc : Calls P f args w (IntsPost w xs)) :
    Calls P f args w fun e w' => ∃ v, e = .returned v ∧ Stage F0 W (l ++ [Ob.ints v xs]) w' :=
  hc.mono fun _ _ ⟨v, he, _, h1, h2, h3⟩ => ⟨v, he, h.add h3 h1 h2⟩

theorem Stage.intsAtI {F0 : Nat → Prop} {W w : World} {l : List Ob} {a : Option Addr} {c : Nat} {xs : List Int} (h : Stage F0 W l w) (i : Nat) (hi : l[i]? = some (Ob.ints (.slice a xs.length c) xs)) : IntsAt w .i64 a xs := fun j hj => by
  obtain ⟨g, c', hv, _, _, _, hc, _⟩ := h.intsAt i hi (by omega)
  cases hv
  exact ⟨g, 0, rfl, by rw [Nat.zero_add]; exact hc j hj⟩
/-- h is a row of the integers l, in blocks of F. -/
def IntsIn (w : World) (F : Nat → Prop) (h : Value) (l : List Int) : Prop :=
  (h = .slice none 0 0 ∧ l = []) ∨ ∃ g o c, h = .slice (some ⟨g, o, none⟩) l.length c ∧ l.length ≤ c ∧ c ≤ 9223372036854775807 ∧ F g ∧ ∀ j, j < l.length → w.cell? ⟨g, o + j, none⟩ = some (.int .i64 (l.getD j 0))
theorem IntsIn.mono {w : World} {F G : Nat → Prop} {h : Value} {l : List Int} (H : IntsIn w F h l) (hG : ∀ b, F b → G b) : IntsIn w G h l := by
  rcases H with h1 | ⟨g, o, c, h1, h2, h3, h4, h5⟩
  · exact Or.inl h1
  · exact Or.inr ⟨g, o, c, h1, h2, h3, hG g h4, h5⟩
theorem IntsIn.keeps {w w' : World} {F G : Nat → Prop} {h : Value} {l : List Int} (H : IntsIn w F h l) (k : Keeps G w w') (hn : ∀ b, F b → ¬ G b) : IntsIn w' F h l := by
  rcases H with h1 | ⟨g, o, c, h1, h2, h3, h4, h5⟩
  · exact Or.inl h1
  · exact Or.inr ⟨g, o, c, h1, h2, h3, h4, fun j hj => k.cell (h5 j hj) (hn g h4)⟩
theorem IntsIn.later {w w' : World} {F : Nat → Prop} {h : Value} {l : List Int} (H : IntsIn w F h l) (hb : Below w.heap.size w w') : IntsIn w' F h l := H.keeps (Keeps.of_below_all hb (fun _ => False)) (fun _ _ x => x)
theorem IntsIn.form {w : World} {F : Nat → Prop} {h : Value} {l : List Int} (H : IntsIn w F h l) : ∃ a c, h = .slice a l.length c ∧ l.length ≤ c ∧ c ≤ 9223372036854775807 ∧ IntsAt w .i64 a l := by
  rcases H with ⟨h1, h2⟩ | ⟨g, o, c, h1, h2, h3, h4, h5⟩
  · subst h2
    exact ⟨none, 0, h1, Nat.le_refl _, by omega, fun i hi => absurd hi (Nat.not_lt_zero _)⟩
  · exact ⟨_, c, h1, h2, h3, fun j hj => ⟨g, o, rfl, h5 j hj⟩⟩
theorem IntsIn.reads {w : World} {F : Nat → Prop} {h : Value} {l : List Int} (H : IntsIn w F h l) : RowReads w 1 h l.length (cellsBy intC l) := by
  refine ⟨by rw [cellsBy_length intC 1 intC_len], ?_⟩
  rcases H with ⟨h1, h2⟩ | ⟨g, o, c, h1, h2, h3, h4, h5⟩
  · exact Or.inl ⟨h1, by rw [h2]; rfl⟩
  · refine Or.inr ⟨_, c, h1, fun j u hj => ?_⟩
    have hjl : j < l.length := by
      have := (List.getElem?_eq_some_iff.1 hj).1
      rw [cellsBy_length intC 1 intC_len] at this
      omega
    rw [add_at, h5 j hjl]
    have h3 := cellsBy_get intC 1 intC_len 0 l j 0 hjl (by omega)
    rw [Nat.mul_one, Nat.add_zero] at h3
    rw [h3] at hj
    exact hj
theorem IntsIn.of_ints {w : World} {G F : Nat → Prop} {v : Value} {l : List Int} (H : (Ob.ints v l).holds w G) (hG : ∀ b, G b → F b) : IntsIn w F v l := by
  obtain ⟨ho, rfl⟩ := H
  have hr := reads_own ho
  obtain ⟨a0, c0, hv0, h2, h3⟩ := owns_form ho
  obtain ⟨h1, h2' | ⟨g, cap, cur, hv, _⟩⟩ := ho
  · obtain ⟨e1, e2⟩ := h2'
    exact Or.inl ⟨e1, List.length_eq_zero_iff.1 e2⟩
  · rw [hv] at hv0
    cases hv0
    refine Or.inr ⟨g, 0, c0, hv, h2, by unfold maxLen at h3; omega, hG g (by rw [hv]; rfl), fun j hj => ?_⟩
    obtain ⟨_, ⟨e1, _⟩ | ⟨a, c, e1, hc⟩⟩ := hr
    · rw [hv] at e1; cases e1
    · rw [hv] at e1
      cases e1
      have h3 := cellsBy_get intC 1 intC_len 0 l j 0 hj (by omega)
      rw [Nat.mul_one, Nat.add_zero] at h3
      have := hc j (.int .i64 (l.getD j 0)) (by rw [h3]; rfl)
      rw [add_at] at this
      exact this
end Go.Proofs.Ytfngooaobjafjaa
