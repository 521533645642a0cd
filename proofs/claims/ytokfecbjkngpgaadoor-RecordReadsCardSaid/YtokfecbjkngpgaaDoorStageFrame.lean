/- A call that knows some things of a stage alone, of no program: the others are as they were. -/
import Derived.Test.YtokfecbjkngpgaaDoorStage
namespace Go.Proofs.YtokfecbjkngpgaaDoor
open Go.RowKit Go.Sort
namespace Stage
variable {F0 : Nat → Prop} {W w w' : World} {l : List Ob} {P : Program} {f : FuncId} {args : Array Value} {v : Value}
/-- A call that knows the first things alone: the others are as they were. -/
theorem frameEx {α : Type} {r : List Ob} {Post : α → Ending → Prop} {l' : α → List Ob} (h : Stage F0 W (l ++ r) w) (hc : ∀ F : Nat → Prop, (∀ b, F b → b < w.heap.size) → Stage F w l w → Calls P f args w fun e w' => ∃ x, Post x e ∧ Stage F w (l' x) w') :
    Calls P f args w fun e w' => ∃ x, Post x e ∧ Stage F0 W (l' x ++ r) w' := by
  obtain ⟨hk, G, h1, h2, h3⟩ := h
  have hW := hk.size
  refine (hc (fun b => ∃ i, i < l.length ∧ G i b) (fun b ⟨i, _, hb⟩ => (h3 i b hb).2) ⟨Keeps.refl _ _, fun i b => i < l.length ∧ G i b, fun i O hi => ?_, fun i j b hij hb hb' => h2 i j b hij hb.2 hb'.2, fun i b hb => ⟨Or.inl ⟨i, hb⟩, (h3 i b hb.2).2⟩⟩).mono ?_
  · have hl := Scene.idx hi
    have e : (fun b => i < l.length ∧ G i b) = G i := by funext b; simp [hl]
    show O.holds w (fun b => i < l.length ∧ G i b)
    rw [e]
    exact h1 i O (by rw [List.getElem?_append_left hl]; exact hi)
  · rintro e w' ⟨x, hp, hk', G', g1, g2, g3⟩
    refine ⟨x, hp, ⟨hk'.os.trans hk.os, hk'.tape.trans hk.tape, hk'.output.trans hk.output, Nat.le_trans hW hk'.size, fun k hk1 hn => (hk'.block k (Nat.lt_of_lt_of_le hk1 hW) (fun ⟨i, _, hb⟩ => ?_)).trans (hk.block k hk1 hn)⟩,
      fun i => if i < (l' x).length then G' i else G (l.length + (i - (l' x).length)), fun i O hi => ?_, fun i j b hij hb hb' => ?_, fun i b hb => ?_⟩
    · rcases (h3 i k hb).1 with h | h
      · exact hn h
      · omega
    · by_cases hi' : i < (l' x).length
      · simp only [if_pos hi']
        rw [List.getElem?_append_left hi'] at hi
        exact g1 i O hi
      · simp only [if_neg hi']
        rw [List.getElem?_append_right (by omega)] at hi
        refine O.keeps (h1 (l.length + (i - (l' x).length)) O ?_) hk' (fun b hb ⟨j, hj, hb'⟩ => h2 _ j b (by omega) hb hb')
        rw [List.getElem?_append_right (by omega), Nat.add_sub_cancel_left]
        exact hi
    · simp only at hb hb'
      split at hb
      · split at hb'
        · exact g2 i j b hij hb hb'
        · rcases (g3 i b hb).1 with ⟨k, hk1, hk2⟩ | h
          · exact h2 k _ b (by omega) hk2 hb'
          · have := (h3 _ b hb').2; omega
      · split at hb'
        · rcases (g3 j b hb').1 with ⟨k, hk1, hk2⟩ | h
          · exact h2 k _ b (by omega) hk2 hb
          · have := (h3 _ b hb).2; omega
        · exact h2 _ _ b (by omega) hb hb'
    · simp only at hb
      split at hb
      · refine ⟨?_, (g3 i b hb).2⟩
        rcases (g3 i b hb).1 with ⟨k, _, hk2⟩ | h
        · exact (h3 k b hk2).1
        · exact Or.inr (by omega)
      · exact ⟨(h3 _ b hb).1, Nat.lt_of_lt_of_le (h3 _ b hb).2 hk'.size⟩
theorem frame {r l' : List Ob} (h : Stage F0 W (l ++ r) w) (hc : ∀ F : Nat → Prop, (∀ b, F b → b < w.heap.size) → Stage F w l w → Calls P f args w fun e w' => e = .returned v ∧ Stage F w l' w') :
    Calls P f args w fun e w' => e = .returned v ∧ Stage F0 W (l' ++ r) w' :=
  (h.frameEx (α := Unit) (Post := fun _ e => e = .returned v) (l' := fun _ => l') fun F hF hs => (hc F hF hs).mono fun _ _ ⟨h1, h2⟩ => ⟨(), h1, h2⟩).mono fun _ _ ⟨_, h1, h2⟩ => ⟨h1, h2⟩

end Stage
end Go.Proofs.YtokfecbjkngpgaaDoor
