/- What comes in, opened, of no program: an array of two integers. -/
import Derived.Test.YtfngooaobjafjaaOpen
namespace Go.Proofs.Ytfngooaobjafjaa
open Go.RowKit Go.WideShapes Go.ChangeShapes Go.Deep

section
variable {H : Type} {enc : TypeId × Value → H} {P : Program} {w : World} {base : Nat} {spare : Nat → Bool} {held : Bool} {r : Reach} {b0 : Nat}
theorem open_two' {t e : TypeId} {k : IntKind} {v : Value} {d : DataW H} {p : List MemPlace} (hs : P.underlying t = some (.array 2 e)) (he : P.underlying e = some (.int k)) (hc : P.cellsOf e = 1) (hC : P.cellsOf t = 2)
    (hv : Value.okWide P w r b0 t v) (h : DataW.Trod enc P w base spare held t v d p) :
    ∃ m n : Int, v = .agg #[.int k m, .int k n] ∧ (k.min ≤ m ∧ m ≤ k.max) ∧ (k.min ≤ n ∧ n ≤ k.max) := by
  obtain ⟨cs, rfl, hsz⟩ : ∃ cs, v = .agg cs ∧ cs.size = P.cellsOf t := by
    simp only [Value.okWide, hs] at hv
    obtain ⟨cs, h1, h2, _⟩ := hv
    exact ⟨cs, h1, h2⟩
  rw [hC] at hsz
  obtain ⟨fuel, hf⟩ := h
  rcases cs with ⟨l⟩
  match l, hsz with
  | [v0, v1], _ =>
    obtain ⟨ys, n', _, _, _, hyl, hff⟩ := DataW.trod_array hs hf
    have e0 := hff 0 (by omega)
    have e1 := hff 1 (by omega)
    rw [hc] at e0 e1
    match ys, hyl with
    | [y0, y1], _ =>
      simp only [Value.cells, Nat.zero_mul, Nat.one_mul, List.drop_zero, List.take_succ_cons, List.take_zero, List.drop_succ_cons, List.getElem?_cons_zero, List.getElem?_cons_succ] at e0 e1
      obtain ⟨m, em, _, wm⟩ := DataW.trod_int he e0
      obtain ⟨n, en, _, wn⟩ := DataW.trod_int he e1
      simp only [List.cons.injEq, and_true] at em en
      subst em en
      simp [Lit.wf] at wm wn
      exact ⟨m, n, rfl, wm, wn⟩
end
end Go.Proofs.Ytfngooaobjafjaa
