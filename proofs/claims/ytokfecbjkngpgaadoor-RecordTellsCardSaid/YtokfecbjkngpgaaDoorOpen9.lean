/- Lists that come in, opened, of no program: of structs that hold four integers. -/
import Derived.Test.YtokfecbjkngpgaaDoorLaw
namespace Go.Proofs.YtokfecbjkngpgaaDoor
open Go.RowKit Go.WideShapes Go.ChangeShapes Go.Deep

section
variable {H : Type} {enc : TypeId × Value → H} {P : Program} {w : World} {base : Nat} {spare : Nat → Bool} {held : Bool} {r : Reach} {b0 : Nat}
theorem open_fours' {t e : TypeId} {f0 f1 f2 f3 : Field} {k0 k1 k2 k3 : IntKind} {v : Value} {d : DataW H} {p : List MemPlace} (ht : P.underlying t = some (.slice e)) (he : P.underlying e = some (.struct #[f0, f1, f2, f3])) (hc : P.cellsOf e = 4)
    (h0 : P.underlying f0.type = some (.int k0)) (p0 : f0.offset = 0 ∧ P.cellsOf f0.type = 1) (h1 : P.underlying f1.type = some (.int k1)) (p1 : f1.offset = 1 ∧ P.cellsOf f1.type = 1)
    (h2 : P.underlying f2.type = some (.int k2)) (p2 : f2.offset = 2 ∧ P.cellsOf f2.type = 1) (h3 : P.underlying f3.type = some (.int k3)) (p3 : f3.offset = 3 ∧ P.cellsOf f3.type = 1)
    (hv : Value.okWide P w r b0 t v) (h : DataW.Trod enc P w base (fun _ => true) held t v d p) :
    ∃ (a : Option Addr) (cap n : Nat), v = .slice a n cap ∧ n ≤ cap ∧ cap ≤ 9223372036854775807 ∧ ∀ k, k < n → ∃ b off x y z u, a = some ⟨b, off, none⟩ ∧ w.cell? ⟨b, off + k * 4, none⟩ = some (.int k0 x) ∧ w.cell? ⟨b, off + k * 4 + 1, none⟩ = some (.int k1 y) ∧ w.cell? ⟨b, off + k * 4 + 2, none⟩ = some (.int k2 z) ∧ w.cell? ⟨b, off + k * 4 + 3, none⟩ = some (.int k3 u) ∧
      (k0.min ≤ x ∧ x ≤ k0.max) ∧ (k1.min ≤ y ∧ y ≤ k1.max) ∧ (k2.min ≤ z ∧ z ≤ k2.max) ∧ (k3.min ≤ u ∧ u ≤ k3.max) := by
  obtain ⟨a0, n0, c0, rfl⟩ := okWide_slice ht hv
  obtain ⟨fuel, hf⟩ := h
  rcases open_slice ht hf with ⟨hcs, _⟩ | ⟨a, len, cap, m, n, D, Pl, hcs, _, hl, hm, hmm, _, hi⟩
  · simp [Value.cells] at hcs
    obtain ⟨rfl, rfl, rfl⟩ := hcs
    exact ⟨none, 0, 0, rfl, Nat.le_refl _, by omega, fun i hi => by omega⟩
  · simp [Value.cells] at hcs
    obtain ⟨rfl, rfl, rfl⟩ := hcs
    simp only [if_true] at hmm
    subst hmm
    refine ⟨some a, m, n0, rfl, hl, by unfold maxLen at hm; omega, fun k hk => ?_⟩
    obtain ⟨cs', hcc, ht'⟩ := hi k (by omega)
    rw [hc] at hcc
    obtain ⟨_, hlen, hat⟩ := World.cells?_some hcc
    obtain ⟨ys, n', _, _, _, hyl, hff⟩ := DataW.trod_struct he ht'
    match cs', hlen with
    | [v0, v1, v2, v3], _ =>
      have e0 := hff 0 f0 rfl
      have e1 := hff 1 f1 rfl
      have e2 := hff 2 f2 rfl
      have e3 := hff 3 f3 rfl
      rw [p0.1, p0.2] at e0
      rw [p1.1, p1.2] at e1
      rw [p2.1, p2.2] at e2
      rw [p3.1, p3.2] at e3
      match ys, hyl with
      | [y0, y1, y2, y3], _ =>
        simp only [List.drop_zero, List.take_succ_cons, List.take_zero, List.drop_succ_cons, List.getElem?_cons_zero, List.getElem?_cons_succ] at e0 e1 e2 e3
        obtain ⟨x, ex, _, wx⟩ := DataW.trod_int h0 e0
        obtain ⟨y, ey, _, wy⟩ := DataW.trod_int h1 e1
        obtain ⟨z, ez, _, wz⟩ := DataW.trod_int h2 e2
        obtain ⟨u, eu, _, wu⟩ := DataW.trod_int h3 e3
        simp only [List.cons.injEq, and_true] at ex ey ez eu
        subst ex ey ez eu
        simp [Lit.wf] at wx wy wz wu
        have a0 := hat 0 (by omega)
        have a1 := hat 1 (by omega)
        have a2 := hat 2 (by omega)
        have a3 := hat 3 (by omega)
        obtain ⟨b, off, spot⟩ := a
        have hspot : spot = none := by
          obtain ⟨cs0, hc0, _⟩ := hi 0 (by omega)
          rw [hc] at hc0
          obtain ⟨_, hl0, hat0⟩ := World.cells?_some hc0
          match cs0, hl0 with
          | [w0, _, _, _], _ =>
            have h9 : w.cell? (((⟨b, off, spot⟩ : Addr).add (0 * 4)).add 0) = some w0 := hat0 0 (by omega)
            have := World.cell?_spot h9
            simpa [Addr.add] using this
        subst hspot
        rw [add_plain, add_plain] at a0 a1 a2 a3
        exact ⟨b, off, x, y, z, u, rfl, a0, a1, a2, a3, wx, wy, wz, wu⟩
end
end Go.Proofs.YtokfecbjkngpgaaDoor
