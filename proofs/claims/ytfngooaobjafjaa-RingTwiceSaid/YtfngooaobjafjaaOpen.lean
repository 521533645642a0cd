/- Lists that come in, opened, of no program: of bools; of structs that hold an integer and a struct of two integers. -/
import Derived.Test.YtfngooaobjafjaaLaw
import Derived.Deep.Grids
namespace Go.Proofs.Ytfngooaobjafjaa
open Go.RowKit Go.WideShapes Go.ChangeShapes Go.Deep

section
variable {H : Type} {enc : TypeId × Value → H} {P : Program} {w : World} {base : Nat} {spare : Nat → Bool} {held : Bool} {r : Reach} {b0 : Nat}
/-- A list of bools that comes in. -/
theorem open_bools' {t e : TypeId} {v : Value} {d : DataW H} {p : List MemPlace} (ht : P.underlying t = some (.slice e)) (he : P.underlying e = some .bool) (hc : P.cellsOf e = 1)
    (hv : Value.okWide P w r b0 t v) (h : DataW.Trod enc P w base (fun _ => true) held t v d p) :
    ∃ (a : Option Addr) (cap : Nat) (l : List Bool), v = .slice a l.length cap ∧ l.length ≤ cap ∧ cap ≤ 9223372036854775807 ∧ ∀ k, k < l.length → ∃ b off, a = some ⟨b, off, none⟩ ∧ w.cell? ⟨b, off + k, none⟩ = some (.bool (l.getD k false)) := by
  obtain ⟨a0, n0, c0, rfl⟩ := okWide_slice ht hv
  obtain ⟨fuel, hf⟩ := h
  rcases open_bools ht he hc hf with ⟨hcs, _⟩ | ⟨a, len, cap, B, hcs, _, hl, hm, _, hcell⟩
  · simp [Value.cells] at hcs
    obtain ⟨rfl, rfl, rfl⟩ := hcs
    exact ⟨none, 0, [], rfl, Nat.le_refl _, by omega, fun i hi => by simp at hi⟩
  · simp [Value.cells] at hcs
    obtain ⟨rfl, rfl, rfl⟩ := hcs
    have hlen : ((List.range n0).map B).length = n0 := by simp
    refine ⟨some a, c0, (List.range n0).map B, by rw [hlen], by rw [hlen]; exact hl, by unfold maxLen at hm; omega, fun i hi => ?_⟩
    rw [hlen] at hi
    have h := hcell i (by omega)
    obtain ⟨b, off, spot⟩ := a
    have hspot : spot = none := by simpa [Addr.add] using World.cell?_spot (hcell 0 (by omega))
    subst hspot
    refine ⟨b, off, rfl, ?_⟩
    rw [add_plain] at h
    rw [h]
    simp [List.getD, hi]
/-- A list of structs {int; struct {int; int}} that comes in. -/
theorem open_acts' {t e : TypeId} {f0 f1 g0 g1 : Field} {k0 k1 k2 : IntKind} {v : Value} {d : DataW H} {p : List MemPlace} (ht : P.underlying t = some (.slice e)) (he : P.underlying e = some (.struct #[f0, f1])) (hc : P.cellsOf e = 3)
    (h0 : P.underlying f0.type = some (.int k0)) (p0 : f0.offset = 0 ∧ P.cellsOf f0.type = 1) (h1 : P.underlying f1.type = some (.struct #[g0, g1])) (p1 : f1.offset = 1 ∧ P.cellsOf f1.type = 2)
    (u0 : P.underlying g0.type = some (.int k1)) (q0 : g0.offset = 0 ∧ P.cellsOf g0.type = 1) (u1 : P.underlying g1.type = some (.int k2)) (q1 : g1.offset = 1 ∧ P.cellsOf g1.type = 1)
    (hv : Value.okWide P w r b0 t v) (h : DataW.Trod enc P w base (fun _ => true) held t v d p) :
    ∃ (a : Option Addr) (cap n : Nat), v = .slice a n cap ∧ n ≤ cap ∧ cap ≤ 9223372036854775807 ∧ ∀ k, k < n → ∃ b off x y z, a = some ⟨b, off, none⟩ ∧ w.cell? ⟨b, off + k * 3, none⟩ = some (.int k0 x) ∧ w.cell? ⟨b, off + k * 3 + 1, none⟩ = some (.int k1 y) ∧ w.cell? ⟨b, off + k * 3 + 2, none⟩ = some (.int k2 z) ∧
      (k0.min ≤ x ∧ x ≤ k0.max) ∧ (k1.min ≤ y ∧ y ≤ k1.max) ∧ (k2.min ≤ z ∧ z ≤ k2.max) := by
  obtain ⟨a0, n0, c0, rfl⟩ := okWide_slice ht hv
  obtain ⟨fuel, hf⟩ := h
  rcases open_slice ht hf with ⟨hcs, _⟩ | ⟨a, len, cap, m, n, D, Pl, hcs, _, hl, hm, hmm, _, hi⟩
  · simp [Value.cells] at hcs
    obtain ⟨rfl, rfl, rfl⟩ := hcs
    exact ⟨none, 0, 0, rfl, Nat.le_refl _, by omega, fun i hi => by omega⟩
  · simp [Value.cells] at hcs
    obtain ⟨rfl, rfl, rfl⟩ := hcs
    simp only [if_true] at hmm
    subst hmm
    refine ⟨some a, m, n0, rfl, hl, by unfold maxLen at hm; omega, fun k hk => ?_⟩
    obtain ⟨cs', hcc, ht'⟩ := hi k (by omega)
    rw [hc] at hcc
    obtain ⟨_, hlen, hat⟩ := World.cells?_some hcc
    obtain ⟨ys, n', _, _, _, hyl, hff⟩ := DataW.trod_struct he ht'
    match cs', hlen with
    | [v0, v1, v2], _ =>
      have e0 := hff 0 f0 rfl
      have e1 := hff 1 f1 rfl
      rw [p0.1, p0.2] at e0
      rw [p1.1, p1.2] at e1
      match ys, hyl with
      | [y0, y1], _ =>
        simp only [List.drop_zero, List.take_succ_cons, List.take_zero, List.drop_succ_cons, List.getElem?_cons_zero, List.getElem?_cons_succ] at e0 e1
        obtain ⟨x, ex, _, wx⟩ := DataW.trod_int h0 e0
        obtain ⟨zs, n'', _, _, _, hzl, hgg⟩ := DataW.trod_struct h1 e1
        have z0 := hgg 0 g0 rfl
        have z1 := hgg 1 g1 rfl
        rw [q0.1, q0.2] at z0
        rw [q1.1, q1.2] at z1
        match zs, hzl with
        | [c0', c1'], _ =>
          simp only [List.drop_zero, List.take_succ_cons, List.take_zero, List.drop_succ_cons, List.getElem?_cons_zero, List.getElem?_cons_succ] at z0 z1
          obtain ⟨y, ey, _, wy⟩ := DataW.trod_int u0 z0
          obtain ⟨z, ez, _, wz⟩ := DataW.trod_int u1 z1
          simp only [List.cons.injEq, and_true] at ex ey ez
          subst ex ey ez
          simp [Lit.wf] at wx wy wz
          have a0 := hat 0 (by omega)
          have a1 := hat 1 (by omega)
          have a2 := hat 2 (by omega)
          obtain ⟨b, off, spot⟩ := a
          have hspot : spot = none := by
            obtain ⟨cs0, hc0, _⟩ := hi 0 (by omega)
            rw [hc] at hc0
            obtain ⟨_, hl0, hat0⟩ := World.cells?_some hc0
            match cs0, hl0 with
            | [w0, _, _], _ =>
              have h9 : w.cell? (((⟨b, off, spot⟩ : Addr).add (0 * 3)).add 0) = some w0 := hat0 0 (by omega)
              have := World.cell?_spot h9
              simpa [Addr.add] using this
          subst hspot
          rw [add_plain, add_plain] at a0 a1 a2
          exact ⟨b, off, x, y, z, rfl, a0, a1, a2, wx, wy, wz⟩
/-- A list of structs of three integers that comes in. -/
theorem open_triples' {t e : TypeId} {f0 f1 f2 : Field} {k0 k1 k2 : IntKind} {v : Value} {d : DataW H} {p : List MemPlace} (ht : P.underlying t = some (.slice e)) (he : P.underlying e = some (.struct #[f0, f1, f2])) (hc : P.cellsOf e = 3)
    (h0 : P.underlying f0.type = some (.int k0)) (p0 : f0.offset = 0 ∧ P.cellsOf f0.type = 1) (h1 : P.underlying f1.type = some (.int k1)) (p1 : f1.offset = 1 ∧ P.cellsOf f1.type = 1)
    (h2 : P.underlying f2.type = some (.int k2)) (p2 : f2.offset = 2 ∧ P.cellsOf f2.type = 1)
    (hv : Value.okWide P w r b0 t v) (h : DataW.Trod enc P w base (fun _ => true) held t v d p) :
    ∃ (a : Option Addr) (cap n : Nat), v = .slice a n cap ∧ n ≤ cap ∧ cap ≤ 9223372036854775807 ∧ ∀ k, k < n → ∃ b off x y z, a = some ⟨b, off, none⟩ ∧ w.cell? ⟨b, off + k * 3, none⟩ = some (.int k0 x) ∧ w.cell? ⟨b, off + k * 3 + 1, none⟩ = some (.int k1 y) ∧ w.cell? ⟨b, off + k * 3 + 2, none⟩ = some (.int k2 z) ∧
      (k0.min ≤ x ∧ x ≤ k0.max) ∧ (k1.min ≤ y ∧ y ≤ k1.max) ∧ (k2.min ≤ z ∧ z ≤ k2.max) := by
  obtain ⟨a0, n0, c0, rfl⟩ := okWide_slice ht hv
  obtain ⟨fuel, hf⟩ := h
  rcases open_slice ht hf with ⟨hcs, _⟩ | ⟨a, len, cap, m, n, D, Pl, hcs, _, hl, hm, hmm, _, hi⟩
  · simp [Value.cells] at hcs
    obtain ⟨rfl, rfl, rfl⟩ := hcs
    exact ⟨none, 0, 0, rfl, Nat.le_refl _, by omega, fun i hi => by omega⟩
  · simp [Value.cells] at hcs
    obtain ⟨rfl, rfl, rfl⟩ := hcs
    simp only [if_true] at hmm
    subst hmm
    refine ⟨some a, m, n0, rfl, hl, by unfold maxLen at hm; omega, fun k hk => ?_⟩
    obtain ⟨cs', hcc, ht'⟩ := hi k (by omega)
    rw [hc] at hcc
    obtain ⟨_, hlen, hat⟩ := World.cells?_some hcc
    obtain ⟨ys, n', _, _, _, hyl, hff⟩ := DataW.trod_struct he ht'
    match cs', hlen with
    | [v0, v1, v2], _ =>
      have e0 := hff 0 f0 rfl
      have e1 := hff 1 f1 rfl
      have e2 := hff 2 f2 rfl
      rw [p0.1, p0.2] at e0
      rw [p1.1, p1.2] at e1
      rw [p2.1, p2.2] at e2
      match ys, hyl with
      | [y0, y1, y2], _ =>
        simp only [List.drop_zero, List.take_succ_cons, List.take_zero, List.drop_succ_cons, List.getElem?_cons_zero, List.getElem?_cons_succ] at e0 e1 e2
        obtain ⟨x, ex, _, wx⟩ := DataW.trod_int h0 e0
        obtain ⟨y, ey, _, wy⟩ := DataW.trod_int h1 e1
        obtain ⟨z, ez, _, wz⟩ := DataW.trod_int h2 e2
        simp only [List.cons.injEq, and_true] at ex ey ez
        subst ex ey ez
        simp [Lit.wf] at wx wy wz
        have a0 := hat 0 (by omega)
        have a1 := hat 1 (by omega)
        have a2 := hat 2 (by omega)
        obtain ⟨b, off, spot⟩ := a
        have hspot : spot = none := by
          obtain ⟨cs0, hc0, _⟩ := hi 0 (by omega)
          rw [hc] at hc0
          obtain ⟨_, hl0, hat0⟩ := World.cells?_some hc0
          match cs0, hl0 with
          | [w0, _, _], _ =>
            have h9 : w.cell? (((⟨b, off, spot⟩ : Addr).add (0 * 3)).add 0) = some w0 := hat0 0 (by omega)
            have := World.cell?_spot h9
            simpa [Addr.add] using this
        subst hspot
        rw [add_plain, add_plain] at a0 a1 a2
        exact ⟨b, off, x, y, z, rfl, a0, a1, a2, wx, wy, wz⟩
end
end Go.Proofs.Ytfngooaobjafjaa
