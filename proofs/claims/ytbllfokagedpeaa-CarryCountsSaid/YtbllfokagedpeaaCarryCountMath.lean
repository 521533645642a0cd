/- Merged of Open, Open2, CarryCountMath. -/
import Derived.Test.YtbllfokagedpeaaLaw
import Derived.Deep.Grids
import Derived.Test.YtbllfokagedpeaaCarryAliveMath
namespace Go.Proofs.Ytbllfokagedpeaa
open Go.RowKit Go.WideShapes Go.ChangeShapes Go.Deep

section
variable {H : Type} {enc : TypeId × Value → H} {P : Program} {w : World} {base : Nat} {spare : Nat → Bool} {held : Bool} {r : Reach} {b0 : Nat}
/-- A list of bools that comes in. -/
theorem open_bools' {t e : TypeId} {v : Value} {d : DataW H} {p : List MemPlace} (ht : P.underlying t = some (.slice e)) (he : P.underlying e = some .bool) (hc : P.cellsOf e = 1)
    (hv : Value.okWide P w r b0 t v) (h : DataW.Trod enc P w base (fun _ => true) held t v d p) :
    ∃ (a : Option Addr) (cap : Nat) (l : List Bool), v = .slice a l.length cap ∧ l.length ≤ cap ∧ cap ≤ 9223372036854775807 ∧ ∀ k, k < l.length → ∃ b off, a = some ⟨b, off, none⟩ ∧ w.cell? ⟨b, off + k, none⟩ = some (.bool (l.getD k false)) := by
  obtain ⟨a0, n0, c0, rfl⟩ := okWide_slice ht hv
  obtain ⟨fuel, hf⟩ := h
  rcases open_bools ht he hc hf with ⟨hcs, _⟩ | ⟨a, len, cap, B, hcs, _, hl, hm, _, hcell⟩
  · simp [Value.cells] at hcs
    obtain ⟨rfl, rfl, rfl⟩ := hcs
    exact ⟨none, 0, [], rfl, Nat.le_refl _, by omega, fun i hi => by simp at hi⟩
  · simp [Value.cells] at hcs
    obtain ⟨rfl, rfl, rfl⟩ := hcs
    have hlen : ((List.range n0).map B).length = n0 := by simp
    refine ⟨some a, c0, (List.range n0).map B, by rw [hlen], by rw [hlen]; exact hl, by unfold maxLen at hm; omega, fun i hi => ?_⟩
    rw [hlen] at hi
    have h := hcell i (by omega)
    obtain ⟨b, off, spot⟩ := a
    have hspot : spot = none := by simpa [Addr.add] using World.cell?_spot (hcell 0 (by omega))
    subst hspot
    refine ⟨b, off, rfl, ?_⟩
    rw [add_plain] at h
    rw [h]
    simp [List.getD, hi]
/-- A list of structs {int; struct {int; int}} that comes in. -/
theorem open_acts' {t e : TypeId} {f0 f1 g0 g1 : Field} {k0 k1 k2 : IntKind} {v : Value} {d : DataW H} {p : List MemPlace} (ht : P.underlying t = some (.slice e)) (he : P.underlying e = some (.struct #[f0, f1])) (hc : P.cellsOf e = 3)
    (h0 : P.underlying f0.type = some (.int k0)) (p0 : f0.offset = 0 ∧ P.cellsOf f0.type = 1) (h1 : P.underlying f1.type = some (.struct #[g0, g1])) (p1 : f1.offset = 1 ∧ P.cellsOf f1.type = 2)
    (u0 : P.underlying g0.type = some (.int k1)) (q0 : g0.offset = 0 ∧ P.cellsOf g0.type = 1) (u1 : P.underlying g1.type = some (.int k2)) (q1 : g1.offset = 1 ∧ P.cellsOf g1.type = 1)
    (hv : Value.okWide P w r b0 t v) (h : DataW.Trod enc P w base (fun _ => true) held t v d p) :
    ∃ (a : Option Addr) (cap n : Nat), v = .slice a n cap ∧ n ≤ cap ∧ cap ≤ 9223372036854775807 ∧ ∀ k, k < n → ∃ b off x y z, a = some ⟨b, off, none⟩ ∧ w.cell? ⟨b, off + k * 3, none⟩ = some (.int k0 x) ∧ w.cell? ⟨b, off + k * 3 + 1, none⟩ = some (.int k1 y) ∧ w.cell? ⟨b, off + k * 3 + 2, none⟩ = some (.int k2 z) ∧
      (k0.min ≤ x ∧ x ≤ k0.max) ∧ (k1.min ≤ y ∧ y ≤ k1.max) ∧ (k2.min ≤ z ∧ z ≤ k2.max) := by
  obtain ⟨a0, n0, c0, rfl⟩ := okWide_slice ht hv
  obtain ⟨fuel, hf⟩ := h
  rcases open_slice ht hf with ⟨hcs, _⟩ | ⟨a, len, cap, m, n, D, Pl, hcs, _, hl, hm, hmm, _, hi⟩
  · simp [Value.cells] at hcs
    obtain ⟨rfl, rfl, rfl⟩ := hcs
    exact ⟨none, 0, 0, rfl, Nat.le_refl _, by omega, fun i hi => by omega⟩
  · simp [Value.cells] at hcs
    obtain ⟨rfl, rfl, rfl⟩ := hcs
    simp only [if_true] at hmm
    subst hmm
    refine ⟨some a, m, n0, rfl, hl, by unfold maxLen at hm; omega, fun k hk => ?_⟩
    obtain ⟨cs', hcc, ht'⟩ := hi k (by omega)
    rw [hc] at hcc
    obtain ⟨_, hlen, hat⟩ := World.cells?_some hcc
    obtain ⟨ys, n', _, _, _, hyl, hff⟩ := DataW.trod_struct he ht'
    match cs', hlen with
    | [v0, v1, v2], _ =>
      have e0 := hff 0 f0 rfl
      have e1 := hff 1 f1 rfl
      rw [p0.1, p0.2] at e0
      rw [p1.1, p1.2] at e1
      match ys, hyl with
      | [y0, y1], _ =>
        simp only [List.drop_zero, List.take_succ_cons, List.take_zero, List.drop_succ_cons, List.getElem?_cons_zero, List.getElem?_cons_succ] at e0 e1
        obtain ⟨x, ex, _, wx⟩ := DataW.trod_int h0 e0
        obtain ⟨zs, n'', _, _, _, hzl, hgg⟩ := DataW.trod_struct h1 e1
        have z0 := hgg 0 g0 rfl
        have z1 := hgg 1 g1 rfl
        rw [q0.1, q0.2] at z0
        rw [q1.1, q1.2] at z1
        match zs, hzl with
        | [c0', c1'], _ =>
          simp only [List.drop_zero, List.take_succ_cons, List.take_zero, List.drop_succ_cons, List.getElem?_cons_zero, List.getElem?_cons_succ] at z0 z1
          obtain ⟨y, ey, _, wy⟩ := DataW.trod_int u0 z0
          obtain ⟨z, ez, _, wz⟩ := DataW.trod_int u1 z1
          simp only [List.cons.injEq, and_true] at ex ey ez
          subst ex ey ez
          simp [Lit.wf] at wx wy wz
          have a0 := hat 0 (by omega)
          have a1 := hat 1 (by omega)
          have a2 := hat 2 (by omega)
          obtain ⟨b, off, spot⟩ := a
          have hspot : spot = none := by
            obtain ⟨cs0, hc0, _⟩ := hi 0 (by omega)
            rw [hc] at hc0
            obtain ⟨_, hl0, hat0⟩ := World.cells?_some hc0
            match cs0, hl0 with
            | [w0, _, _], _ =>
              have h9 : w.cell? (((⟨b, off, spot⟩ : Addr).add (0 * 3)).add 0) = some w0 := hat0 0 (by omega)
              have := World.cell?_spot h9
              simpa [Addr.add] using this
          subst hspot
          rw [add_plain, add_plain] at a0 a1 a2
          exact ⟨b, off, x, y, z, rfl, a0, a1, a2, wx, wy, wz⟩
/-- A list of structs of three integers that comes in. -/
theorem open_triples' {t e : TypeId} {f0 f1 f2 : Field} {k0 k1 k2 : IntKind} {v : Value} {d : DataW H} {p : List MemPlace} (ht : P.underlying t = some (.slice e)) (he : P.underlying e = some (.struct #[f0, f1, f2])) (hc : P.cellsOf e = 3)
    (h0 : P.underlying f0.type = some (.int k0)) (p0 : f0.offset = 0 ∧ P.cellsOf f0.type = 1) (h1 : P.underlying f1.type = some (.int k1)) (p1 : f1.offset = 1 ∧ P.cellsOf f1.type = 1)
    (h2 : P.underlying f2.type = some (.int k2)) (p2 : f2.offset = 2 ∧ P.cellsOf f2.type = 1)
    (hv : Value.okWide P w r b0 t v) (h : DataW.Trod enc P w base (fun _ => true) held t v d p) :
    ∃ (a : Option Addr) (cap n : Nat), v = .slice a n cap ∧ n ≤ cap ∧ cap ≤ 9223372036854775807 ∧ ∀ k, k < n → ∃ b off x y z, a = some ⟨b, off, none⟩ ∧ w.cell? ⟨b, off + k * 3, none⟩ = some (.int k0 x) ∧ w.cell? ⟨b, off + k * 3 + 1, none⟩ = some (.int k1 y) ∧ w.cell? ⟨b, off + k * 3 + 2, none⟩ = some (.int k2 z) ∧
      (k0.min ≤ x ∧ x ≤ k0.max) ∧ (k1.min ≤ y ∧ y ≤ k1.max) ∧ (k2.min ≤ z ∧ z ≤ k2.max) := by
  obtain ⟨a0, n0, c0, rfl⟩ := okWide_slice ht hv
  obtain ⟨fuel, hf⟩ := h
  rcases open_slice ht hf with ⟨hcs, _⟩ | ⟨a, len, cap, m, n, D, Pl, hcs, _, hl, hm, hmm, _, hi⟩
  · simp [Value.cells] at hcs
    obtain ⟨rfl, rfl, rfl⟩ := hcs
    exact ⟨none, 0, 0, rfl, Nat.le_refl _, by omega, fun i hi => by omega⟩
  · simp [Value.cells] at hcs
    obtain ⟨rfl, rfl, rfl⟩ := hcs
    simp only [if_true] at hmm
    subst hmm
    refine ⟨some a, m, n0, rfl, hl, by unfold maxLen at hm; omega, fun k hk => ?_⟩
    obtain ⟨cs', hcc, ht'⟩ := hi k (by omega)
    rw [hc] at hcc
    obtain ⟨_, hlen, hat⟩ := World.cells?_some hcc
    obtain ⟨ys, n', _, _, _, hyl, hff⟩ := DataW.trod_struct he ht'
    match cs', hlen with
    | [v0, v1, v2], _ =>
      have e0 := hff 0 f0 rfl
      have e1 := hff 1 f1 rfl
      have e2 := hff 2 f2 rfl
      rw [p0.1, p0.2] at e0
      rw [p1.1, p1.2] at e1
      rw [p2.1, p2.2] at e2
      match ys, hyl with
      | [y0, y1, y2], _ =>
        simp only [List.drop_zero, List.take_succ_cons, List.take_zero, List.drop_succ_cons, List.getElem?_cons_zero, List.getElem?_cons_succ] at e0 e1 e2
        obtain ⟨x, ex, _, wx⟩ := DataW.trod_int h0 e0
        obtain ⟨y, ey, _, wy⟩ := DataW.trod_int h1 e1
        obtain ⟨z, ez, _, wz⟩ := DataW.trod_int h2 e2
        simp only [List.cons.injEq, and_true] at ex ey ez
        subst ex ey ez
        simp [Lit.wf] at wx wy wz
        have a0 := hat 0 (by omega)
        have a1 := hat 1 (by omega)
        have a2 := hat 2 (by omega)
        obtain ⟨b, off, spot⟩ := a
        have hspot : spot = none := by
          obtain ⟨cs0, hc0, _⟩ := hi 0 (by omega)
          rw [hc] at hc0
          obtain ⟨_, hl0, hat0⟩ := World.cells?_some hc0
          match cs0, hl0 with
          | [w0, _, _], _ =>
            have h9 : w.cell? (((⟨b, off, spot⟩ : Addr).add (0 * 3)).add 0) = some w0 := hat0 0 (by omega)
            have := World.cell?_spot h9
            simpa [Addr.add] using this
        subst hspot
        rw [add_plain, add_plain] at a0 a1 a2
        exact ⟨b, off, x, y, z, rfl, a0, a1, a2, wx, wy, wz⟩
end
end Go.Proofs.Ytbllfokagedpeaa

namespace Go.Proofs.Ytbllfokagedpeaa
open Go.RowKit Go.WideShapes Go.ChangeShapes Go.Deep

section
variable {H : Type} {enc : TypeId × Value → H} {P : Program} {w : World} {base : Nat} {spare : Nat → Bool} {held : Bool} {r : Reach} {b0 : Nat}
theorem open_fives' {t e : TypeId} {f0 f1 f2 f3 g0 g1 : Field} {k0 k1 k2 k3 k4 : IntKind} {v : Value} {d : DataW H} {p : List MemPlace} (ht : P.underlying t = some (.slice e)) (he : P.underlying e = some (.struct #[f0, f1, f2, f3])) (hc : P.cellsOf e = 5)
    (h0 : P.underlying f0.type = some (.int k0)) (p0 : f0.offset = 0 ∧ P.cellsOf f0.type = 1) (h1 : P.underlying f1.type = some (.int k1)) (p1 : f1.offset = 1 ∧ P.cellsOf f1.type = 1) (h2 : P.underlying f2.type = some (.int k2)) (p2 : f2.offset = 2 ∧ P.cellsOf f2.type = 1)
    (h3 : P.underlying f3.type = some (.struct #[g0, g1])) (p3 : f3.offset = 3 ∧ P.cellsOf f3.type = 2)
    (u0 : P.underlying g0.type = some (.int k3)) (q0 : g0.offset = 0 ∧ P.cellsOf g0.type = 1) (u1 : P.underlying g1.type = some (.int k4)) (q1 : g1.offset = 1 ∧ P.cellsOf g1.type = 1)
    (hv : Value.okWide P w r b0 t v) (h : DataW.Trod enc P w base (fun _ => true) held t v d p) :
    ∃ (a : Option Addr) (cap n : Nat), v = .slice a n cap ∧ n ≤ cap ∧ cap ≤ 9223372036854775807 ∧ ∀ k, k < n → ∃ b off x y z i j, a = some ⟨b, off, none⟩ ∧ w.cell? ⟨b, off + k * 5, none⟩ = some (.int k0 x) ∧ w.cell? ⟨b, off + k * 5 + 1, none⟩ = some (.int k1 y) ∧ w.cell? ⟨b, off + k * 5 + 2, none⟩ = some (.int k2 z) ∧
      w.cell? ⟨b, off + k * 5 + 3, none⟩ = some (.int k3 i) ∧ w.cell? ⟨b, off + k * 5 + 4, none⟩ = some (.int k4 j) ∧ (k0.min ≤ x ∧ x ≤ k0.max) ∧ (k1.min ≤ y ∧ y ≤ k1.max) ∧ (k2.min ≤ z ∧ z ≤ k2.max) ∧ (k3.min ≤ i ∧ i ≤ k3.max) ∧ (k4.min ≤ j ∧ j ≤ k4.max) := by
  obtain ⟨a0, n0, c0, rfl⟩ := okWide_slice ht hv
  obtain ⟨fuel, hf⟩ := h
  rcases open_slice ht hf with ⟨hcs, _⟩ | ⟨a, len, cap, m, n, D, Pl, hcs, _, hl, hm, hmm, _, hi⟩
  · simp [Value.cells] at hcs
    obtain ⟨rfl, rfl, rfl⟩ := hcs
    exact ⟨none, 0, 0, rfl, Nat.le_refl _, by omega, fun i hi => by omega⟩
  · simp [Value.cells] at hcs
    obtain ⟨rfl, rfl, rfl⟩ := hcs
    simp only [if_true] at hmm
    subst hmm
    refine ⟨some a, m, n0, rfl, hl, by unfold maxLen at hm; omega, fun k hk => ?_⟩
    obtain ⟨cs', hcc, ht'⟩ := hi k (by omega)
    rw [hc] at hcc
    obtain ⟨_, hlen, hat⟩ := World.cells?_some hcc
    obtain ⟨ys, n', _, _, _, hyl, hff⟩ := DataW.trod_struct he ht'
    match cs', hlen with
    | [v0, v1, v2, v3, v4], _ =>
      have e0 := hff 0 f0 rfl
      have e1 := hff 1 f1 rfl
      have e2 := hff 2 f2 rfl
      have e3 := hff 3 f3 rfl
      rw [p0.1, p0.2] at e0
      rw [p1.1, p1.2] at e1
      rw [p2.1, p2.2] at e2
      rw [p3.1, p3.2] at e3
      match ys, hyl with
      | [y0, y1, y2, y3], _ =>
        simp only [List.drop_zero, List.take_succ_cons, List.take_zero, List.drop_succ_cons, List.getElem?_cons_zero, List.getElem?_cons_succ] at e0 e1 e2 e3
        obtain ⟨x, ex, _, wx⟩ := DataW.trod_int h0 e0
        obtain ⟨y, ey, _, wy⟩ := DataW.trod_int h1 e1
        obtain ⟨z, ez, _, wz⟩ := DataW.trod_int h2 e2
        obtain ⟨zs, n'', _, _, _, hzl, hgg⟩ := DataW.trod_struct h3 e3
        have z0 := hgg 0 g0 rfl
        have z1 := hgg 1 g1 rfl
        rw [q0.1, q0.2] at z0
        rw [q1.1, q1.2] at z1
        match zs, hzl with
        | [c0', c1'], _ =>
          simp only [List.drop_zero, List.take_succ_cons, List.take_zero, List.drop_succ_cons, List.getElem?_cons_zero, List.getElem?_cons_succ] at z0 z1
          obtain ⟨i, ei, _, wi⟩ := DataW.trod_int u0 z0
          obtain ⟨j, ej, _, wj⟩ := DataW.trod_int u1 z1
          simp only [List.cons.injEq, and_true] at ex ey ez ei ej
          subst ex ey ez ei ej
          simp [Lit.wf] at wx wy wz wi wj
          have a0 := hat 0 (by omega)
          have a1 := hat 1 (by omega)
          have a2 := hat 2 (by omega)
          have a3 := hat 3 (by omega)
          have a4 := hat 4 (by omega)
          obtain ⟨b, off, spot⟩ := a
          have hspot : spot = none := by
            obtain ⟨cs0, hc0, _⟩ := hi 0 (by omega)
            rw [hc] at hc0
            obtain ⟨_, hl0, hat0⟩ := World.cells?_some hc0
            match cs0, hl0 with
            | [w0, _, _, _, _], _ =>
              have h9 : w.cell? (((⟨b, off, spot⟩ : Addr).add (0 * 5)).add 0) = some w0 := hat0 0 (by omega)
              have := World.cell?_spot h9
              simpa [Addr.add] using this
          subst hspot
          rw [add_plain, add_plain] at a0 a1 a2 a3 a4
          exact ⟨b, off, x, y, z, i, j, rfl, a0, a1, a2, a3, a4, wx, wy, wz, wi, wj⟩
end
end Go.Proofs.Ytbllfokagedpeaa

namespace Go.Proofs.Ytbllfokagedpeaa

section
variable {n : Nat} {K K' : Int → List Int} {lt : Int → Int → Bool}
/-- Behind i things: they are all below the row's roots; the others are alone. -/
structure Carried (n : Nat) (lt : Int → Int → Bool) (i : Nat) (K : Int → List Int) (r : List Int) : Prop where
  row : RowK n K r
  len : (allR K r).length = i
  lt_i : ∀ x ∈ allR K r, x < i
  off : ∀ x : Int, (i : Int) ≤ x → topK K x ∧ K x = []
  ord : ∀ p x, x ∈ K p → lt x p = false
theorem Carried.start (n : Nat) (lt : Int → Int → Bool) : Carried n lt 0 (fun _ => []) [] :=
  ⟨row_nil _ _, rfl, fun x h => (by cases h), fun x _ => ⟨fun p h => (by cases h), rfl⟩, fun p x h => (by cases h)⟩
theorem Carried.mem {i : Nat} {r : List Int} (I : CInv n K) (h : Carried n lt i K r) {x : Int} (hx : x ∈ r) : x < i := h.lt_i x (mem_allR.2 ⟨x, hx, tree_self I x⟩)
theorem Carried.one {i : Nat} {r : List Int} (h : Carried n lt i K r) (hi : i < n) : RowK n K [(i : Int)] := row_one ⟨by omega, by omega⟩ (h.off i (Int.le_refl _)).1
theorem Carried.apart {i : Nat} {r : List Int} (I : CInv n K) (h : Carried n lt i K r) : ¬ ∃ x ∈ r, x ∈ [(i : Int)] := fun ⟨x, h1, h2⟩ => by
  have := h.mem I h1
  rw [List.mem_singleton.1 h2] at this
  omega
theorem Carried.next {i k : Nat} {r r' m : List Int} (I : CInv n K) (h : Carried n lt i K r) (hi : i < n) (hl : Links n (fun x y => lt x y = true) K (r ++ [(i : Int)]) k K' m) (hm : m.Perm r') (hr : RowK n K' r') : Carried n lt (i + 1) K' r' := by
  have hroots : Roots n K (r ++ [(i : Int)]) := by
    have h1 := h.one hi
    exact ⟨fun x hx => (List.mem_append.1 hx).elim (h.row.inn x) (h1.inn x), fun x hx => (List.mem_append.1 hx).elim (h.row.top x) (h1.top x), List.nodup_append.2 ⟨h.row.roots.nodup, h1.roots.nodup, fun x hx y hy e => h.apart I ⟨x, hx, e ▸ hy⟩⟩⟩
  obtain ⟨I', h1, h2, h3, h4, h5, h6, h7, h8, h9⟩ := Links.all I hroots hl
  have hself : treeK K (i : Int) = [(i : Int)] := by rw [tree_eq I, (h.off i (Int.le_refl _)).2]; rfl
  have hall : (allR K' r').Perm (allR K r ++ [(i : Int)]) := by
    refine (allR_perm hm).symm.trans (h2.trans ?_)
    unfold allR
    rw [List.flatMap_append, List.flatMap_cons, List.flatMap_nil, List.append_nil, hself]
  refine ⟨hr, ?_, fun x hx => ?_, fun x hx => ?_, fun p x hx => ?_⟩
  · rw [hall.length_eq, List.length_append, h.len]; rfl
  · rcases List.mem_append.1 (hall.mem_iff.1 hx) with e | e
    · have := h.lt_i x e; omega
    · rw [List.mem_singleton.1 e]; omega
  · have hxl : x ∉ r ++ [(i : Int)] := fun h9 => by
      rcases List.mem_append.1 h9 with e | e
      · have := h.mem I e; omega
      · rw [List.mem_singleton.1 e] at hx; omega
    have h9 := h.off x (by omega)
    exact ⟨(h7 x hxl).2 h9.1, by rw [h6 x hxl]; exact h9.2⟩
  · rcases h4 p x hx with e | ⟨e, _⟩
    · exact h.ord p x e
    · simpa using e
end
/-- The places of the ones below b. -/
def onesB (N b : Nat) : List Nat := (List.range b).filter fun i => N.testBit i
theorem ones_succ (N b : Nat) : onesB N (b + 1) = onesB N b ++ (if N.testBit b then [b] else []) := digits_step N b
theorem ones_none (N b : Nat) : ∀ c, (∀ j, b ≤ j → N.testBit j = false) → b ≤ c → onesB N c = onesB N b := fun c h hc => by
  induction hc with
  | refl => rfl
  | step hbc ih => rw [ones_succ, h _ hbc]; simp [ih]
theorem ones_at (N b : Nat) : ∀ c, b < c → N.testBit b = true → (onesB N c)[(onesB N b).length]? = some b := fun c hc ht => by
  induction hc with
  | refl => rw [ones_succ, ht]; simp
  | @step m hbc ih =>
    rw [ones_succ]
    have h1 := (List.getElem?_eq_some_iff.1 ih).1
    rw [List.getElem?_append_left h1]
    exact ih
theorem carried_digits {n : Nat} {K : Int → List Int} {lt : Int → Int → Bool} {i : Nat} {r : List Int} (I : CInv n K) (h : Carried n lt i K r) (hi : i < 128) : (r.map fun x => (K x).length) = onesB i 7 := by
  have := h.row.digits I (k := 7) (by rw [h.len]; exact hi)
  rw [h.len] at this
  exact this
theorem carried_at {n : Nat} {K : Int → List Int} {lt : Int → Int → Bool} {i : Nat} {r : List Int} (I : CInv n K) (h : Carried n lt i K r) (hi : i < 128) {b : Nat} (hb : b < 7) (ht : i.testBit b = true) : (onesB i b).length < r.length ∧ (K (r.getD (onesB i b).length 0)).length = b := by
  have h1 := carried_digits I h hi
  have h2 := ones_at i b 7 hb ht
  rw [← h1, List.getElem?_map] at h2
  cases e : r[(onesB i b).length]? with
  | none => rw [e] at h2; cases h2
  | some x =>
    rw [e] at h2
    have h3 := (List.getElem?_eq_some_iff.1 e).1
    refine ⟨h3, ?_⟩
    have h4 : r.getD (onesB i b).length 0 = x := by simp [List.getD_eq_getElem?_getD, e]
    rw [h4]
    simpa using h2
theorem carried_end {n : Nat} {K : Int → List Int} {lt : Int → Int → Bool} {i : Nat} {r : List Int} (I : CInv n K) (h : Carried n lt i K r) (hi : i < 128) {b : Nat} (hb : b ≤ 7) (h0 : i >>> b = 0) : (onesB i b).length = r.length := by
  have h1 := carried_digits I h hi
  have h2 : ∀ j, b ≤ j → i.testBit j = false := fun j hj => by
    have : (i >>> b).testBit (j - b) = false := by rw [h0]; exact Nat.zero_testBit _
    rw [Nat.testBit_shiftRight] at this
    rwa [show b + (j - b) = j by omega] at this
  have h3 := ones_none i b 7 h2 hb
  rw [← h3, ← h1, List.length_map]
theorem shift_and (N b : Nat) : (N >>> b) % 2 = if N.testBit b then 1 else 0 := by
  have h : N.testBit b = ((N >>> b) % 2 == 1) := by
    rw [Nat.testBit_eq_decide_div_mod_eq, Nat.shiftRight_eq_div_pow]
    cases h2 : decide (N / 2 ^ b % 2 = 1)
    · have := of_decide_eq_false h2; simp [this]
    · have := of_decide_eq_true h2; simp [this]
  rw [h]
  have : (N >>> b) % 2 = 0 ∨ (N >>> b) % 2 = 1 := by omega
  rcases this with e | e <;> simp [e]
end Go.Proofs.Ytbllfokagedpeaa
