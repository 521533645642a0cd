/- Merged of BinLimits, Open, Open2. -/
import Derived.Test.YtmoolbmbdnkooaaGreatBinAlive
import Derived.Test.YtmoolbmbdnkooaaGreatNestNum
import Derived.Test.YtmoolbmbdnkooaaGreatLaw
import Derived.Deep.Grids
namespace Go.Proofs.YtmoolbmbdnkooaaGreat
open Go.RowKit Go.Sort

/-- The digits of how many there are, against how many steps there may be. -/
theorem bin_most {a b : Nat} (h : a ≤ b) (hb : b ≤ 131072) : 4 * ((Lib.bitLen a : Nat) + 1 : Int) ≤ limitI 3 0 ((b : Int) + 1) := by
  have hc : callI 3 0 = 4 := by decide
  have hn : nearI ((b : Int) + 1) = ((b + 1 : Nat) : Int) := by unfold nearI; rw [if_neg (by omega), if_neg (by omega)]; omega
  unfold limitI bitsI
  rw [hc, hn, Int.toNat_natCast]
  have h3 := bitLen_mono (a := a) (b := b + 1) (by omega) (by omega)
  omega
theorem bin_limit {W : WS} {k y x q r s s' : Int} (hf : W.Fit) (h : binR W k y x q r s s') : id s ≤ id s' ∧ id s' ≤ id s + mostW 3 0 false W k y x := by
  obtain ⟨h0, h1, _⟩ := h
  have hl : ∀ z, lenW W z ≤ 65536 := fun z => Nat.le_trans (len_le W z) hf.cap
  refine ⟨h0, ?_⟩
  show s' ≤ s + _
  have eM : mostW 3 0 false W k y x = limitI 3 0 (sizeA W k y x + sizeB W k x + 1) := by unfold mostW; rw [if_neg (fun h => by cases h.2)]
  rw [eM]
  by_cases e6 : k = 6
  · have eA : sizeA W k y x = lenW W y := by simp [sizeA, e6]
    have eB : sizeB W k x = lenW W x := by simp [sizeB, e6]
    have eS : binSz W k y x = lenW W y + lenW W x := by simp [binSz, e6]
    rw [eA, eB, ← Int.natCast_add]
    rw [eS] at h1
    have := bin_most (a := lenW W y + lenW W x) (Nat.le_refl _) (by have := hl y; have := hl x; omega)
    omega
  · have eB : sizeB W k x = 0 := by simp [sizeB, e6]
    have eA : sizeA W k y x = lenW W (heapOf W k y x) := by simp [sizeA, e6]
    have hS : binSz W k y x ≤ lenW W (heapOf W k y x) := by
      unfold binSz heapOf
      rw [if_neg e6]
      by_cases e45 : k = 4 ∨ k = 5
      · rw [if_pos e45]
        cases hin : inW W x
        · exact Nat.zero_le _
        · rw [if_pos rfl, if_pos ⟨e45, rfl⟩]; exact Nat.le_refl _
      · rw [if_neg e45, if_neg (fun h => e45 h.1)]; exact Nat.le_refl _
    rw [eA, eB, Int.add_zero]
    have := bin_most hS (by have := hl (heapOf W k y x); omega)
    omega
theorem bconfig_any (w : World) : Calls Tryz.prog 7 #[] w fun e w' => e = .returned (.agg #[.int .i64 3, .int .i64 0]) ∧ Below w.heap.size w w' := by
  have hs := (Stage.start w).alloc #[.int .i64 0, .int .i64 0] 30
  have f0 := hs.free 0 rfl 0
  have f1 := hs.free 0 rfl 1
  have hs2 := (hs.store 0 rfl 0 (.int .i64 3)).store 0 rfl 1 (.int .i64 0)
  have k0 := hs2.cell 0 rfl (o := 0) rfl
  have k1 := hs2.cell 0 rfl (o := 1) rfl
  go_enter Tryz.func7, Tryz.ntmps7
  go_wp2_with fail
  exact bodyPost_ret (v := .agg #[.int .i64 3, .int .i64 0]) (by simp [results, Tryz.results7, go_sem]) rfl ⟨rfl, ((Stage.start w).alloc #[.int .i64 3, .int .i64 0] 30).below⟩
set_option maxRecDepth 100000 in
theorem blimits_walk (C : Nat) (hC : C ≤ 255) (a0 : Option Addr) (n0 cap : Nat) (hcap : n0 ≤ cap ∧ cap ≤ 9223372036854775807) (w : World) (hact : ActsAt w a0 n0) :
    Calls Tryz.prog 3 #[.int .u8 C, .slice a0 n0 cap] w fun e w' => e = .returned (.bool true) ∧ Below w.heap.size w w' := by
  obtain ⟨m, hm⟩ : ∃ m, m = C % 200 := ⟨_, rfl⟩
  have hm30 : m < 200 := by omega
  have q1 : Int.tmod (C : Int) 200 = (m : Int) := by rw [hm]; exact (Int.ofNat_tmod C 200).symm
  clear hm
  go_enter Tryz.func3, Tryz.ntmps3
  go_wp2_with fail
  refine (balive_any w).mono ?_
  rintro e w1 ⟨rfl, hb⟩
  go_wp2_with fail
  refine (bin_start m (by omega) ((Stage.start w).later hb)).mono ?_
  rintro e w2 ⟨p, c, rfl, hs⟩
  by_cases h60 : (300 : Int) < n0
  · go_wp2_with fail
    go_ret
    exact ⟨rfl, hs.below⟩
  · go_wp2_with fail
    refine (bconfig_any w2).mono ?_
    rintro e w3 ⟨rfl, hb2⟩
    have hs3 := hs.later hb2
    have hR := limits_num (g := (0 : Int)) (bin_nests p c) 3 0 false (fun h => bin_range h) (fun hf h => bin_limit hf h) m (by omega) a0 n0 cap hcap hact hs3
    go_wp2_with fail
    refine hR.mono ?_
    rintro e w4 ⟨rfl, hb3⟩
    go_wp2_with fail
    go_ret
    exact ⟨rfl, hb3⟩
end Go.Proofs.YtmoolbmbdnkooaaGreat

namespace Go.Proofs.YtmoolbmbdnkooaaGreat
open Go.RowKit Go.WideShapes Go.ChangeShapes Go.Deep

section
variable {H : Type} {enc : TypeId × Value → H} {P : Program} {w : World} {base : Nat} {spare : Nat → Bool} {held : Bool} {r : Reach} {b0 : Nat}
/-- A list of bools that comes in. -/
theorem open_bools' {t e : TypeId} {v : Value} {d : DataW H} {p : List MemPlace} (ht : P.underlying t = some (.slice e)) (he : P.underlying e = some .bool) (hc : P.cellsOf e = 1)
    (hv : Value.okWide P w r b0 t v) (h : DataW.Trod enc P w base (fun _ => true) held t v d p) :
    ∃ (a : Option Addr) (cap : Nat) (l : List Bool), v = .slice a l.length cap ∧ l.length ≤ cap ∧ cap ≤ 9223372036854775807 ∧ ∀ k, k < l.length → ∃ b off, a = some ⟨b, off, none⟩ ∧ w.cell? ⟨b, off + k, none⟩ = some (.bool (l.getD k false)) := by
  obtain ⟨a0, n0, c0, rfl⟩ := okWide_slice ht hv
  obtain ⟨fuel, hf⟩ := h
  rcases open_bools ht he hc hf with ⟨hcs, _⟩ | ⟨a, len, cap, B, hcs, _, hl, hm, _, hcell⟩
  · simp [Value.cells] at hcs
    obtain ⟨rfl, rfl, rfl⟩ := hcs
    exact ⟨none, 0, [], rfl, Nat.le_refl _, by omega, fun i hi => by simp at hi⟩
  · simp [Value.cells] at hcs
    obtain ⟨rfl, rfl, rfl⟩ := hcs
    have hlen : ((List.range n0).map B).length = n0 := by simp
    refine ⟨some a, c0, (List.range n0).map B, by rw [hlen], by rw [hlen]; exact hl, by unfold maxLen at hm; omega, fun i hi => ?_⟩
    rw [hlen] at hi
    have h := hcell i (by omega)
    obtain ⟨b, off, spot⟩ := a
    have hspot : spot = none := by simpa [Addr.add] using World.cell?_spot (hcell 0 (by omega))
    subst hspot
    refine ⟨b, off, rfl, ?_⟩
    rw [add_plain] at h
    rw [h]
    simp [List.getD, hi]
/-- A list of structs {int; struct {int; int}} that comes in. -/
theorem open_acts' {t e : TypeId} {f0 f1 g0 g1 : Field} {k0 k1 k2 : IntKind} {v : Value} {d : DataW H} {p : List MemPlace} (ht : P.underlying t = some (.slice e)) (he : P.underlying e = some (.struct #[f0, f1])) (hc : P.cellsOf e = 3)
    (h0 : P.underlying f0.type = some (.int k0)) (p0 : f0.offset = 0 ∧ P.cellsOf f0.type = 1) (h1 : P.underlying f1.type = some (.struct #[g0, g1])) (p1 : f1.offset = 1 ∧ P.cellsOf f1.type = 2)
    (u0 : P.underlying g0.type = some (.int k1)) (q0 : g0.offset = 0 ∧ P.cellsOf g0.type = 1) (u1 : P.underlying g1.type = some (.int k2)) (q1 : g1.offset = 1 ∧ P.cellsOf g1.type = 1)
    (hv : Value.okWide P w r b0 t v) (h : DataW.Trod enc P w base (fun _ => true) held t v d p) :
    ∃ (a : Option Addr) (cap n : Nat), v = .slice a n cap ∧ n ≤ cap ∧ cap ≤ 9223372036854775807 ∧ ∀ k, k < n → ∃ b off x y z, a = some ⟨b, off, none⟩ ∧ w.cell? ⟨b, off + k * 3, none⟩ = some (.int k0 x) ∧ w.cell? ⟨b, off + k * 3 + 1, none⟩ = some (.int k1 y) ∧ w.cell? ⟨b, off + k * 3 + 2, none⟩ = some (.int k2 z) ∧
      (k0.min ≤ x ∧ x ≤ k0.max) ∧ (k1.min ≤ y ∧ y ≤ k1.max) ∧ (k2.min ≤ z ∧ z ≤ k2.max) := by
  obtain ⟨a0, n0, c0, rfl⟩ := okWide_slice ht hv
  obtain ⟨fuel, hf⟩ := h
  rcases open_slice ht hf with ⟨hcs, _⟩ | ⟨a, len, cap, m, n, D, Pl, hcs, _, hl, hm, hmm, _, hi⟩
  · simp [Value.cells] at hcs
    obtain ⟨rfl, rfl, rfl⟩ := hcs
    exact ⟨none, 0, 0, rfl, Nat.le_refl _, by omega, fun i hi => by omega⟩
  · simp [Value.cells] at hcs
    obtain ⟨rfl, rfl, rfl⟩ := hcs
    simp only [if_true] at hmm
    subst hmm
    refine ⟨some a, m, n0, rfl, hl, by unfold maxLen at hm; omega, fun k hk => ?_⟩
    obtain ⟨cs', hcc, ht'⟩ := hi k (by omega)
    rw [hc] at hcc
    obtain ⟨_, hlen, hat⟩ := World.cells?_some hcc
    obtain ⟨ys, n', _, _, _, hyl, hff⟩ := DataW.trod_struct he ht'
    match cs', hlen with
    | [v0, v1, v2], _ =>
      have e0 := hff 0 f0 rfl
      have e1 := hff 1 f1 rfl
      rw [p0.1, p0.2] at e0
      rw [p1.1, p1.2] at e1
      match ys, hyl with
      | [y0, y1], _ =>
        simp only [List.drop_zero, List.take_succ_cons, List.take_zero, List.drop_succ_cons, List.getElem?_cons_zero, List.getElem?_cons_succ] at e0 e1
        obtain ⟨x, ex, _, wx⟩ := DataW.trod_int h0 e0
        obtain ⟨zs, n'', _, _, _, hzl, hgg⟩ := DataW.trod_struct h1 e1
        have z0 := hgg 0 g0 rfl
        have z1 := hgg 1 g1 rfl
        rw [q0.1, q0.2] at z0
        rw [q1.1, q1.2] at z1
        match zs, hzl with
        | [c0', c1'], _ =>
          simp only [List.drop_zero, List.take_succ_cons, List.take_zero, List.drop_succ_cons, List.getElem?_cons_zero, List.getElem?_cons_succ] at z0 z1
          obtain ⟨y, ey, _, wy⟩ := DataW.trod_int u0 z0
          obtain ⟨z, ez, _, wz⟩ := DataW.trod_int u1 z1
          simp only [List.cons.injEq, and_true] at ex ey ez
          subst ex ey ez
          simp [Lit.wf] at wx wy wz
          have a0 := hat 0 (by omega)
          have a1 := hat 1 (by omega)
          have a2 := hat 2 (by omega)
          obtain ⟨b, off, spot⟩ := a
          have hspot : spot = none := by
            obtain ⟨cs0, hc0, _⟩ := hi 0 (by omega)
            rw [hc] at hc0
            obtain ⟨_, hl0, hat0⟩ := World.cells?_some hc0
            match cs0, hl0 with
            | [w0, _, _], _ =>
              have h9 : w.cell? (((⟨b, off, spot⟩ : Addr).add (0 * 3)).add 0) = some w0 := hat0 0 (by omega)
              have := World.cell?_spot h9
              simpa [Addr.add] using this
          subst hspot
          rw [add_plain, add_plain] at a0 a1 a2
          exact ⟨b, off, x, y, z, rfl, a0, a1, a2, wx, wy, wz⟩
/-- A list of structs of three integers that comes in. -/
theorem open_triples' {t e : TypeId} {f0 f1 f2 : Field} {k0 k1 k2 : IntKind} {v : Value} {d : DataW H} {p : List MemPlace} (ht : P.underlying t = some (.slice e)) (he : P.underlying e = some (.struct #[f0, f1, f2])) (hc : P.cellsOf e = 3)
    (h0 : P.underlying f0.type = some (.int k0)) (p0 : f0.offset = 0 ∧ P.cellsOf f0.type = 1) (h1 : P.underlying f1.type = some (.int k1)) (p1 : f1.offset = 1 ∧ P.cellsOf f1.type = 1)
    (h2 : P.underlying f2.type = some (.int k2)) (p2 : f2.offset = 2 ∧ P.cellsOf f2.type = 1)
    (hv : Value.okWide P w r b0 t v) (h : DataW.Trod enc P w base (fun _ => true) held t v d p) :
    ∃ (a : Option Addr) (cap n : Nat), v = .slice a n cap ∧ n ≤ cap ∧ cap ≤ 9223372036854775807 ∧ ∀ k, k < n → ∃ b off x y z, a = some ⟨b, off, none⟩ ∧ w.cell? ⟨b, off + k * 3, none⟩ = some (.int k0 x) ∧ w.cell? ⟨b, off + k * 3 + 1, none⟩ = some (.int k1 y) ∧ w.cell? ⟨b, off + k * 3 + 2, none⟩ = some (.int k2 z) ∧
      (k0.min ≤ x ∧ x ≤ k0.max) ∧ (k1.min ≤ y ∧ y ≤ k1.max) ∧ (k2.min ≤ z ∧ z ≤ k2.max) := by
  obtain ⟨a0, n0, c0, rfl⟩ := okWide_slice ht hv
  obtain ⟨fuel, hf⟩ := h
  rcases open_slice ht hf with ⟨hcs, _⟩ | ⟨a, len, cap, m, n, D, Pl, hcs, _, hl, hm, hmm, _, hi⟩
  · simp [Value.cells] at hcs
    obtain ⟨rfl, rfl, rfl⟩ := hcs
    exact ⟨none, 0, 0, rfl, Nat.le_refl _, by omega, fun i hi => by omega⟩
  · simp [Value.cells] at hcs
    obtain ⟨rfl, rfl, rfl⟩ := hcs
    simp only [if_true] at hmm
    subst hmm
    refine ⟨some a, m, n0, rfl, hl, by unfold maxLen at hm; omega, fun k hk => ?_⟩
    obtain ⟨cs', hcc, ht'⟩ := hi k (by omega)
    rw [hc] at hcc
    obtain ⟨_, hlen, hat⟩ := World.cells?_some hcc
    obtain ⟨ys, n', _, _, _, hyl, hff⟩ := DataW.trod_struct he ht'
    match cs', hlen with
    | [v0, v1, v2], _ =>
      have e0 := hff 0 f0 rfl
      have e1 := hff 1 f1 rfl
      have e2 := hff 2 f2 rfl
      rw [p0.1, p0.2] at e0
      rw [p1.1, p1.2] at e1
      rw [p2.1, p2.2] at e2
      match ys, hyl with
      | [y0, y1, y2], _ =>
        simp only [List.drop_zero, List.take_succ_cons, List.take_zero, List.drop_succ_cons, List.getElem?_cons_zero, List.getElem?_cons_succ] at e0 e1 e2
        obtain ⟨x, ex, _, wx⟩ := DataW.trod_int h0 e0
        obtain ⟨y, ey, _, wy⟩ := DataW.trod_int h1 e1
        obtain ⟨z, ez, _, wz⟩ := DataW.trod_int h2 e2
        simp only [List.cons.injEq, and_true] at ex ey ez
        subst ex ey ez
        simp [Lit.wf] at wx wy wz
        have a0 := hat 0 (by omega)
        have a1 := hat 1 (by omega)
        have a2 := hat 2 (by omega)
        obtain ⟨b, off, spot⟩ := a
        have hspot : spot = none := by
          obtain ⟨cs0, hc0, _⟩ := hi 0 (by omega)
          rw [hc] at hc0
          obtain ⟨_, hl0, hat0⟩ := World.cells?_some hc0
          match cs0, hl0 with
          | [w0, _, _], _ =>
            have h9 : w.cell? (((⟨b, off, spot⟩ : Addr).add (0 * 3)).add 0) = some w0 := hat0 0 (by omega)
            have := World.cell?_spot h9
            simpa [Addr.add] using this
        subst hspot
        rw [add_plain, add_plain] at a0 a1 a2
        exact ⟨b, off, x, y, z, rfl, a0, a1, a2, wx, wy, wz⟩
end
end Go.Proofs.YtmoolbmbdnkooaaGreat

namespace Go.Proofs.YtmoolbmbdnkooaaGreat
open Go.RowKit Go.WideShapes Go.ChangeShapes Go.Deep

section
variable {H : Type} {enc : TypeId × Value → H} {P : Program} {w : World} {base : Nat} {spare : Nat → Bool} {held : Bool} {r : Reach} {b0 : Nat}
theorem open_fives' {t e : TypeId} {f0 f1 f2 f3 g0 g1 : Field} {k0 k1 k2 k3 k4 : IntKind} {v : Value} {d : DataW H} {p : List MemPlace} (ht : P.underlying t = some (.slice e)) (he : P.underlying e = some (.struct #[f0, f1, f2, f3])) (hc : P.cellsOf e = 5)
    (h0 : P.underlying f0.type = some (.int k0)) (p0 : f0.offset = 0 ∧ P.cellsOf f0.type = 1) (h1 : P.underlying f1.type = some (.int k1)) (p1 : f1.offset = 1 ∧ P.cellsOf f1.type = 1) (h2 : P.underlying f2.type = some (.int k2)) (p2 : f2.offset = 2 ∧ P.cellsOf f2.type = 1)
    (h3 : P.underlying f3.type = some (.struct #[g0, g1])) (p3 : f3.offset = 3 ∧ P.cellsOf f3.type = 2)
    (u0 : P.underlying g0.type = some (.int k3)) (q0 : g0.offset = 0 ∧ P.cellsOf g0.type = 1) (u1 : P.underlying g1.type = some (.int k4)) (q1 : g1.offset = 1 ∧ P.cellsOf g1.type = 1)
    (hv : Value.okWide P w r b0 t v) (h : DataW.Trod enc P w base (fun _ => true) held t v d p) :
    ∃ (a : Option Addr) (cap n : Nat), v = .slice a n cap ∧ n ≤ cap ∧ cap ≤ 9223372036854775807 ∧ ∀ k, k < n → ∃ b off x y z i j, a = some ⟨b, off, none⟩ ∧ w.cell? ⟨b, off + k * 5, none⟩ = some (.int k0 x) ∧ w.cell? ⟨b, off + k * 5 + 1, none⟩ = some (.int k1 y) ∧ w.cell? ⟨b, off + k * 5 + 2, none⟩ = some (.int k2 z) ∧
      w.cell? ⟨b, off + k * 5 + 3, none⟩ = some (.int k3 i) ∧ w.cell? ⟨b, off + k * 5 + 4, none⟩ = some (.int k4 j) ∧ (k0.min ≤ x ∧ x ≤ k0.max) ∧ (k1.min ≤ y ∧ y ≤ k1.max) ∧ (k2.min ≤ z ∧ z ≤ k2.max) ∧ (k3.min ≤ i ∧ i ≤ k3.max) ∧ (k4.min ≤ j ∧ j ≤ k4.max) := by
  obtain ⟨a0, n0, c0, rfl⟩ := okWide_slice ht hv
  obtain ⟨fuel, hf⟩ := h
  rcases open_slice ht hf with ⟨hcs, _⟩ | ⟨a, len, cap, m, n, D, Pl, hcs, _, hl, hm, hmm, _, hi⟩
  · simp [Value.cells] at hcs
    obtain ⟨rfl, rfl, rfl⟩ := hcs
    exact ⟨none, 0, 0, rfl, Nat.le_refl _, by omega, fun i hi => by omega⟩
  · simp [Value.cells] at hcs
    obtain ⟨rfl, rfl, rfl⟩ := hcs
    simp only [if_true] at hmm
    subst hmm
    refine ⟨some a, m, n0, rfl, hl, by unfold maxLen at hm; omega, fun k hk => ?_⟩
    obtain ⟨cs', hcc, ht'⟩ := hi k (by omega)
    rw [hc] at hcc
    obtain ⟨_, hlen, hat⟩ := World.cells?_some hcc
    obtain ⟨ys, n', _, _, _, hyl, hff⟩ := DataW.trod_struct he ht'
    match cs', hlen with
    | [v0, v1, v2, v3, v4], _ =>
      have e0 := hff 0 f0 rfl
      have e1 := hff 1 f1 rfl
      have e2 := hff 2 f2 rfl
      have e3 := hff 3 f3 rfl
      rw [p0.1, p0.2] at e0
      rw [p1.1, p1.2] at e1
      rw [p2.1, p2.2] at e2
      rw [p3.1, p3.2] at e3
      match ys, hyl with
      | [y0, y1, y2, y3], _ =>
        simp only [List.drop_zero, List.take_succ_cons, List.take_zero, List.drop_succ_cons, List.getElem?_cons_zero, List.getElem?_cons_succ] at e0 e1 e2 e3
        obtain ⟨x, ex, _, wx⟩ := DataW.trod_int h0 e0
        obtain ⟨y, ey, _, wy⟩ := DataW.trod_int h1 e1
        obtain ⟨z, ez, _, wz⟩ := DataW.trod_int h2 e2
        obtain ⟨zs, n'', _, _, _, hzl, hgg⟩ := DataW.trod_struct h3 e3
        have z0 := hgg 0 g0 rfl
        have z1 := hgg 1 g1 rfl
        rw [q0.1, q0.2] at z0
        rw [q1.1, q1.2] at z1
        match zs, hzl with
        | [c0', c1'], _ =>
          simp only [List.drop_zero, List.take_succ_cons, List.take_zero, List.drop_succ_cons, List.getElem?_cons_zero, List.getElem?_cons_succ] at z0 z1
          obtain ⟨i, ei, _, wi⟩ := DataW.trod_int u0 z0
          obtain ⟨j, ej, _, wj⟩ := DataW.trod_int u1 z1
          simp only [List.cons.injEq, and_true] at ex ey ez ei ej
          subst ex ey ez ei ej
          simp [Lit.wf] at wx wy wz wi wj
          have a0 := hat 0 (by omega)
          have a1 := hat 1 (by omega)
          have a2 := hat 2 (by omega)
          have a3 := hat 3 (by omega)
          have a4 := hat 4 (by omega)
          obtain ⟨b, off, spot⟩ := a
          have hspot : spot = none := by
            obtain ⟨cs0, hc0, _⟩ := hi 0 (by omega)
            rw [hc] at hc0
            obtain ⟨_, hl0, hat0⟩ := World.cells?_some hc0
            match cs0, hl0 with
            | [w0, _, _, _, _], _ =>
              have h9 : w.cell? (((⟨b, off, spot⟩ : Addr).add (0 * 5)).add 0) = some w0 := hat0 0 (by omega)
              have := World.cell?_spot h9
              simpa [Addr.add] using this
          subst hspot
          rw [add_plain, add_plain] at a0 a1 a2 a3 a4
          exact ⟨b, off, x, y, z, i, j, rfl, a0, a1, a2, a3, a4, wx, wy, wz, wi, wj⟩
end
end Go.Proofs.YtmoolbmbdnkooaaGreat
