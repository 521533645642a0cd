/- Merged of FiWalks, Open, Open2, Open3, FiTreesMath. -/
import Derived.Test.YtcjjglaimfhofaaFiWhole
import Derived.Test.YtcjjglaimfhofaaLaw
import Derived.Deep.Grids
namespace Go.Proofs.Ytcjjglaimfhofaa
open Go.RowKit Go.Sort

theorem fconfig_any (w : World) : Calls Try.prog 18 #[] w fun e w' => e = .returned (.agg #[.int .i64 5, .int .i64 0]) ∧ Below w.heap.size w w' := by
  have hs := (Stage.start w).alloc #[.int .i64 0, .int .i64 0] 47
  have f0 := hs.free 0 rfl 0
  have f1 := hs.free 0 rfl 1
  have hs2 := (hs.store 0 rfl 0 (.int .i64 5)).store 0 rfl 1 (.int .i64 0)
  have k0 := hs2.cell 0 rfl (o := 0) rfl
  have k1 := hs2.cell 0 rfl (o := 1) rfl
  go_enter Try.func18, Try.ntmps18
  go_wp2_with fail
  exact bodyPost_ret (v := .agg #[.int .i64 5, .int .i64 0]) (by simp [results, Try.results18, go_sem]) rfl ⟨rfl, ((Stage.start w).alloc #[.int .i64 5, .int .i64 0] 47).below⟩
set_option maxRecDepth 100000 in
theorem fnew_walk (n : Int) (w : World) : Calls Try.prog 3 #[.int .i64 n] w fun e w' => e = .returned (.bool true) ∧ Below w.heap.size w w' := by
  by_cases hn : 0 ≤ n ∧ n ≤ 65536
  · obtain ⟨k, rfl⟩ : ∃ k : Nat, n = k := ⟨n.toNat, by omega⟩
    have h1 : ¬ (k : Int) < 0 := by omega
    have h2 : ¬ (65536 : Int) < k := by omega
    go_enter Try.func3, Try.ntmps3
    go_wp2_with fail
    refine (falive_any w).mono ?_
    rintro e w1 ⟨rfl, hb⟩
    go_wp2_with fail
    refine (fib_start k (by omega) ((Stage.start w).later hb)).mono ?_
    rintro e w2 ⟨p, c, rfl, hs⟩
    have N := fib_nests p c
    have p0 := (hs.get (i := 0) rfl).elim fun _ ho => fib_there ho
    unfold fibH at p0
    have hC : Calls Try.prog 12 #[ptrV c] w2 fun e w' => e = .returned (.int .i64 k) ∧ Stage (fun _ => False) w [Ob.fibn p c (newW k) fiG0] w' := by
      have := hs.askB 0 rfl (fun _ ho => N.cap (g := fiG0) ho)
      rw [show ((newW k).cells.length : Int) = k by simp [newW]] at this
      exact this
    go_wp2_with fail
    refine hC.mono ?_
    rintro e w3 ⟨rfl, hs3⟩
    clear hC hs p0
    have p0 := (hs3.get (i := 0) rfl).elim fun _ ho => fib_there ho
    unfold fibH at p0
    have hS : Calls Try.prog 13 #[ptrV c] w3 fun e w' => e = .returned (.int .i64 0) ∧ Stage (fun _ => False) w [Ob.fibn p c (newW k) fiG0] w' := hs3.askB 0 rfl (fun _ ho => N.steps (g := fiG0) ho)
    go_wp2_with fail
    refine hS.mono ?_
    rintro e w4 ⟨rfl, hs4⟩
    clear hS hs3 p0
    have p0 := (hs4.get (i := 0) rfl).elim fun _ ho => fib_there ho
    unfold fibH at p0
    have hH : Calls Try.prog 14 #[ptrV c, .int .i64 1] w4 fun e w' => e = .returned (.bool false) ∧ Stage (fun _ => False) w [Ob.fibn p c (newW k) fiG0] w' := hs4.askB 0 rfl (fun _ ho => N.has (g := fiG0) 1 ho)
    go_wp2_with fail
    refine hH.mono ?_
    rintro e w5 ⟨rfl, hs5⟩
    clear hH hs4 p0
    have p0 := (hs5.get (i := 0) rfl).elim fun _ ho => fib_there ho
    unfold fibH at p0
    have hL : Calls Try.prog 15 #[ptrV c, .int .i64 1] w5 fun e w' => e = .returned (.int .i64 0) ∧ Stage (fun _ => False) w [Ob.fibn p c (newW k) fiG0] w' := by
      have := hs5.askB 0 rfl (fun _ ho => N.len (g := fiG0) 1 ⟨by omega, by omega⟩ ho)
      rw [show lenW (newW k) 1 = 0 by simp [lenW, newW, List.countP_replicate, CellD.off]] at this
      exact this
    go_wp2_with fail
    refine hL.mono ?_
    rintro e w6 ⟨rfl, hs6⟩
    go_wp2_with fail
    go_ret
    exact ⟨rfl, hs6.below⟩
  · have hno := new_fib_no n
    go_enter Try.func3, Try.ntmps3
    go_wp2_with fail
    refine (falive_any w).mono ?_
    rintro e w1 ⟨rfl, hb⟩
    by_cases h1 : n < 0
    · go_wp2_with fail
      refine (hno w1 hn).mono ?_
      rintro e w2 ⟨rfl, rfl⟩
      go_wp2_with fail
      go_ret
      exact ⟨rfl, hb⟩
    · have h2 : (65536 : Int) < n := by omega
      go_wp2_with fail
      refine (hno w1 hn).mono ?_
      rintro e w2 ⟨rfl, rfl⟩
      go_wp2_with fail
      go_ret
      exact ⟨rfl, hb⟩
set_option maxRecDepth 100000 in
theorem fruns_walk (C : Nat) (hC : C ≤ 255) (a0 : Option Addr) (n0 cap : Nat) (hcap : n0 ≤ cap ∧ cap ≤ 9223372036854775807) (w : World) (hact : ActsAt w a0 n0) :
    Calls Try.prog 4 #[.int .u8 C, .slice a0 n0 cap] w fun e w' => e = .returned (.bool true) ∧ Below w.heap.size w w' := by
  obtain ⟨m, hm⟩ : ∃ m, m = C % 30 := ⟨_, rfl⟩
  have hm30 : m < 30 := by omega
  have q1 : Int.tmod (C : Int) 30 = (m : Int) := by rw [hm]; exact (Int.ofNat_tmod C 30).symm
  clear hm
  go_enter Try.func4, Try.ntmps4
  go_wp2_with fail
  refine (falive_any w).mono ?_
  rintro e w1 ⟨rfl, hb⟩
  go_wp2_with fail
  refine (fib_start m (by omega) ((Stage.start w).later hb)).mono ?_
  rintro e w2 ⟨p, c, rfl, hs⟩
  by_cases h60 : (60 : Int) < n0
  · go_wp2_with fail
    go_ret
    exact ⟨rfl, hs.below⟩
  · have hR := runs_one (runs_any (g := fiG0) (fib_nests p c) m (by omega) a0 n0 cap hcap hact hs)
    go_wp2_with fail
    refine hR.mono ?_
    rintro e w3 ⟨rfl, hb3⟩
    go_wp2_with fail
    go_ret
    exact ⟨rfl, hb3⟩
set_option maxRecDepth 100000 in
theorem fwholes_walk (C : Nat) (hC : C ≤ 255) (a0 : Option Addr) (n0 cap : Nat) (hcap : n0 ≤ cap ∧ cap ≤ 9223372036854775807) (w : World) (hact : ActsAt w a0 n0) :
    Calls Try.prog 5 #[.int .u8 C, .slice a0 n0 cap] w fun e w' => e = .returned (.bool true) ∧ Below w.heap.size w w' := by
  obtain ⟨m, hm⟩ : ∃ m, m = C % 200 := ⟨_, rfl⟩
  have hm30 : m < 200 := by omega
  have q1 : Int.tmod (C : Int) 200 = (m : Int) := by rw [hm]; exact (Int.ofNat_tmod C 200).symm
  clear hm
  go_enter Try.func5, Try.ntmps5
  go_wp2_with fail
  refine (falive_any w).mono ?_
  rintro e w1 ⟨rfl, hb⟩
  go_wp2_with fail
  refine (fib_start m (by omega) ((Stage.start w).later hb)).mono ?_
  rintro e w2 ⟨p, c, rfl, hs⟩
  by_cases h60 : (300 : Int) < n0
  · go_wp2_with fail
    go_ret
    exact ⟨rfl, hs.below⟩
  · go_wp2_with fail
    refine (fconfig_any w2).mono ?_
    rintro e w3 ⟨rfl, hb2⟩
    have hs3 := hs.later hb2
    have hR := wholes_num (g := fiG0) (fib_nests p c) 5 0 n0 FiJ (fun hj _ _ h3 h4 => fiJ_step (by omega) h3 h4) (fun h1 _ h3 => fiJ_most (by omega) h1) m (by omega) a0 cap hcap (fiJ_new m) hact hs3
    go_wp2_with fail
    refine hR.mono ?_
    rintro e w4 ⟨rfl, hb3⟩
    go_wp2_with fail
    go_ret
    exact ⟨rfl, hb3⟩
set_option maxRecDepth 100000 in
theorem fsorts_walk (L : List Int) (a0 : Option Addr) (cap : Nat) (hcap : L.length ≤ cap ∧ cap ≤ 9223372036854775807) (w : World) (hkey : IntsAt w .i64 a0 L) :
    Calls Try.prog 6 #[.slice a0 L.length cap] w fun e w' => e = .returned (.bool true) ∧ Below w.heap.size w w' := by
  by_cases h1 : L.length ≤ 65536
  · have hN := fun w1 (hb : Below w.heap.size w w1) => fib_start L.length h1 ((Stage.start w).later hb)
    have hS := fun p c w2 (hs : Stage (fun _ => False) w ([] ++ [Ob.fibn p c (newW L.length) fiG0]) w2) => sorts_one (sorts_any (g := fiG0) (fib_nests p c) L h1 a0 cap hcap hkey hs)
    clear hkey
    generalize L.length = n at *
    go_enter Try.func6, Try.ntmps6
    go_wp2_with fail
    refine (falive_any w).mono ?_
    rintro e w1 ⟨rfl, hb⟩
    go_wp2_with fail
    refine (hN w1 hb).mono ?_
    rintro e w2 ⟨p, c, rfl, hs⟩
    have hR := hS p c w2 hs
    by_cases h2 : (200 : Int) < n
    · go_wp2_with fail
      go_ret
      exact ⟨rfl, hs.below⟩
    · go_wp2_with fail
      refine hR.mono ?_
      rintro e w3 ⟨rfl, hb3⟩
      go_wp2_with fail
      go_ret
      exact ⟨rfl, hb3⟩
  · have hno := new_fib_no (L.length : Int)
    have h2 : (200 : Int) < L.length := by omega
    clear hkey
    generalize L.length = n at *
    go_enter Try.func6, Try.ntmps6
    go_wp2_with fail
    refine (falive_any w).mono ?_
    rintro e w1 ⟨rfl, hb⟩
    go_wp2_with fail
    refine (hno w1 (by omega)).mono ?_
    rintro e w2 ⟨rfl, rfl⟩
    go_wp2_with fail
    go_ret
    exact ⟨rfl, hb⟩
set_option maxRecDepth 100000 in
theorem fmelds_walk (L : List Int) (a0 : Option Addr) (cap : Nat) (hcap : L.length ≤ cap ∧ cap ≤ 9223372036854775807) (hmin : ∀ n ∈ L, -9223372036854775808 ≤ n) (B : List Bool) (a1 : Option Addr) (cap1 : Nat) (hcap' : B.length ≤ cap1 ∧ cap1 ≤ 9223372036854775807) (low gone : Int) (hlow : inInt low) (hgone : inInt gone) (w : World) (hkey : IntsAt w .i64 a0 L) (hbool : BoolsAt w a1 B) :
    Calls Try.prog 7 #[.slice a0 L.length cap, .agg #[.slice a1 B.length cap1, .int .i64 low, .int .i64 gone]] w fun e w' => e = .returned (.bool true) ∧ Below w.heap.size w w' := by
  obtain ⟨w0, hw0, hs0⟩ : ∃ w0, w.alloc (.cells #[.slice a1 B.length cap1, .int .i64 low, .int .i64 gone] 54) = w0 ∧ Stage (fun _ => False) w [Ob.box w.heap.size #[.slice a1 B.length cap1, .int .i64 low, .int .i64 gone] 54] w0 := ⟨_, rfl, (Stage.start w).alloc _ _⟩
  by_cases h1 : L.length ≤ 65536
  · have hN := fun w1 (hb : Below w0.heap.size w0 w1) => fib_start L.length h1 (hs0.later hb)
    have hS := fun p c w2 (hs : Stage (fun _ => False) w [Ob.fibn p c (newW L.length) fiG0] w2) => halves_num (g := fiG0) (fib_nests p c) L h1 a0 cap hcap hmin B a1 cap1 hcap' low gone hlow hgone hkey hbool hs
    clear hkey hbool hmin hs0
    generalize L.length = n at *
    generalize B.length = m at *
    go_enter Try.func7, Try.ntmps7
    go_wp2_with fail
    refine (falive_any w0).mono ?_
    rintro e w1 ⟨rfl, hb⟩
    clear hw0
    go_wp2_with fail
    refine (hN w1 hb).mono ?_
    rintro e w2 ⟨p, c, rfl, hs⟩
    have hR := hS p c w2 (hs.select [1] (by decide) rfl)
    by_cases h2 : (200 : Int) < n
    · go_wp2_with fail
      go_ret
      exact ⟨rfl, hs.below⟩
    · have c0 := hs.cell 0 rfl (o := 0) rfl
      have c1 := hs.cell 0 rfl (o := 1) rfl
      have c2 := hs.cell 0 rfl (o := 2) rfl
      go_wp2_with fail
      refine hR.mono ?_
      rintro e w3 ⟨rfl, hb3⟩
      go_wp2_with fail
      go_ret
      exact ⟨rfl, hb3⟩
  · have hno := new_fib_no (L.length : Int)
    have h2 : (200 : Int) < L.length := by omega
    clear hkey hbool hmin
    generalize L.length = n at *
    generalize B.length = m at *
    go_enter Try.func7, Try.ntmps7
    go_wp2_with fail
    refine (falive_any w0).mono ?_
    rintro e w1 ⟨rfl, hb⟩
    clear hw0
    go_wp2_with fail
    refine (hno w1 (by omega)).mono ?_
    rintro e w2 ⟨rfl, rfl⟩
    go_wp2_with fail
    go_ret
    exact ⟨rfl, (hs0.later hb).below⟩
end Go.Proofs.Ytcjjglaimfhofaa

namespace Go.Proofs.Ytcjjglaimfhofaa
open Go.RowKit Go.WideShapes Go.ChangeShapes Go.Deep

section
variable {H : Type} {enc : TypeId × Value → H} {P : Program} {w : World} {base : Nat} {spare : Nat → Bool} {held : Bool} {r : Reach} {b0 : Nat}
/-- A list of bools that comes in. -/
theorem open_bools' {t e : TypeId} {v : Value} {d : DataW H} {p : List MemPlace} (ht : P.underlying t = some (.slice e)) (he : P.underlying e = some .bool) (hc : P.cellsOf e = 1)
    (hv : Value.okWide P w r b0 t v) (h : DataW.Trod enc P w base (fun _ => true) held t v d p) :
    ∃ (a : Option Addr) (cap : Nat) (l : List Bool), v = .slice a l.length cap ∧ l.length ≤ cap ∧ cap ≤ 9223372036854775807 ∧ ∀ k, k < l.length → ∃ b off, a = some ⟨b, off, none⟩ ∧ w.cell? ⟨b, off + k, none⟩ = some (.bool (l.getD k false)) := by
  obtain ⟨a0, n0, c0, rfl⟩ := okWide_slice ht hv
  obtain ⟨fuel, hf⟩ := h
  rcases open_bools ht he hc hf with ⟨hcs, _⟩ | ⟨a, len, cap, B, hcs, _, hl, hm, _, hcell⟩
  · simp [Value.cells] at hcs
    obtain ⟨rfl, rfl, rfl⟩ := hcs
    exact ⟨none, 0, [], rfl, Nat.le_refl _, by omega, fun i hi => by simp at hi⟩
  · simp [Value.cells] at hcs
    obtain ⟨rfl, rfl, rfl⟩ := hcs
    have hlen : ((List.range n0).map B).length = n0 := by simp
    refine ⟨some a, c0, (List.range n0).map B, by rw [hlen], by rw [hlen]; exact hl, by unfold maxLen at hm; omega, fun i hi => ?_⟩
    rw [hlen] at hi
    have h := hcell i (by omega)
    obtain ⟨b, off, spot⟩ := a
    have hspot : spot = none := by simpa [Addr.add] using World.cell?_spot (hcell 0 (by omega))
    subst hspot
    refine ⟨b, off, rfl, ?_⟩
    rw [add_plain] at h
    rw [h]
    simp [List.getD, hi]
/-- A list of structs {int; struct {int; int}} that comes in. -/
theorem open_acts' {t e : TypeId} {f0 f1 g0 g1 : Field} {k0 k1 k2 : IntKind} {v : Value} {d : DataW H} {p : List MemPlace} (ht : P.underlying t = some (.slice e)) (he : P.underlying e = some (.struct #[f0, f1])) (hc : P.cellsOf e = 3)
    (h0 : P.underlying f0.type = some (.int k0)) (p0 : f0.offset = 0 ∧ P.cellsOf f0.type = 1) (h1 : P.underlying f1.type = some (.struct #[g0, g1])) (p1 : f1.offset = 1 ∧ P.cellsOf f1.type = 2)
    (u0 : P.underlying g0.type = some (.int k1)) (q0 : g0.offset = 0 ∧ P.cellsOf g0.type = 1) (u1 : P.underlying g1.type = some (.int k2)) (q1 : g1.offset = 1 ∧ P.cellsOf g1.type = 1)
    (hv : Value.okWide P w r b0 t v) (h : DataW.Trod enc P w base (fun _ => true) held t v d p) :
    ∃ (a : Option Addr) (cap n : Nat), v = .slice a n cap ∧ n ≤ cap ∧ cap ≤ 9223372036854775807 ∧ ∀ k, k < n → ∃ b off x y z, a = some ⟨b, off, none⟩ ∧ w.cell? ⟨b, off + k * 3, none⟩ = some (.int k0 x) ∧ w.cell? ⟨b, off + k * 3 + 1, none⟩ = some (.int k1 y) ∧ w.cell? ⟨b, off + k * 3 + 2, none⟩ = some (.int k2 z) ∧
      (k0.min ≤ x ∧ x ≤ k0.max) ∧ (k1.min ≤ y ∧ y ≤ k1.max) ∧ (k2.min ≤ z ∧ z ≤ k2.max) := by
  obtain ⟨a0, n0, c0, rfl⟩ := okWide_slice ht hv
  obtain ⟨fuel, hf⟩ := h
  rcases open_slice ht hf with ⟨hcs, _⟩ | ⟨a, len, cap, m, n, D, Pl, hcs, _, hl, hm, hmm, _, hi⟩
  · simp [Value.cells] at hcs
    obtain ⟨rfl, rfl, rfl⟩ := hcs
    exact ⟨none, 0, 0, rfl, Nat.le_refl _, by omega, fun i hi => by omega⟩
  · simp [Value.cells] at hcs
    obtain ⟨rfl, rfl, rfl⟩ := hcs
    simp only [if_true] at hmm
    subst hmm
    refine ⟨some a, m, n0, rfl, hl, by unfold maxLen at hm; omega, fun k hk => ?_⟩
    obtain ⟨cs', hcc, ht'⟩ := hi k (by omega)
    rw [hc] at hcc
    obtain ⟨_, hlen, hat⟩ := World.cells?_some hcc
    obtain ⟨ys, n', _, _, _, hyl, hff⟩ := DataW.trod_struct he ht'
    match cs', hlen with
    | [v0, v1, v2], _ =>
      have e0 := hff 0 f0 rfl
      have e1 := hff 1 f1 rfl
      rw [p0.1, p0.2] at e0
      rw [p1.1, p1.2] at e1
      match ys, hyl with
      | [y0, y1], _ =>
        simp only [List.drop_zero, List.take_succ_cons, List.take_zero, List.drop_succ_cons, List.getElem?_cons_zero, List.getElem?_cons_succ] at e0 e1
        obtain ⟨x, ex, _, wx⟩ := DataW.trod_int h0 e0
        obtain ⟨zs, n'', _, _, _, hzl, hgg⟩ := DataW.trod_struct h1 e1
        have z0 := hgg 0 g0 rfl
        have z1 := hgg 1 g1 rfl
        rw [q0.1, q0.2] at z0
        rw [q1.1, q1.2] at z1
        match zs, hzl with
        | [c0', c1'], _ =>
          simp only [List.drop_zero, List.take_succ_cons, List.take_zero, List.drop_succ_cons, List.getElem?_cons_zero, List.getElem?_cons_succ] at z0 z1
          obtain ⟨y, ey, _, wy⟩ := DataW.trod_int u0 z0
          obtain ⟨z, ez, _, wz⟩ := DataW.trod_int u1 z1
          simp only [List.cons.injEq, and_true] at ex ey ez
          subst ex ey ez
          simp [Lit.wf] at wx wy wz
          have a0 := hat 0 (by omega)
          have a1 := hat 1 (by omega)
          have a2 := hat 2 (by omega)
          obtain ⟨b, off, spot⟩ := a
          have hspot : spot = none := by
            obtain ⟨cs0, hc0, _⟩ := hi 0 (by omega)
            rw [hc] at hc0
            obtain ⟨_, hl0, hat0⟩ := World.cells?_some hc0
            match cs0, hl0 with
            | [w0, _, _], _ =>
              have h9 : w.cell? (((⟨b, off, spot⟩ : Addr).add (0 * 3)).add 0) = some w0 := hat0 0 (by omega)
              have := World.cell?_spot h9
              simpa [Addr.add] using this
          subst hspot
          rw [add_plain, add_plain] at a0 a1 a2
          exact ⟨b, off, x, y, z, rfl, a0, a1, a2, wx, wy, wz⟩
/-- A list of structs of three integers that comes in. -/
theorem open_triples' {t e : TypeId} {f0 f1 f2 : Field} {k0 k1 k2 : IntKind} {v : Value} {d : DataW H} {p : List MemPlace} (ht : P.underlying t = some (.slice e)) (he : P.underlying e = some (.struct #[f0, f1, f2])) (hc : P.cellsOf e = 3)
    (h0 : P.underlying f0.type = some (.int k0)) (p0 : f0.offset = 0 ∧ P.cellsOf f0.type = 1) (h1 : P.underlying f1.type = some (.int k1)) (p1 : f1.offset = 1 ∧ P.cellsOf f1.type = 1)
    (h2 : P.underlying f2.type = some (.int k2)) (p2 : f2.offset = 2 ∧ P.cellsOf f2.type = 1)
    (hv : Value.okWide P w r b0 t v) (h : DataW.Trod enc P w base (fun _ => true) held t v d p) :
    ∃ (a : Option Addr) (cap n : Nat), v = .slice a n cap ∧ n ≤ cap ∧ cap ≤ 9223372036854775807 ∧ ∀ k, k < n → ∃ b off x y z, a = some ⟨b, off, none⟩ ∧ w.cell? ⟨b, off + k * 3, none⟩ = some (.int k0 x) ∧ w.cell? ⟨b, off + k * 3 + 1, none⟩ = some (.int k1 y) ∧ w.cell? ⟨b, off + k * 3 + 2, none⟩ = some (.int k2 z) ∧
      (k0.min ≤ x ∧ x ≤ k0.max) ∧ (k1.min ≤ y ∧ y ≤ k1.max) ∧ (k2.min ≤ z ∧ z ≤ k2.max) := by
  obtain ⟨a0, n0, c0, rfl⟩ := okWide_slice ht hv
  obtain ⟨fuel, hf⟩ := h
  rcases open_slice ht hf with ⟨hcs, _⟩ | ⟨a, len, cap, m, n, D, Pl, hcs, _, hl, hm, hmm, _, hi⟩
  · simp [Value.cells] at hcs
    obtain ⟨rfl, rfl, rfl⟩ := hcs
    exact ⟨none, 0, 0, rfl, Nat.le_refl _, by omega, fun i hi => by omega⟩
  · simp [Value.cells] at hcs
    obtain ⟨rfl, rfl, rfl⟩ := hcs
    simp only [if_true] at hmm
    subst hmm
    refine ⟨some a, m, n0, rfl, hl, by unfold maxLen at hm; omega, fun k hk => ?_⟩
    obtain ⟨cs', hcc, ht'⟩ := hi k (by omega)
    rw [hc] at hcc
    obtain ⟨_, hlen, hat⟩ := World.cells?_some hcc
    obtain ⟨ys, n', _, _, _, hyl, hff⟩ := DataW.trod_struct he ht'
    match cs', hlen with
    | [v0, v1, v2], _ =>
      have e0 := hff 0 f0 rfl
      have e1 := hff 1 f1 rfl
      have e2 := hff 2 f2 rfl
      rw [p0.1, p0.2] at e0
      rw [p1.1, p1.2] at e1
      rw [p2.1, p2.2] at e2
      match ys, hyl with
      | [y0, y1, y2], _ =>
        simp only [List.drop_zero, List.take_succ_cons, List.take_zero, List.drop_succ_cons, List.getElem?_cons_zero, List.getElem?_cons_succ] at e0 e1 e2
        obtain ⟨x, ex, _, wx⟩ := DataW.trod_int h0 e0
        obtain ⟨y, ey, _, wy⟩ := DataW.trod_int h1 e1
        obtain ⟨z, ez, _, wz⟩ := DataW.trod_int h2 e2
        simp only [List.cons.injEq, and_true] at ex ey ez
        subst ex ey ez
        simp [Lit.wf] at wx wy wz
        have a0 := hat 0 (by omega)
        have a1 := hat 1 (by omega)
        have a2 := hat 2 (by omega)
        obtain ⟨b, off, spot⟩ := a
        have hspot : spot = none := by
          obtain ⟨cs0, hc0, _⟩ := hi 0 (by omega)
          rw [hc] at hc0
          obtain ⟨_, hl0, hat0⟩ := World.cells?_some hc0
          match cs0, hl0 with
          | [w0, _, _], _ =>
            have h9 : w.cell? (((⟨b, off, spot⟩ : Addr).add (0 * 3)).add 0) = some w0 := hat0 0 (by omega)
            have := World.cell?_spot h9
            simpa [Addr.add] using this
        subst hspot
        rw [add_plain, add_plain] at a0 a1 a2
        exact ⟨b, off, x, y, z, rfl, a0, a1, a2, wx, wy, wz⟩
end
end Go.Proofs.Ytcjjglaimfhofaa

namespace Go.Proofs.Ytcjjglaimfhofaa
open Go.RowKit Go.WideShapes Go.ChangeShapes Go.Deep

section
variable {H : Type} {enc : TypeId × Value → H} {P : Program} {w : World} {base : Nat} {spare : Nat → Bool} {held : Bool} {r : Reach} {b0 : Nat}
theorem open_fives' {t e : TypeId} {f0 f1 f2 f3 g0 g1 : Field} {k0 k1 k2 k3 k4 : IntKind} {v : Value} {d : DataW H} {p : List MemPlace} (ht : P.underlying t = some (.slice e)) (he : P.underlying e = some (.struct #[f0, f1, f2, f3])) (hc : P.cellsOf e = 5)
    (h0 : P.underlying f0.type = some (.int k0)) (p0 : f0.offset = 0 ∧ P.cellsOf f0.type = 1) (h1 : P.underlying f1.type = some (.int k1)) (p1 : f1.offset = 1 ∧ P.cellsOf f1.type = 1) (h2 : P.underlying f2.type = some (.int k2)) (p2 : f2.offset = 2 ∧ P.cellsOf f2.type = 1)
    (h3 : P.underlying f3.type = some (.struct #[g0, g1])) (p3 : f3.offset = 3 ∧ P.cellsOf f3.type = 2)
    (u0 : P.underlying g0.type = some (.int k3)) (q0 : g0.offset = 0 ∧ P.cellsOf g0.type = 1) (u1 : P.underlying g1.type = some (.int k4)) (q1 : g1.offset = 1 ∧ P.cellsOf g1.type = 1)
    (hv : Value.okWide P w r b0 t v) (h : DataW.Trod enc P w base (fun _ => true) held t v d p) :
    ∃ (a : Option Addr) (cap n : Nat), v = .slice a n cap ∧ n ≤ cap ∧ cap ≤ 9223372036854775807 ∧ ∀ k, k < n → ∃ b off x y z i j, a = some ⟨b, off, none⟩ ∧ w.cell? ⟨b, off + k * 5, none⟩ = some (.int k0 x) ∧ w.cell? ⟨b, off + k * 5 + 1, none⟩ = some (.int k1 y) ∧ w.cell? ⟨b, off + k * 5 + 2, none⟩ = some (.int k2 z) ∧
      w.cell? ⟨b, off + k * 5 + 3, none⟩ = some (.int k3 i) ∧ w.cell? ⟨b, off + k * 5 + 4, none⟩ = some (.int k4 j) ∧ (k0.min ≤ x ∧ x ≤ k0.max) ∧ (k1.min ≤ y ∧ y ≤ k1.max) ∧ (k2.min ≤ z ∧ z ≤ k2.max) ∧ (k3.min ≤ i ∧ i ≤ k3.max) ∧ (k4.min ≤ j ∧ j ≤ k4.max) := by
  obtain ⟨a0, n0, c0, rfl⟩ := okWide_slice ht hv
  obtain ⟨fuel, hf⟩ := h
  rcases open_slice ht hf with ⟨hcs, _⟩ | ⟨a, len, cap, m, n, D, Pl, hcs, _, hl, hm, hmm, _, hi⟩
  · simp [Value.cells] at hcs
    obtain ⟨rfl, rfl, rfl⟩ := hcs
    exact ⟨none, 0, 0, rfl, Nat.le_refl _, by omega, fun i hi => by omega⟩
  · simp [Value.cells] at hcs
    obtain ⟨rfl, rfl, rfl⟩ := hcs
    simp only [if_true] at hmm
    subst hmm
    refine ⟨some a, m, n0, rfl, hl, by unfold maxLen at hm; omega, fun k hk => ?_⟩
    obtain ⟨cs', hcc, ht'⟩ := hi k (by omega)
    rw [hc] at hcc
    obtain ⟨_, hlen, hat⟩ := World.cells?_some hcc
    obtain ⟨ys, n', _, _, _, hyl, hff⟩ := DataW.trod_struct he ht'
    match cs', hlen with
    | [v0, v1, v2, v3, v4], _ =>
      have e0 := hff 0 f0 rfl
      have e1 := hff 1 f1 rfl
      have e2 := hff 2 f2 rfl
      have e3 := hff 3 f3 rfl
      rw [p0.1, p0.2] at e0
      rw [p1.1, p1.2] at e1
      rw [p2.1, p2.2] at e2
      rw [p3.1, p3.2] at e3
      match ys, hyl with
      | [y0, y1, y2, y3], _ =>
        simp only [List.drop_zero, List.take_succ_cons, List.take_zero, List.drop_succ_cons, List.getElem?_cons_zero, List.getElem?_cons_succ] at e0 e1 e2 e3
        obtain ⟨x, ex, _, wx⟩ := DataW.trod_int h0 e0
        obtain ⟨y, ey, _, wy⟩ := DataW.trod_int h1 e1
        obtain ⟨z, ez, _, wz⟩ := DataW.trod_int h2 e2
        obtain ⟨zs, n'', _, _, _, hzl, hgg⟩ := DataW.trod_struct h3 e3
        have z0 := hgg 0 g0 rfl
        have z1 := hgg 1 g1 rfl
        rw [q0.1, q0.2] at z0
        rw [q1.1, q1.2] at z1
        match zs, hzl with
        | [c0', c1'], _ =>
          simp only [List.drop_zero, List.take_succ_cons, List.take_zero, List.drop_succ_cons, List.getElem?_cons_zero, List.getElem?_cons_succ] at z0 z1
          obtain ⟨i, ei, _, wi⟩ := DataW.trod_int u0 z0
          obtain ⟨j, ej, _, wj⟩ := DataW.trod_int u1 z1
          simp only [List.cons.injEq, and_true] at ex ey ez ei ej
          subst ex ey ez ei ej
          simp [Lit.wf] at wx wy wz wi wj
          have a0 := hat 0 (by omega)
          have a1 := hat 1 (by omega)
          have a2 := hat 2 (by omega)
          have a3 := hat 3 (by omega)
          have a4 := hat 4 (by omega)
          obtain ⟨b, off, spot⟩ := a
          have hspot : spot = none := by
            obtain ⟨cs0, hc0, _⟩ := hi 0 (by omega)
            rw [hc] at hc0
            obtain ⟨_, hl0, hat0⟩ := World.cells?_some hc0
            match cs0, hl0 with
            | [w0, _, _, _, _], _ =>
              have h9 : w.cell? (((⟨b, off, spot⟩ : Addr).add (0 * 5)).add 0) = some w0 := hat0 0 (by omega)
              have := World.cell?_spot h9
              simpa [Addr.add] using this
          subst hspot
          rw [add_plain, add_plain] at a0 a1 a2 a3 a4
          exact ⟨b, off, x, y, z, i, j, rfl, a0, a1, a2, a3, a4, wx, wy, wz, wi, wj⟩
end
end Go.Proofs.Ytcjjglaimfhofaa

namespace Go.Proofs.Ytcjjglaimfhofaa
open Go.RowKit Go.WideShapes Go.ChangeShapes Go.Deep

section
variable {H : Type} {enc : TypeId × Value → H} {P : Program} {w : World} {base : Nat} {held : Bool} {r : Reach} {b0 : Nat}
theorem open_bag' {t e : TypeId} {f0 f1 f2 : Field} {k1 k2 : IntKind} {v : Value} {d : DataW H} {p : List MemPlace} (hs : P.underlying t = some (.struct #[f0, f1, f2]))
    (h0 : P.underlying f0.type = some (.slice e)) (p0 : f0.offset = 0 ∧ P.cellsOf f0.type = 1) (he : P.underlying e = some .bool) (hc : P.cellsOf e = 1)
    (h1 : P.underlying f1.type = some (.int k1)) (p1 : f1.offset = 1 ∧ P.cellsOf f1.type = 1) (h2 : P.underlying f2.type = some (.int k2)) (p2 : f2.offset = 2 ∧ P.cellsOf f2.type = 1) (hC : P.cellsOf t = 3)
    (hv : Value.okWide P w r b0 t v) (h : DataW.Trod enc P w base (fun _ => true) held t v d p) :
    ∃ (a : Option Addr) (cap : Nat) (l : List Bool) (m n : Int), v = .agg #[.slice a l.length cap, .int k1 m, .int k2 n] ∧ l.length ≤ cap ∧ cap ≤ 9223372036854775807 ∧ (k1.min ≤ m ∧ m ≤ k1.max) ∧ (k2.min ≤ n ∧ n ≤ k2.max) ∧
      ∀ k, k < l.length → ∃ b off, a = some ⟨b, off, none⟩ ∧ w.cell? ⟨b, off + k, none⟩ = some (.bool (l.getD k false)) := by
  obtain ⟨cs, rfl, hsz⟩ := okWide_struct hs hv
  rw [hC] at hsz
  obtain ⟨fuel, hf⟩ := h
  rcases cs with ⟨l⟩
  match l, hsz with
  | [v0, v1, v2], _ =>
    obtain ⟨ys, n', _, _, _, hyl, hff⟩ := DataW.trod_struct hs hf
    have e0 := hff 0 f0 rfl
    have e1 := hff 1 f1 rfl
    have e2 := hff 2 f2 rfl
    rw [p0.1, p0.2] at e0
    rw [p1.1, p1.2] at e1
    rw [p2.1, p2.2] at e2
    match ys, hyl with
    | [y0, y1, y2], _ =>
      simp only [Value.cells, List.drop_zero, List.take_succ_cons, List.take_zero, List.drop_succ_cons, List.getElem?_cons_zero, List.getElem?_cons_succ] at e0 e1 e2
      obtain ⟨m, em, _, wm⟩ := DataW.trod_int h1 e1
      obtain ⟨n, en, _, wn⟩ := DataW.trod_int h2 e2
      simp only [List.cons.injEq, and_true] at em en
      subst em en
      simp [Lit.wf] at wm wn
      rcases open_bools h0 he hc e0 with ⟨hcs, _⟩ | ⟨a, len, cap, B, hcs, _, hl, hm, _, hcell⟩
      · simp only [List.cons.injEq, and_true] at hcs
        subst hcs
        exact ⟨none, 0, [], m, n, rfl, Nat.le_refl _, by omega, wm, wn, fun i hi => by simp at hi⟩
      · simp only [List.cons.injEq, and_true] at hcs
        subst hcs
        have hlen : ((List.range len).map B).length = len := by simp
        refine ⟨some a, cap, (List.range len).map B, m, n, by rw [hlen], by rw [hlen]; exact hl, by unfold maxLen at hm; omega, wm, wn, fun i hi => ?_⟩
        rw [hlen] at hi
        have h := hcell i (by omega)
        obtain ⟨b, off, spot⟩ := a
        have hspot : spot = none := by simpa [Addr.add] using World.cell?_spot (hcell 0 (by omega))
        subst hspot
        refine ⟨b, off, rfl, ?_⟩
        rw [add_plain] at h
        rw [h]
        simp [List.getD, hi]
end
end Go.Proofs.Ytcjjglaimfhofaa

namespace Go.Proofs.Ytcjjglaimfhofaa

section
variable {n : Nat} {W W' : WS} {K K' : Int → List Int} {R R' : Nat → List Int} {T T' : Int → Node} {S S' : RSt} {z z' : Nat → Int} {g g' : FiG}
theorem FiOk.lens (I : FiOk n W g.K g.R g.T S z) (y : Int) : rootsI g y ≤ lenW W y ∧ (0 < rootsI g y ↔ 0 < lenW W y) := by
  by_cases hp : 1 ≤ y
  · obtain ⟨k, rfl⟩ : ∃ k : Nat, y = k := ⟨y.toNat, by omega⟩
    have e : rootsI g k = (g.R k).length := by unfold rootsI; rw [if_pos (by omega)]; simp
    have h1 : (g.R k).length ≤ lenW W k := by
      rw [← (homes_all W).size k (by omega)]
      exact sub_len (I.mid.nd k) fun y hy => by
        obtain ⟨a, b, c, _⟩ := I.mid.is k y hy
        exact ((homes_all W).mem k y a).2 c
    rw [e]
    refine ⟨h1, fun h => by omega, fun h => ?_⟩
    cases e2 : g.R k with
    | nil => have := I.none' (by omega) e2; omega
    | cons a l => simp
  · have h1 : lenW W y = 0 := by simp [lenW, show ¬ 0 < y by omega]
    have h2 : rootsI g y = 0 := by
      unfold rootsI
      by_cases h0 : 0 ≤ y
      · have : y = 0 := by omega
        subst this
        rw [if_pos h0, show (0 : Int).toNat = 0 from rfl, I.zero]; rfl
      · rw [if_neg h0]
    rw [h1, h2]
    exact ⟨Nat.le_refl _, Iff.rfl⟩
/-- Where an act is at home. -/
def homeI (W : WS) (x y z : Int) : Int := if (inW W z && (x == 4 || x == 5)) = true then (cellW W z).home else y
/-- Has it changed anything? -/
def chB (W W' : WS) (h z : Int) : Bool := ((lenW W' h : Int) != (lenW W h : Int)) || (hasW W z && !hasW W' z)
theorem chB_same (W : WS) (h z : Int) : chB W W h z = false := by
  unfold chB
  cases hasW W z <;> simp
theorem trees_put {x y z q r : Int} (hR : FiR W x y z q r g g') (hx : x = 1) (hc : chB W (doW W x y z q r) (homeI W x y z) z = true) : rootsI g' (homeI W x y z) = rootsI g (homeI W x y z) + 1 := by
  subst hx
  have e1 : homeI W 1 y z = y := by unfold homeI; rw [if_neg (by simp)]
  have e2 : doW W 1 y z q r = putW W y z q r := rfl
  rw [e1] at hc ⊢
  rw [e2] at hc
  cases hB : putB W y z with
  | false =>
    have : putW W y z q r = W := by simp [putW, hB]
    rw [this, chB_same] at hc; cases hc
  | true =>
    have h1 := hR.2.1 rfl hB
    obtain ⟨i, rfl, _⟩ : ∃ i : Nat, y = i ∧ True := by
      have hB2 := hB
      simp only [putB, Bool.and_eq_true] at hB2
      obtain ⟨i, rfl, _⟩ := has_nat hB2.1
      exact ⟨i, rfl, trivial⟩
    unfold rootsI
    rw [if_pos (by omega), if_pos (by omega)]
    exact h1
theorem trees_dec {x y z q r : Int} (hR : FiR W x y z q r g g') (hx : x = 4) (h : Int) : rootsI g h ≤ rootsI g' h := by
  have h1 := hR.2.2.1 hx
  unfold rootsI
  split
  · exact h1 _
  · exact Nat.le_refl _
theorem trees_meld {x y z q r : Int} (hR : FiR W x y z q r g g') (hx : x = 6) (hc : chB W (doW W x y z q r) (homeI W x y z) z = true) : rootsI g' (homeI W x y z) = rootsI g (homeI W x y z) + rootsI g z := by
  subst hx
  have e1 : homeI W 6 y z = y := by unfold homeI; rw [if_neg (by simp)]
  have e2 : doW W 6 y z q r = joinW W y z := rfl
  rw [e1] at hc ⊢
  rw [e2] at hc
  cases hB : joinBW W y z with
  | false =>
    have : joinW W y z = W := by simp [joinW, hB]
    rw [this, chB_same] at hc; cases hc
  | true =>
    have h1 := hR.2.2.2.1 rfl hB
    obtain ⟨i, j, rfl, rfl⟩ : ∃ i j : Nat, y = i ∧ z = j := by
      have hB2 := hB
      simp only [joinBW, Bool.and_eq_true, decide_eq_true_eq] at hB2
      obtain ⟨i, rfl, _⟩ := has_nat hB2.1
      obtain ⟨j, rfl, _⟩ := has_nat hB2.2.1
      exact ⟨i, j, rfl, rfl⟩
    unfold rootsI
    rw [if_pos (by omega), if_pos (by omega), if_pos (by omega)]
    exact h1
theorem trees_ext {x y z q r : Int} (I : FiOk n (doW W x y z q r) g'.K g'.R g'.T S' z') (hf : (doW W x y z q r).Fit) (hR : FiR W x y z q r g g') (hx : x = 3) (hc : chB W (doW W x y z q r) (homeI W x y z) z = true) : rootsI g' (homeI W x y z) ≤ 2 * Lib.bitLen (lenW (doW W x y z q r) (homeI W x y z)) + 1 := by
  subst hx
  have e1 : homeI W 3 y z = y := by unfold homeI; rw [if_neg (by simp)]
  have e2 : doW W 3 y z q r = exW W y := rfl
  rw [e1] at hc ⊢
  rw [e2] at hc I hf ⊢
  cases hB : minB W y with
  | false =>
    have : exW W y = W := by
      cases hm : minW W y with
      | none => simp [exW, hm]
      | some m => have := (minI_some hm).2; rw [hB] at this; cases this
    rw [this, chB_same] at hc; cases hc
  | true =>
    have h1 := hR.2.2.2.2 rfl hB
    obtain ⟨i, rfl, hi⟩ : ∃ i : Nat, y = i ∧ 1 ≤ i := by
      cases hm : minW W y with
      | none => have := (minI_none hm).2; rw [hB] at this; cases this
      | some m => have := (min_is hm).pos; exact ⟨y.toNat, by omega, by omega⟩
    have hlen := (homes_all (exW W i)).size i hi
    have hlt : (slotsW (exW W i) i).length < 2 ^ Lib.bitLen (lenW (exW W i) i) := by
      rw [hlen]
      refine lt_bits _ ?_
      have := len_le (exW W i) i
      have := hf.cap
      omega
    obtain ⟨had, D⟩ := I.deg
    have h3 := degs_few (f := fun y => (g'.K y).length) (m := 2 * Lib.bitLen (lenW (exW W i) i)) h1 fun y hy => by
      obtain ⟨_, a2, a3, _⟩ := I.mid.is _ y hy
      rw [show ((i : Int)).toNat = i by simp] at a3
      exact D.home I.mid.f a2 a3 hlt
    unfold rootsI
    rw [if_pos (by omega)]
    exact h3
end
end Go.Proofs.Ytcjjglaimfhofaa
