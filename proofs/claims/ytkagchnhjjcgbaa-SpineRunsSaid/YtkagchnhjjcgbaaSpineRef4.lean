/- What the document's functions return that make other trees: Cut, Turn. -/
import Derived.Test.YtkagchnhjjcgbaaSpineRef3
namespace Go.Proofs.Ytkagchnhjjcgbaa
open Go.RowKit Go.Sort

/-- A row of what hangs where that is someone's. -/
abbrev Ob.hgs (v : Value) (l : List Hg) : Ob := Ob.row 0 65 3 v l.length (cellsBy hgC l)
namespace Stage
variable {F0 : Nat → Prop} {W w : World} {l : List Ob} {v : Value} {xs : List Hg}
theorem hgsForm (h : Stage F0 W l w) (i : Nat) (hi : l[i]? = some (Ob.hgs v xs)) : ∃ a c, v = .slice a xs.length c ∧ xs.length ≤ c ∧ c ≤ 9223372036854775807 := by
  obtain ⟨a, c, h1, h2, h3⟩ := owns_form (h.owns i hi)
  exact ⟨a, c, h1, h2, by unfold maxLen at h3; omega⟩
theorem wp_appendHg {P : Program} {ops : Array Oper} {rest : List Oper} {o : Oper} {a : Act} {Q : Exit → Act → World → Prop} {b : Nat} {p x : Int} {r : Bool} (hs : Stage F0 W l w) (i : Nat) (hi : l[i]? = some (Ob.hgs v xs)) (hb : w.heap.size = b) (hgd : o.guard = none) (s y : Operand) (t : TypeId)
    (ho : o.op = .call { callee := .builtin .append, args := #[s, y], argTypes := #[t, t] }) (ht : P.underlying t = some (.slice 65)) (hinfo : (P.info? 65).map (fun i => (i.zero, i.size, i.bytes)) = some (some (.agg #[.int .i64 0, .int .i64 0, .bool false]), 3, 24))
    (hv : a.eval s = v) (hx : a.eval y = .slice (some ⟨b, 0, none⟩) 1 1) (hlen : xs.length ≤ 1000000)
    (hK : ∀ v' w', Stage F0 W (l.set i (Ob.hgs v' (xs ++ [⟨p, x, r⟩]))) w' → wpList P ops Q rest (a.put o.dst v') w') : wpList P ops Q (o :: rest) a (w.alloc (.cells #[.int .i64 p, .int .i64 x, .bool r] 65)) := by
  subst hb
  have hA := hs.later ((Below.refl _ w).alloc (Nat.le_refl _) (.cells #[.int .i64 p, .int .i64 x, .bool r] 65))
  refine hA.wp_append i hi hgd s y t ho _ 24 ht hinfo rfl (by decide) (Nat.zero_le _) hv _ 1 [.int .i64 p, .int .i64 x, .bool r] hx (reads_new w #[.int .i64 p, .int .i64 x, .bool r] _ 3 1 _ rfl rfl) (by intro u hu; simp at hu; rcases hu with rfl | rfl | rfl <;> rfl) (by unfold maxLen; omega) (by omega) fun v' w' h1 _ => hK v' w' ?_
  have e1 : cellsBy hgC xs ++ [.int .i64 p, .int .i64 x, .bool r] = cellsBy hgC (xs ++ [⟨p, x, r⟩]) := by rw [cellsBy_append, cellsBy_one]; rfl
  have e2 : xs.length + 1 = (xs ++ [(⟨p, x, r⟩ : Hg)]).length := by simp
  rw [e1, e2] at h1
  exact h1
end Stage
theorem cut_len (L : List Hg) (x : Int) : (cutL L x).length ≤ L.length := List.length_filter_le _ _
theorem cut_snoc (L : List Hg) (x : Int) (g : Hg) : cutL (L ++ [g]) x = cutL L x ++ if g.x = x then [] else [g] := by
  unfold cutL
  rw [List.filter_append]
  congr 1
  by_cases e : g.x = x <;> simp [e]
theorem turn_snoc (L : List Hg) (p : Int) (g : Hg) : turnL (L ++ [g]) p = turnL L p ++ [if g.p = p then ⟨g.p, g.x, !g.r⟩ else g] := by
  unfold turnL
  rw [List.map_append]
  by_cases e : g.p = p <;> simp [e]
theorem turn_len (L : List Hg) (p : Int) : (turnL L p).length = L.length := List.length_map _
section
variable {w : World} {v : Value} {n : Nat} {L : List Hg}
set_option maxHeartbeats 2000000 in
theorem rcut_any (x : Int) (h : DocAt w v L) : Calls Try.prog 28 #[.agg #[.int .i64 n, v], .int .i64 x] w (DocPost w n v (cutL L x) (fun u => .tuple #[u, .int .i64 ((upL L x).getD 0), .bool (upL L x).isSome])) := by
  have hat : ∀ wr, Below w.heap.size w wr → ∀ i, i < L.length → _ := fun wr hb i hi => (h.later hb).at' (i := i) hi
  have hLl := h.len
  have hU := fun wr (hb : Below w.heap.size w wr) => rup_any n x (h.later hb)
  have hstep : ∀ j, j < L.length → cutL (L.take (j + 1)) x = cutL (L.take j) x ++ if (L.getD j .no).x = x then [] else [L.getD j .no] := fun j hj => by
    rw [take_snocD .no L j hj, cut_snoc]
  have hend : L.take L.length = L := List.take_length
  have hcl : ∀ j, (cutL (L.take j) x).length ≤ 65536 := fun j => by
    have h1 := cut_len (L.take j) x
    have h2 : (L.take j).length ≤ L.length := by simp; omega
    omega
  obtain ⟨a9, c9, hv, b91, b92⟩ := h.form
  obtain ⟨n9, hn9⟩ : ∃ n9, L.length = n9 := ⟨_, rfl⟩
  rw [hn9] at hv b91 hLl
  subst hv
  obtain ⟨V, hV, hs⟩ : ∃ V, (w.alloc (.cells #[.int .i64 n, .slice a9 n9 c9] docT)).alloc (.cells #[.int .i64 0, nilV] docT) = V ∧ Stage (fun _ => False) w [Ob.box w.heap.size #[.int .i64 n, .slice a9 n9 c9] docT, Ob.box (w.heap.size + 1) #[.int .i64 0, nilV] docT] V :=
    ⟨_, rfl, ((Stage.start w).alloc _ _).alloc' _ _ (size_alloc _ _)⟩
  have k0 := hs.cell 0 rfl (o := 0) rfl
  have k1 := hs.cell 0 rfl (o := 1) rfl
  have hU1 := hU _ hs.below
  have hfin : ∀ w' vs, Stage (fun _ => False) w [Ob.hgs vs (cutL L x)] w' → DocPost w n (.slice a9 n9 c9) (cutL L x) (fun u => .tuple #[u, .int .i64 ((upL L x).getD 0), .bool (upL L x).isSome]) (.returned (.tuple #[.agg #[.int .i64 n, vs], .int .i64 ((upL L x).getD 0), .bool (upL L x).isSome])) w' := fun w' vs hs => by
    obtain ⟨hk, G, h1, h2, h3⟩ := hs
    obtain ⟨ho, hG⟩ := h1 0 _ rfl
    exact ⟨vs, rfl, hk.below (Nat.le_refl _) (fun _ h => h.elim), ⟨ho, by have := cut_len L x; omega⟩, fun k hk2 => by rw [← hG] at hk2; exact Or.inr ((h3 0 k hk2).1.elim False.elim id)⟩
  clear hU
  generalize hP : DocPost w n (.slice a9 n9 c9) (cutL L x) (fun u => .tuple #[u, .int .i64 ((upL L x).getD 0), .bool (upL L x).isSome]) = Post at *
  generalize upL L x = o at *
  clear hP
  go_enter Try.func28, Try.ntmps28
  go_wp2_with fail
  clear hV k0 k1
  refine hU1.mono ?_
  rintro e w1 ⟨rfl, hb⟩
  have j0 := (hs.later hb).cell 0 rfl (o := 0) rfl
  replace hs := (hs.later hb).alloc #[.int .i64 n, nilV] docT
  clear hU1 hb
  replace hs : Stage (fun _ => False) w [Ob.box w.heap.size #[.int .i64 n, .slice a9 n9 c9] docT, Ob.box (w.heap.size + 1) #[.int .i64 0, nilV] docT, Ob.box w1.heap.size #[.int .i64 n, nilV] docT, Ob.hgs nilV []] (w1.alloc (.cells #[.int .i64 n, nilV] docT)) := hs.nilRow 0 65 3
  have k0 := hs.cell 0 rfl (o := 0) rfl
  have k1 := hs.cell 0 rfl (o := 1) rfl
  go_wp2_with fail
  clear k0 k1 j0
  generalize w1.heap.size = bo at *
  go_loopw [24] (fun i wr => ∃ (j : Nat) (vs : Value), i = .int .i64 j ∧ j ≤ n9 ∧ Stage (fun _ => False) w [Ob.box w.heap.size #[.int .i64 n, .slice a9 n9 c9] docT, Ob.box (w.heap.size + 1) #[.int .i64 0, nilV] docT, Ob.box bo #[.int .i64 n, vs] docT, Ob.hgs vs (cutL (L.take j) x)] wr) (fun i _ => n9 - (intOf i).toNat)
  case atStart => exact ⟨0, _, rfl, Nat.zero_le _, hs⟩
  case round =>
    clear hs
    obtain ⟨j, vs, rfl, hj, hs⟩ := hrel
    have hn := hs.ne 2 0 rfl rfl (by decide)
    have hnR := hs.ne 2 1 rfl rfl (by decide)
    have o0 := hs.cell 2 rfl (o := 0) rfl
    have o1 := hs.cell 2 rfl (o := 1) rfl
    obtain ⟨av, cv, rfl, _, _⟩ := hs.hgsForm 3 rfl
    by_cases hjn : j < n9
    · have hji : (j : Int) < n9 := by omega
      obtain ⟨g, c', hv, hg, u0, u1, u2⟩ := hat wr hs.below j (by omega)
      rw [hn9] at hv
      cases hv
      have hst := hstep j (by omega)
      have hc1 := hcl j
      generalize L.getD j Hg.no = e at *
      obtain ⟨ep, ex, er⟩ := e
      simp only at u0 u1 u2 hst
      have hs4 : Stage (fun _ => False) w ([Ob.box w.heap.size #[.int .i64 n, .slice (some ⟨g, 0, none⟩) n9 c9] docT, Ob.box (w.heap.size + 1) #[.int .i64 0, nilV] docT, Ob.box bo #[.int .i64 n, .slice av (cutL (L.take j) x).length cv] docT, Ob.hgs (.slice av (cutL (L.take j) x).length cv) (cutL (L.take j) x)] ++ [Ob.box wr.heap.size #[.int .i64 ep, .int .i64 ex, .bool er] 65]) (wr.alloc (.cells #[.int .i64 ep, .int .i64 ex, .bool er] 65)) := hs.alloc _ _
      have hn4 := hs4.ne 2 4 rfl rfl (by decide)
      have o1' := hs4.cell 2 rfl (o := 1) rfl
      have e0 := hs4.cell 4 rfl (o := 0) rfl
      have e1 := hs4.cell 4 rfl (o := 1) rfl
      have e2 := hs4.cell 4 rfl (o := 2) rfl
      generalize hm : (cutL (L.take j) x).length = m at *
      by_cases h1 : ex = x
      · rw [if_pos h1, List.append_nil] at hst
        subst h1
        replace hs4 := hs4.take 4
        clear hat hstep hend hcl hfin hs
        go_wp2_with fail
        go_roundw
        case rel => exact ⟨j + 1, _, by go_num, by omega, by rw [hst]; exact hs4⟩
        case measure => simp [intOf]; omega
      · have h1' : (ex == x) = false := by simpa using h1
        have h1'' : (ex != x) = true := by simpa using h1
        rw [if_neg h1] at hst
        clear hat hstep hend hcl hfin hs
        go_wp2_with (at_builtin; refine hs4.wp_appendHg (p := ep) (x := ex) (r := er) 3 (by first | rfl | (rw [← hm]; rfl)) (size_alloc _ _) rfl _ _ 33 rfl Try.underlying33 info_hung rfl rfl (by omega) ?_)
        intro v5 w5 hs5
        rw [← hst] at hs5
        obtain ⟨a5, c5, rfl, _, _⟩ := hs5.hgsForm 3 rfl
        have g1 := hs5.free 2 rfl 1
        have z1 := hs5.cell 2 rfl (o := 1) rfl
        generalize hm5 : (cutL (L.take (j + 1)) x).length = m5 at *
        have hs6 := (hs5.store 2 rfl 1 (.slice a5 m5 c5)).take 4
        clear hs5 hs4
        go_wp2_with fail
        go_roundw
        case rel => exact ⟨j + 1, _, by go_num, by omega, hs6⟩
        case measure => simp [intOf]; omega
    · have hji : ¬ (j : Int) < n9 := by omega
      obtain rfl : j = n9 := by omega
      have e : cutL (L.take j) x = cutL L x := by rw [← hn9, hend]
      rw [e] at hs o1
      generalize hm : (cutL L x).length = m at *
      have z0 := hs.cell 1 rfl (o := 0) rfl
      have z1 := hs.cell 1 rfl (o := 1) rfl
      have g0 := hs.free 1 rfl 0
      have g1 := hs.free 1 rfl 1
      have hs3 := (hs.store 1 rfl 0 (.int .i64 n)).store 1 rfl 1 (.slice av m cv)
      have hF := hfin _ _ (hs3.select [3] (by decide) rfl)
      clear hat hstep hend hcl hfin hs hs3
      go_wp2_with fail
      exact bodyPost_ret (v := .tuple #[.agg #[.int .i64 n, .slice av m cv], .int .i64 (o.getD 0), .bool o.isSome]) (by simp [results, Try.results28, go_sem, z0, z1]) rfl hF
set_option maxHeartbeats 2000000 in
theorem rturn_any (x : Int) (h : DocAt w v L) : Calls Try.prog 29 #[.agg #[.int .i64 n, v], .int .i64 x] w (DocPost w n v (turnL L x) (fun u => .tuple #[u, .bool (hasN n x)])) := by
  have hat : ∀ wr, Below w.heap.size w wr → ∀ i, i < L.length → _ := fun wr hb i hi => (h.later hb).at' (i := i) hi
  have hLl := h.len
  have hstep : ∀ j, j < L.length → turnL (L.take (j + 1)) x = turnL (L.take j) x ++ [if (L.getD j .no).p = x then ⟨(L.getD j .no).p, (L.getD j .no).x, !(L.getD j .no).r⟩ else L.getD j .no] := fun j hj => by
    rw [take_snocD .no L j hj, turn_snoc]
  have hend : L.take L.length = L := List.take_length
  have hcl : ∀ j, (turnL (L.take j) x).length ≤ 65536 := fun j => by
    have h1 := turn_len (L.take j) x
    have h2 : (L.take j).length ≤ L.length := by simp; omega
    omega
  obtain ⟨a9, c9, hv, b91, b92⟩ := h.form
  obtain ⟨n9, hn9⟩ : ∃ n9, L.length = n9 := ⟨_, rfl⟩
  rw [hn9] at hv b91 hLl
  subst hv
  obtain ⟨V, hV, hs⟩ : ∃ V, (w.alloc (.cells #[.int .i64 n, .slice a9 n9 c9] docT)).alloc (.cells #[.int .i64 0, nilV] docT) = V ∧ Stage (fun _ => False) w [Ob.box w.heap.size #[.int .i64 n, .slice a9 n9 c9] docT, Ob.box (w.heap.size + 1) #[.int .i64 0, nilV] docT] V :=
    ⟨_, rfl, ((Stage.start w).alloc _ _).alloc' _ _ (size_alloc _ _)⟩
  have k0 := hs.cell 0 rfl (o := 0) rfl
  have k1 := hs.cell 0 rfl (o := 1) rfl
  have hfin : ∀ w' vs, Stage (fun _ => False) w [Ob.hgs vs (turnL L x)] w' → DocPost w n (.slice a9 n9 c9) (turnL L x) (fun u => .tuple #[u, .bool (hasN n x)]) (.returned (.tuple #[.agg #[.int .i64 n, vs], .bool (hasN n x)])) w' := fun w' vs hs => by
    obtain ⟨hk, G, h1, h2, h3⟩ := hs
    obtain ⟨ho, hG⟩ := h1 0 _ rfl
    exact ⟨vs, rfl, hk.below (Nat.le_refl _) (fun _ h => h.elim), ⟨ho, by have := turn_len L x; omega⟩, fun k hk2 => by rw [← hG] at hk2; exact Or.inr ((h3 0 k hk2).1.elim False.elim id)⟩
  generalize hP : DocPost w n (.slice a9 n9 c9) (turnL L x) (fun u => .tuple #[u, .bool (hasN n x)]) = Post at *
  clear hP
  have hs := hs.alloc #[.int .i64 n, nilV] docT
  replace hs : Stage (fun _ => False) w [Ob.box w.heap.size #[.int .i64 n, .slice a9 n9 c9] docT, Ob.box (w.heap.size + 1) #[.int .i64 0, nilV] docT, Ob.box V.heap.size #[.int .i64 n, nilV] docT, Ob.hgs nilV []] (V.alloc (.cells #[.int .i64 n, nilV] docT)) := hs.nilRow 0 65 3
  have m0 := hs.cell 0 rfl (o := 0) rfl
  have m1 := hs.cell 0 rfl (o := 1) rfl
  go_enter Try.func29, Try.ntmps29
  go_wp2_with fail
  clear k0 k1 m0 m1 hV
  generalize V.heap.size = bo at *
  go_loopw [15] (fun i wr => ∃ (j : Nat) (vs : Value), i = .int .i64 j ∧ j ≤ n9 ∧ Stage (fun _ => False) w [Ob.box w.heap.size #[.int .i64 n, .slice a9 n9 c9] docT, Ob.box (w.heap.size + 1) #[.int .i64 0, nilV] docT, Ob.box bo #[.int .i64 n, vs] docT, Ob.hgs vs (turnL (L.take j) x)] wr) (fun i _ => n9 - (intOf i).toNat)
  case atStart => exact ⟨0, _, rfl, Nat.zero_le _, hs⟩
  case round =>
    clear hs
    obtain ⟨j, vs, rfl, hj, hs⟩ := hrel
    have hn := hs.ne 2 0 rfl rfl (by decide)
    have hnR := hs.ne 2 1 rfl rfl (by decide)
    have o0 := hs.cell 2 rfl (o := 0) rfl
    have o1 := hs.cell 2 rfl (o := 1) rfl
    obtain ⟨av, cv, rfl, _, _⟩ := hs.hgsForm 3 rfl
    by_cases hjn : j < n9
    · have hji : (j : Int) < n9 := by omega
      obtain ⟨g, c', hv, hg, u0, u1, u2⟩ := hat wr hs.below j (by omega)
      rw [hn9] at hv
      cases hv
      have hst := hstep j (by omega)
      have hc1 := hcl j
      generalize L.getD j Hg.no = e at *
      obtain ⟨ep, ex, er⟩ := e
      simp only at u0 u1 u2 hst
      have hs4 : Stage (fun _ => False) w ([Ob.box w.heap.size #[.int .i64 n, .slice (some ⟨g, 0, none⟩) n9 c9] docT, Ob.box (w.heap.size + 1) #[.int .i64 0, nilV] docT, Ob.box bo #[.int .i64 n, .slice av (turnL (L.take j) x).length cv] docT, Ob.hgs (.slice av (turnL (L.take j) x).length cv) (turnL (L.take j) x)] ++ [Ob.box wr.heap.size #[.int .i64 ep, .int .i64 ex, .bool er] 65]) (wr.alloc (.cells #[.int .i64 ep, .int .i64 ex, .bool er] 65)) := hs.alloc _ _
      have hn4 := hs4.ne 2 4 rfl rfl (by decide)
      have o1' := hs4.cell 2 rfl (o := 1) rfl
      have e0 := hs4.cell 4 rfl (o := 0) rfl
      have e1 := hs4.cell 4 rfl (o := 1) rfl
      have e2 := hs4.cell 4 rfl (o := 2) rfl
      generalize hm : (turnL (L.take j) x).length = m at *
      by_cases h1 : ep = x
      · rw [if_pos h1] at hst
        subst h1
        cases er
        · simp only [Bool.not_false] at hst
          have hs4 := hs.alloc #[.int .i64 ep, .int .i64 ex, .bool true] 65
          replace hs4 : Stage (fun _ => False) w [Ob.box w.heap.size #[.int .i64 n, .slice (some ⟨g, 0, none⟩) n9 c9] docT, Ob.box (w.heap.size + 1) #[.int .i64 0, nilV] docT, Ob.box bo #[.int .i64 n, .slice av m cv] docT, Ob.hgs (.slice av m cv) (turnL (L.take j) ep), Ob.box wr.heap.size #[.int .i64 ep, .int .i64 ex, .bool true] 65] _ := hs4
          have o1' := hs4.cell 2 rfl (o := 1) rfl
          have e0 := hs4.cell 4 rfl (o := 0) rfl
          have e1 := hs4.cell 4 rfl (o := 1) rfl
          have e2 := hs4.cell 4 rfl (o := 2) rfl
          clear hat hstep hend hcl hfin hs
          go_wp2_with (at_builtin; refine hs4.wp_appendHg (p := ep) (x := ex) (r := true) 3 (by first | rfl | (rw [← hm]; rfl)) (size_alloc _ _) rfl _ _ 33 rfl Try.underlying33 info_hung rfl rfl (by omega) ?_)
          intro v5 w5 hs5
          rw [← hst] at hs5
          obtain ⟨a5, c5, rfl, _, _⟩ := hs5.hgsForm 3 rfl
          have g1 := hs5.free 2 rfl 1
          have z1 := hs5.cell 2 rfl (o := 1) rfl
          generalize hm5 : (turnL (L.take (j + 1)) ep).length = m5 at *
          have hs6 := (hs5.store 2 rfl 1 (.slice a5 m5 c5)).take 4
          clear hs5 hs4
          go_wp2_with fail
          go_roundw
          case rel => exact ⟨j + 1, _, by go_num, by omega, hs6⟩
          case measure => simp [intOf]; omega
        · simp only [Bool.not_true] at hst
          have hs4 := hs.alloc #[.int .i64 ep, .int .i64 ex, .bool false] 65
          replace hs4 : Stage (fun _ => False) w [Ob.box w.heap.size #[.int .i64 n, .slice (some ⟨g, 0, none⟩) n9 c9] docT, Ob.box (w.heap.size + 1) #[.int .i64 0, nilV] docT, Ob.box bo #[.int .i64 n, .slice av m cv] docT, Ob.hgs (.slice av m cv) (turnL (L.take j) ep), Ob.box wr.heap.size #[.int .i64 ep, .int .i64 ex, .bool false] 65] _ := hs4
          have o1' := hs4.cell 2 rfl (o := 1) rfl
          have e0 := hs4.cell 4 rfl (o := 0) rfl
          have e1 := hs4.cell 4 rfl (o := 1) rfl
          have e2 := hs4.cell 4 rfl (o := 2) rfl
          clear hat hstep hend hcl hfin hs
          go_wp2_with (at_builtin; refine hs4.wp_appendHg (p := ep) (x := ex) (r := false) 3 (by first | rfl | (rw [← hm]; rfl)) (size_alloc _ _) rfl _ _ 33 rfl Try.underlying33 info_hung rfl rfl (by omega) ?_)
          intro v5 w5 hs5
          rw [← hst] at hs5
          obtain ⟨a5, c5, rfl, _, _⟩ := hs5.hgsForm 3 rfl
          have g1 := hs5.free 2 rfl 1
          have z1 := hs5.cell 2 rfl (o := 1) rfl
          generalize hm5 : (turnL (L.take (j + 1)) ep).length = m5 at *
          have hs6 := (hs5.store 2 rfl 1 (.slice a5 m5 c5)).take 4
          clear hs5 hs4
          go_wp2_with fail
          go_roundw
          case rel => exact ⟨j + 1, _, by go_num, by omega, hs6⟩
          case measure => simp [intOf]; omega
      · have h1' : (ep == x) = false := by simpa using h1
        rw [if_neg h1] at hst
        clear hat hstep hend hcl hfin hs
        go_wp2_with (at_builtin; refine hs4.wp_appendHg (p := ep) (x := ex) (r := er) 3 (by first | rfl | (rw [← hm]; rfl)) (size_alloc _ _) rfl _ _ 33 rfl Try.underlying33 info_hung rfl rfl (by omega) ?_)
        intro v5 w5 hs5
        rw [← hst] at hs5
        obtain ⟨a5, c5, rfl, _, _⟩ := hs5.hgsForm 3 rfl
        have g1 := hs5.free 2 rfl 1
        have z1 := hs5.cell 2 rfl (o := 1) rfl
        generalize hm5 : (turnL (L.take (j + 1)) x).length = m5 at *
        have hs6 := (hs5.store 2 rfl 1 (.slice a5 m5 c5)).take 4
        clear hs5 hs4
        go_wp2_with fail
        go_roundw
        case rel => exact ⟨j + 1, _, by go_num, by omega, hs6⟩
        case measure => simp [intOf]; omega
    · have hji : ¬ (j : Int) < n9 := by omega
      obtain rfl : j = n9 := by omega
      have e : turnL (L.take j) x = turnL L x := by rw [← hn9, hend]
      rw [e] at hs o1
      generalize hm : (turnL L x).length = m at *
      have hs3 := hs.drew
      have hC := rhas_any n x (.slice a9 j c9) wr.drew
      have hnR' := hnR.symm
      have k0 := hs.cell 0 rfl (o := 0) rfl
      have k1 := hs.cell 0 rfl (o := 1) rfl
      clear hat hstep hend hcl
      go_wp2_with fail
      go_region_held3 (fun w' => w'.cell? ⟨bo, 0, none⟩ = some (.int .i64 n) ∧ w'.cell? ⟨bo, 1, none⟩ = some (.slice av m cv) ∧ w'.cell? ⟨w.heap.size, 0, none⟩ = some (.int .i64 n) ∧ w'.cell? ⟨w.heap.size, 1, none⟩ = some (.slice a9 j c9)) (first | exact ⟨o0, o1, k0, k1⟩ | exact ⟨o0p, o1p, k0p, k1p⟩ | simp [*, World.cell?_setCell_far])
        ((with_reducible refine hC.mono ?_; rintro e v3 ⟨rfl, hb⟩; have hs5 := hs3.later hb; have o0p := hs5.cell 2 rfl (o := 0) rfl; have o1p := hs5.cell 2 rfl (o := 1) rfl; have k0p := hs5.cell 0 rfl (o := 0) rfl; have k1p := hs5.cell 0 rfl (o := 1) rfl; have z0 := hs5.cell 1 rfl (o := 0) rfl; have z1 := hs5.cell 1 rfl (o := 1) rfl; have g0 := hs5.free 1 rfl 0; have g1 := hs5.free 1 rfl 1; have l1 := hs5.lt 1 rfl))
      all_goals
        have hs6 := (hs5.store 1 rfl 0 (.int .i64 n)).store 1 rfl 1 (.slice av m cv)
        have hF := hfin _ _ (hs6.select [3] (by decide) rfl)
        go_wp2_with fail
        exact bodyPost_ret (v := .tuple #[.agg #[.int .i64 n, .slice av m cv], .bool (hasN n x)]) (by simp [results, Try.results29, go_sem, z0, z1]) rfl hF
end
end Go.Proofs.Ytkagchnhjjcgbaa
