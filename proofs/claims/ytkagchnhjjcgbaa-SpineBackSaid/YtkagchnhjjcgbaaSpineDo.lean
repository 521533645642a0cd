/- What the statements' do and same return: an act is done to trees and to the document's; the answers are the same, and so is where each thing is. (Written by gen_do.py.) -/
import Derived.Test.YtkagchnhjjcgbaaSpineRef4
namespace Go.Proofs.Ytkagchnhjjcgbaa
open Go.RowKit Go.Sort

namespace Stage
variable {F0 : Nat → Prop} {W w : World} {l : List Ob} {v : Value} {L : List Hg} {n : Nat}
theorem docAt (h : Stage F0 W l w) (i : Nat) (hi : l[i]? = some (Ob.doc v L)) : DocAt w v L := (h.get hi).elim fun _ ho => ho.1
theorem docForm (h : Stage F0 W l w) (i : Nat) (hi : l[i]? = some (Ob.doc v L)) : ∃ a m c, v = .slice a m c := by
  obtain ⟨a, c, e, _⟩ := (h.docAt i hi).form
  exact ⟨a, _, c, e⟩
theorem spineInv {p : Nat} (h : Stage F0 W l w) (i : Nat) (hi : l[i]? = some (Ob.spine p n L)) : HInv n L ∧ n ≤ 65536 := (h.get hi).elim fun _ ⟨_, h1, h2, _⟩ => ⟨h1, h2⟩
/-- A call that makes other trees of the document's. -/
theorem docCall {P : Program} {f : FuncId} {args : Array Value} {L' : List Hg} {res : Value → Value} (h : Stage F0 W l w) (i : Nat) (hi : l[i]? = some (Ob.doc v L)) (hc : Calls P f args w (DocPost w n v L' res)) :
    Calls P f args w fun e w' => ∃ a m c, e = .returned (res (.agg #[.int .i64 n, .slice a m c])) ∧ Stage F0 W (l.set i (Ob.doc (.slice a m c) L')) w' :=
  hc.mono fun e w' ⟨v', he, hb, hd, hF⟩ => by
    obtain ⟨a, c, hv, _⟩ := hd.form
    subst hv
    exact ⟨a, _, c, he, h.moved hi fun F ho => ⟨rowF _, ⟨hd, rfl⟩, by rw [ho.2]; exact ⟨Keeps.of_below_all hb _, hF⟩⟩⟩
end Stage
section
variable {v : Value} {n p : Nat} {L : List Hg}
def DoPost (F : Nat → Prop) (w : World) (p n : Nat) (e : Ending) (w' : World) : Prop :=
  ∃ a m c L', e = .returned (.tuple #[.agg #[.int .i64 n, .slice a m c], .bool true]) ∧ Stage F w [Ob.spine p n L', Ob.doc (.slice a m c) L'] w'
set_option maxRecDepth 100000 in
set_option maxHeartbeats 4000000 in
theorem do_hang (hn : n ≤ 60000) (y x : Int) (r : Bool) {F : Nat → Prop} {w : World} (hs : Stage F w [Ob.spine p n L, Ob.doc v L] w) :
    Calls Try.prog 15 #[ptrV p, .agg #[.int .i64 n, v], .agg #[.int .i64 0, .int .i64 y, .int .i64 x, .bool r]] w (DoPost F w p n) := by
  obtain ⟨I, _⟩ := hs.spineInv 0 rfl
  obtain ⟨a, m, c, rfl⟩ := hs.docForm 1 rfl
  obtain ⟨V, hV, hs1⟩ : ∃ V, ((w.alloc (.cells #[.int .i64 n, .slice a m c] docT)).alloc (.cells #[.int .i64 0, .int .i64 y, .int .i64 x, .bool r] 37)).alloc (.cells #[.int .i64 0, nilV] docT) = V ∧ Stage F w [Ob.spine p n L, Ob.doc (.slice a m c) L, Ob.box w.heap.size #[.int .i64 n, .slice a m c] docT, Ob.box (w.heap.size + 1) #[.int .i64 0, .int .i64 y, .int .i64 x, .bool r] 37, Ob.box (w.heap.size + 1 + 1) #[.int .i64 0, nilV] docT] V :=
    ⟨_, rfl, ((hs.alloc _ _).alloc' _ _ (size_alloc _ _)).alloc' _ _ (by rw [size_alloc, size_alloc])⟩
  clear hs
  have k0 := hs1.cell 2 rfl (o := 0) rfl
  have k1 := hs1.cell 2 rfl (o := 1) rfl
  have d0 := hs1.cell 3 rfl (o := 0) rfl
  have d1 := hs1.cell 3 rfl (o := 1) rfl
  have d2 := hs1.cell 3 rfl (o := 2) rfl
  have d3 := hs1.cell 3 rfl (o := 3) rfl
  have hA := rabove_any I (by omega) x y (hs1.docAt 1 rfl)
  have hLn := hang_rng I
  go_enter Try.func15, Try.ntmps15
  go_wp2_with fail
  clear k0 k1 d0 d1 d2 d3
  clear hV
  generalize w.heap.size = b4 at *
  refine hA.mono ?_
  rintro e v0 ⟨b, rfl, hab, hb⟩
  clear hA
  replace hs1 := hs1.later hb
  have k0 := hs1.cell 2 rfl (o := 0) rfl
  have k1 := hs1.cell 2 rfl (o := 1) rfl
  have d0 := hs1.cell 3 rfl (o := 0) rfl
  have d1 := hs1.cell 3 rfl (o := 1) rfl
  have d2 := hs1.cell 3 rfl (o := 2) rfl
  have d3 := hs1.cell 3 rfl (o := 3) rfl
  by_cases hxy : b = true ∧ x ≠ y
  · obtain ⟨rfl, hne⟩ := hxy
    have hne' : (x == y) = false := by simpa using hne
    have hne2 : (x != y) = true := by simpa using hne
    clear hab hLn I
    have z0 := hs1.cell 4 rfl (o := 0) rfl
    have z1 := hs1.cell 4 rfl (o := 1) rfl
    have g0 := hs1.free 4 rfl 0
    have g1 := hs1.free 4 rfl 1
    have hs6 := ((hs1.store 4 rfl 0 (.int .i64 n)).store 4 rfl 1 (.slice a m c)).take 2
    go_wp2_with fail
    exact bodyPost_ret (v := .tuple #[.agg #[.int .i64 n, .slice a m c], .bool true]) (by simp [results, Try.results15, go_sem, z0, z1]) rfl ⟨a, m, c, L, rfl, hs6⟩
  · have hok : ¬ aboveL L x y ∨ x = y := by
      by_cases e : x = y
      · exact Or.inr e
      · exact Or.inl (fun h => hxy ⟨hab.2 h, e⟩)
    have hguard : b = false ∨ (b = true ∧ (x == y) = true ∧ (x != y) = false) := by
      cases b
      · exact Or.inl rfl
      · refine Or.inr ⟨rfl, ?_⟩
        have : x = y := by
          by_cases e : x = y
          · exact e
          · exact absurd ⟨rfl, e⟩ hxy
        subst this
        simp
    have hR := hs1.docCall (n := n) 1 rfl (rhang_any (n := n) (by omega) y x r (hs1.docAt 1 rfl))
    clear hab hxy hLn I hb
    rcases hguard with rfl | ⟨rfl, hq1, hq2⟩
    all_goals
      go_wp2_with fail
      clear k0 k1 d0 d1 d2 d3
      refine hR.mono ?_
      rintro e v1 ⟨a2, n2, c2, rfl, hs2⟩
      clear hR hs1
      obtain ⟨v2, hv2, hs3⟩ : ∃ v2, v1.alloc (.cells #[.int .i64 n, .slice a2 n2 c2] docT) = v2 ∧ Stage F w [Ob.spine p n L, Ob.doc (.slice a2 n2 c2) (hangL n L y x r), Ob.box b4 #[.int .i64 n, .slice a m c] docT, Ob.box (b4 + 1) #[.int .i64 0, .int .i64 y, .int .i64 x, .bool r] 37, Ob.box (b4 + 1 + 1) #[.int .i64 0, nilV] docT, Ob.box v1.heap.size #[.int .i64 n, .slice a2 n2 c2] docT] v2 := ⟨_, rfl, hs2.alloc _ _⟩
      clear hs2
      have j0 := hs3.cell 5 rfl (o := 0) rfl
      have j1 := hs3.cell 5 rfl (o := 1) rfl
      have jg0 := hs3.free 5 rfl 0
      have jg1 := hs3.free 5 rfl 1
      go_wp2_with fail
      clear hv2 j0 j1 jg0 jg1
      generalize v1.heap.size = b8 at *
      have hs4 := hs3.drew
      have hC := hs4.call 0 rfl (fun _ ho => hang_sp y x r hok ho)
      have n68 := hs3.ne 4 5 rfl rfl (by decide)
      have n65 := hs3.ne 4 3 rfl rfl (by decide)
      have n68' := n68.symm
      have n65' := n65.symm
      have k0 := hs3.cell 5 rfl (o := 0) rfl
      have k1 := hs3.cell 5 rfl (o := 1) rfl
      have d1 := hs3.cell 3 rfl (o := 1) rfl
      have d2 := hs3.cell 3 rfl (o := 2) rfl
      have d3 := hs3.cell 3 rfl (o := 3) rfl
      go_region_held3 (fun w' => w'.cell? ⟨b8, 0, none⟩ = some (.int .i64 n) ∧ w'.cell? ⟨b8, 1, none⟩ = some (.slice a2 n2 c2) ∧ w'.cell? ⟨b4 + 1, 1, none⟩ = some (.int .i64 y) ∧ w'.cell? ⟨b4 + 1, 2, none⟩ = some (.int .i64 x) ∧ w'.cell? ⟨b4 + 1, 3, none⟩ = some (.bool r)) (first | exact ⟨k0, k1, d1, d2, d3⟩ | exact ⟨k0p, k1p, d1p, d2p, d3p⟩ | simp [*, World.cell?_setCell_far])
        ((with_reducible refine hC.mono ?_; rintro e v3 ⟨rfl, hs5⟩; have k0p := hs5.cell 5 rfl (o := 0) rfl; have k1p := hs5.cell 5 rfl (o := 1) rfl; have d1p := hs5.cell 3 rfl (o := 1) rfl; have d2p := hs5.cell 3 rfl (o := 2) rfl; have d3p := hs5.cell 3 rfl (o := 3) rfl; have f0 := hs5.free 4 rfl 0; have f1 := hs5.free 4 rfl 1; have l4 := hs5.lt 4 rfl; have z0 := hs5.cell 4 rfl (o := 0) rfl; have z1 := hs5.cell 4 rfl (o := 1) rfl))
      all_goals
        have hs6 := ((hs5.store 4 rfl 0 (.int .i64 n)).store 4 rfl 1 (.slice a2 n2 c2)).take 2
        go_wp2_with fail
        exact bodyPost_ret (v := .tuple #[.agg #[.int .i64 n, .slice a2 n2 c2], .bool true]) (by simp [results, Try.results15, go_sem, z0, z1]) rfl ⟨a2, n2, c2, (hangL n L y x r), rfl, hs6⟩
set_option maxRecDepth 100000 in
set_option maxHeartbeats 4000000 in
theorem do_cut (_hn : n ≤ 60000) (y x : Int) (r : Bool) {F : Nat → Prop} {w : World} (hs : Stage F w [Ob.spine p n L, Ob.doc v L] w) :
    Calls Try.prog 15 #[ptrV p, .agg #[.int .i64 n, v], .agg #[.int .i64 1, .int .i64 y, .int .i64 x, .bool r]] w (DoPost F w p n) := by
  obtain ⟨I, _⟩ := hs.spineInv 0 rfl
  obtain ⟨a, m, c, rfl⟩ := hs.docForm 1 rfl
  obtain ⟨V, hV, hs1⟩ : ∃ V, ((w.alloc (.cells #[.int .i64 n, .slice a m c] docT)).alloc (.cells #[.int .i64 1, .int .i64 y, .int .i64 x, .bool r] 37)).alloc (.cells #[.int .i64 0, nilV] docT) = V ∧ Stage F w [Ob.spine p n L, Ob.doc (.slice a m c) L, Ob.box w.heap.size #[.int .i64 n, .slice a m c] docT, Ob.box (w.heap.size + 1) #[.int .i64 1, .int .i64 y, .int .i64 x, .bool r] 37, Ob.box (w.heap.size + 1 + 1) #[.int .i64 0, nilV] docT] V :=
    ⟨_, rfl, ((hs.alloc _ _).alloc' _ _ (size_alloc _ _)).alloc' _ _ (by rw [size_alloc, size_alloc])⟩
  clear hs
  have k0 := hs1.cell 2 rfl (o := 0) rfl
  have k1 := hs1.cell 2 rfl (o := 1) rfl
  have d0 := hs1.cell 3 rfl (o := 0) rfl
  have d1 := hs1.cell 3 rfl (o := 1) rfl
  have d2 := hs1.cell 3 rfl (o := 2) rfl
  have d3 := hs1.cell 3 rfl (o := 3) rfl
  have hR := hs1.docCall (n := n) 1 rfl (rcut_any (n := n) x (hs1.docAt 1 rfl))
  go_enter Try.func15, Try.ntmps15
  go_wp2_with fail
  clear k0 k1 d0 d1 d2 d3
  clear hV
  generalize w.heap.size = b4 at *
  refine hR.mono ?_
  rintro e v1 ⟨a2, n2, c2, rfl, hs2⟩
  clear hR hs1
  obtain ⟨v2, hv2, hs3⟩ : ∃ v2, v1.alloc (.cells #[.int .i64 n, .slice a2 n2 c2] docT) = v2 ∧ Stage F w [Ob.spine p n L, Ob.doc (.slice a2 n2 c2) (cutL L x), Ob.box b4 #[.int .i64 n, .slice a m c] docT, Ob.box (b4 + 1) #[.int .i64 1, .int .i64 y, .int .i64 x, .bool r] 37, Ob.box (b4 + 1 + 1) #[.int .i64 0, nilV] docT, Ob.box v1.heap.size #[.int .i64 n, .slice a2 n2 c2] docT] v2 := ⟨_, rfl, hs2.alloc _ _⟩
  clear hs2
  have hC := hs3.call 0 rfl (fun _ ho => cut_sp x ho)
  have d2 := hs3.cell 3 rfl (o := 2) rfl
  generalize upL L x = o at *
  go_wp2_with fail
  clear hv2
  generalize v1.heap.size = b8 at *
  refine hC.mono ?_
  rintro e v3 ⟨rfl, hs5⟩
  clear hC hs3 d2
  have j0 := hs5.cell 5 rfl (o := 0) rfl
  have j1 := hs5.cell 5 rfl (o := 1) rfl
  have f0 := hs5.free 4 rfl 0
  have f1 := hs5.free 4 rfl 1
  have z0 := hs5.cell 4 rfl (o := 0) rfl
  have z1 := hs5.cell 4 rfl (o := 1) rfl
  have hs6 := ((hs5.store 4 rfl 0 (.int .i64 n)).store 4 rfl 1 (.slice a2 n2 c2)).take 2
  go_wp2_with fail
  exact bodyPost_ret (v := .tuple #[.agg #[.int .i64 n, .slice a2 n2 c2], .bool true]) (by simp [results, Try.results15, go_sem, z0, z1]) rfl ⟨a2, n2, c2, cutL L x, rfl, hs6⟩
set_option maxRecDepth 100000 in
set_option maxHeartbeats 4000000 in
theorem do_turn (_hn : n ≤ 60000) (y x : Int) (r : Bool) {F : Nat → Prop} {w : World} (hs : Stage F w [Ob.spine p n L, Ob.doc v L] w) :
    Calls Try.prog 15 #[ptrV p, .agg #[.int .i64 n, v], .agg #[.int .i64 2, .int .i64 y, .int .i64 x, .bool r]] w (DoPost F w p n) := by
  obtain ⟨I, _⟩ := hs.spineInv 0 rfl
  obtain ⟨a, m, c, rfl⟩ := hs.docForm 1 rfl
  obtain ⟨V, hV, hs1⟩ : ∃ V, ((w.alloc (.cells #[.int .i64 n, .slice a m c] docT)).alloc (.cells #[.int .i64 2, .int .i64 y, .int .i64 x, .bool r] 37)).alloc (.cells #[.int .i64 0, nilV] docT) = V ∧ Stage F w [Ob.spine p n L, Ob.doc (.slice a m c) L, Ob.box w.heap.size #[.int .i64 n, .slice a m c] docT, Ob.box (w.heap.size + 1) #[.int .i64 2, .int .i64 y, .int .i64 x, .bool r] 37, Ob.box (w.heap.size + 1 + 1) #[.int .i64 0, nilV] docT] V :=
    ⟨_, rfl, ((hs.alloc _ _).alloc' _ _ (size_alloc _ _)).alloc' _ _ (by rw [size_alloc, size_alloc])⟩
  clear hs
  have k0 := hs1.cell 2 rfl (o := 0) rfl
  have k1 := hs1.cell 2 rfl (o := 1) rfl
  have d0 := hs1.cell 3 rfl (o := 0) rfl
  have d1 := hs1.cell 3 rfl (o := 1) rfl
  have d2 := hs1.cell 3 rfl (o := 2) rfl
  have d3 := hs1.cell 3 rfl (o := 3) rfl
  have hR := hs1.docCall (n := n) 1 rfl (rturn_any (n := n) y (hs1.docAt 1 rfl))
  go_enter Try.func15, Try.ntmps15
  go_wp2_with fail
  clear k0 k1 d0 d1 d2 d3
  clear hV
  generalize w.heap.size = b4 at *
  refine hR.mono ?_
  rintro e v1 ⟨a2, n2, c2, rfl, hs2⟩
  clear hR hs1
  obtain ⟨v2, hv2, hs3⟩ : ∃ v2, v1.alloc (.cells #[.int .i64 n, .slice a2 n2 c2] docT) = v2 ∧ Stage F w [Ob.spine p n L, Ob.doc (.slice a2 n2 c2) (turnL L y), Ob.box b4 #[.int .i64 n, .slice a m c] docT, Ob.box (b4 + 1) #[.int .i64 2, .int .i64 y, .int .i64 x, .bool r] 37, Ob.box (b4 + 1 + 1) #[.int .i64 0, nilV] docT, Ob.box v1.heap.size #[.int .i64 n, .slice a2 n2 c2] docT] v2 := ⟨_, rfl, hs2.alloc _ _⟩
  clear hs2
  have j0 := hs3.cell 5 rfl (o := 0) rfl
  have j1 := hs3.cell 5 rfl (o := 1) rfl
  have jg0 := hs3.free 5 rfl 0
  have jg1 := hs3.free 5 rfl 1
  go_wp2_with fail
  clear hv2 j0 j1 jg0 jg1
  generalize v1.heap.size = b8 at *
  have hs4 := hs3.drew
  have hC := hs4.call 0 rfl (fun _ ho => turn_sp y ho)
  have n68 := hs3.ne 4 5 rfl rfl (by decide)
  have n65 := hs3.ne 4 3 rfl rfl (by decide)
  have n68' := n68.symm
  have n65' := n65.symm
  have k0 := hs3.cell 5 rfl (o := 0) rfl
  have k1 := hs3.cell 5 rfl (o := 1) rfl
  have d1 := hs3.cell 3 rfl (o := 1) rfl
  have d2 := hs3.cell 3 rfl (o := 2) rfl
  have d3 := hs3.cell 3 rfl (o := 3) rfl
  go_region_held3 (fun w' => w'.cell? ⟨b8, 0, none⟩ = some (.int .i64 n) ∧ w'.cell? ⟨b8, 1, none⟩ = some (.slice a2 n2 c2) ∧ w'.cell? ⟨b4 + 1, 1, none⟩ = some (.int .i64 y) ∧ w'.cell? ⟨b4 + 1, 2, none⟩ = some (.int .i64 x) ∧ w'.cell? ⟨b4 + 1, 3, none⟩ = some (.bool r)) (first | exact ⟨k0, k1, d1, d2, d3⟩ | exact ⟨k0p, k1p, d1p, d2p, d3p⟩ | simp [*, World.cell?_setCell_far])
    ((with_reducible refine hC.mono ?_; rintro e v3 ⟨rfl, hs5⟩; have k0p := hs5.cell 5 rfl (o := 0) rfl; have k1p := hs5.cell 5 rfl (o := 1) rfl; have d1p := hs5.cell 3 rfl (o := 1) rfl; have d2p := hs5.cell 3 rfl (o := 2) rfl; have d3p := hs5.cell 3 rfl (o := 3) rfl; have f0 := hs5.free 4 rfl 0; have f1 := hs5.free 4 rfl 1; have l4 := hs5.lt 4 rfl; have z0 := hs5.cell 4 rfl (o := 0) rfl; have z1 := hs5.cell 4 rfl (o := 1) rfl))
  all_goals
    have hs6 := ((hs5.store 4 rfl 0 (.int .i64 n)).store 4 rfl 1 (.slice a2 n2 c2)).take 2
    go_wp2_with fail
    exact bodyPost_ret (v := .tuple #[.agg #[.int .i64 n, .slice a2 n2 c2], .bool true]) (by simp [results, Try.results15, go_sem, z0, z1]) rfl ⟨a2, n2, c2, (turnL L y), rfl, hs6⟩
set_option maxRecDepth 100000 in
set_option maxHeartbeats 4000000 in
theorem do_none (_hn : n ≤ 60000) (k y x : Int) (r : Bool) (hk : k ≠ 0 ∧ k ≠ 1 ∧ k ≠ 2) {F : Nat → Prop} {w : World} (hs : Stage F w [Ob.spine p n L, Ob.doc v L] w) :
    Calls Try.prog 15 #[ptrV p, .agg #[.int .i64 n, v], .agg #[.int .i64 k, .int .i64 y, .int .i64 x, .bool r]] w (DoPost F w p n) := by
  obtain ⟨I, _⟩ := hs.spineInv 0 rfl
  obtain ⟨a, m, c, rfl⟩ := hs.docForm 1 rfl
  obtain ⟨V, hV, hs1⟩ : ∃ V, ((w.alloc (.cells #[.int .i64 n, .slice a m c] docT)).alloc (.cells #[.int .i64 k, .int .i64 y, .int .i64 x, .bool r] 37)).alloc (.cells #[.int .i64 0, nilV] docT) = V ∧ Stage F w [Ob.spine p n L, Ob.doc (.slice a m c) L, Ob.box w.heap.size #[.int .i64 n, .slice a m c] docT, Ob.box (w.heap.size + 1) #[.int .i64 k, .int .i64 y, .int .i64 x, .bool r] 37, Ob.box (w.heap.size + 1 + 1) #[.int .i64 0, nilV] docT] V :=
    ⟨_, rfl, ((hs.alloc _ _).alloc' _ _ (size_alloc _ _)).alloc' _ _ (by rw [size_alloc, size_alloc])⟩
  clear hs
  have k0 := hs1.cell 2 rfl (o := 0) rfl
  have k1 := hs1.cell 2 rfl (o := 1) rfl
  have d0 := hs1.cell 3 rfl (o := 0) rfl
  have d1 := hs1.cell 3 rfl (o := 1) rfl
  have d2 := hs1.cell 3 rfl (o := 2) rfl
  have d3 := hs1.cell 3 rfl (o := 3) rfl
  have q0 : (k == 0) = false := by simpa using hk.1
  have q1 : (k == 1) = false := by simpa using hk.2.1
  have q2 : (k == 2) = false := by simpa using hk.2.2
  clear I
  have z0 := hs1.cell 4 rfl (o := 0) rfl
  have z1 := hs1.cell 4 rfl (o := 1) rfl
  have g0 := hs1.free 4 rfl 0
  have g1 := hs1.free 4 rfl 1
  have hs6 := ((hs1.store 4 rfl 0 (.int .i64 n)).store 4 rfl 1 (.slice a m c)).take 2
  go_enter Try.func15, Try.ntmps15
  go_wp2_with fail
  exact bodyPost_ret (v := .tuple #[.agg #[.int .i64 n, .slice a m c], .bool true]) (by simp [results, Try.results15, go_sem, z0, z1]) rfl ⟨a, m, c, L, rfl, hs6⟩
/-- An act, whatever it is. -/
theorem do_any (hn : n ≤ 60000) (k y x : Int) (r : Bool) {F : Nat → Prop} {w : World} (hs : Stage F w [Ob.spine p n L, Ob.doc v L] w) :
    Calls Try.prog 15 #[ptrV p, .agg #[.int .i64 n, v], .agg #[.int .i64 k, .int .i64 y, .int .i64 x, .bool r]] w (DoPost F w p n) := by
  by_cases h0 : k = 0
  · subst h0; exact do_hang hn y x r hs
  by_cases h1 : k = 1
  · subst h1; exact do_cut hn y x r hs
  by_cases h2 : k = 2
  · subst h2; exact do_turn hn y x r hs
  · exact do_none hn k y x r ⟨h0, h1, h2⟩ hs
end
end Go.Proofs.Ytkagchnhjjcgbaa
