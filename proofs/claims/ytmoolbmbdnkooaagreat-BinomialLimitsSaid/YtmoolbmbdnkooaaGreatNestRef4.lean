/- Merged of NestRef3, NestRef4. -/
import Derived.Test.YtmoolbmbdnkooaaGreatNestRef2
import Derived.Deep.RegionWith
namespace Go.Proofs.YtmoolbmbdnkooaaGreat
open Go.RowKit Go.Sort

section
variable {w : World} {hv cv : Value} {W : WS}
theorem refdrop_any (x : Int) (h : NestAt w hv cv W) : Calls Tryz.prog 47 #[.agg #[hv, cv], .int .i64 x] w (NestPost w hv cv (dropW W x) (fun v => .tuple #[v, .bool (inW W x)])) := by
  obtain ⟨a9, c9, hhv, _, _⟩ := h.hform
  generalize hn9 : W.heaps.length = n9 at hhv
  subst hhv
  obtain ⟨a8, c8, hcv, b81, b82⟩ := h.cform
  have hcl := h.clen
  generalize hn8 : W.cells.length = n8 at hcv b81 hcl
  subst hcv
  obtain ⟨V, hV, hs⟩ : ∃ V, (w.alloc (.cells #[.slice a9 n9 c9, .slice a8 n8 c8] 77)).alloc (.cells #[nestZ, nestZ] 77) = V ∧
      Stage (fun _ => False) w [Ob.box w.heap.size #[.slice a9 n9 c9, .slice a8 n8 c8] 77, Ob.box (w.heap.size + 1) #[nestZ, nestZ] 77] V :=
    ⟨_, rfl, ((Stage.start w).alloc _ _).alloc' _ _ (size_alloc _ _)⟩
  have hI := refin_any x (h.later hs.below)
  have k0 := hs.cell 0 rfl (o := 0) rfl
  have k1 := hs.cell 0 rfl (o := 1) rfl
  cases ci : inW W x
  · have q1 : dropW W x = W := by simp [dropW, ci]
    rw [ci] at hI
    rw [q1]
    go_enter Tryz.func47, Tryz.ntmps47
    go_wp2_with fail
    clear hV
    refine (hI).mono ?_
    rintro e w1 ⟨rfl, hb⟩
    replace hs := hs.later hb
    clear hb
    clear k0 k1
    have k0 := hs.cell 0 rfl (o := 0) rfl
    have k1 := hs.cell 0 rfl (o := 1) rfl
    have z0 := hs.cell 1 rfl (o := 0) rfl
    have z1 := hs.cell 1 rfl (o := 1) rfl
    have g0 := hs.free 1 rfl 0
    have g1 := hs.free 1 rfl 1
    clear hI
    go_wp2_with fail
    refine bodyPost_ret (v := .tuple #[.agg #[.slice a9 n9 c9, .slice a8 n8 c8], .bool false]) (by simp [results, Tryz.results47, go_sem, z0, z1]) rfl ⟨_, _, rfl, ((hs.store 1 rfl 0 (.slice a9 n9 c9)).store 1 rfl 1 (.slice a8 n8 c8)).below, h.later ((hs.store 1 rfl 0 (.slice a9 n9 c9)).store 1 rfl 1 (.slice a8 n8 c8)).below, fun k hk => Or.inl hk⟩
  · obtain ⟨i, rfl, hi, _⟩ := in_nat ci
    have q1 : dropW W i = ⟨W.heaps, W.cells.set i .off⟩ := by simp [dropW, ci]
    rw [ci] at hI
    rw [q1]
    go_enter Tryz.func47, Tryz.ntmps47
    go_wp2_with fail
    clear hV
    refine (hI).mono ?_
    rintro e w1 ⟨rfl, hb⟩
    replace hs := hs.later hb
    clear hb
    clear k0 k1
    have k0 := hs.cell 0 rfl (o := 0) rfl
    have k1 := hs.cell 0 rfl (o := 1) rfl
    have hW := refwith_any i hi .off (h.later hs.below)
    clear hI
    go_wp2_with fail
    clear k0 k1
    refine hW.mono ?_
    rintro e V2 ⟨hv2, cv2, rfl, hb, hN2, hF2⟩
    have hVs := hs.size
    have lR := hs.lt 1 rfl
    replace hs := hs.later hb
    obtain ⟨a7, c7, hhv2, _, _⟩ := hN2.hform
    generalize hn7 : WS.heaps _ = l7 at hhv2
    generalize hn77 : l7.length = n7 at hhv2
    subst hhv2
    obtain ⟨a6, c6, hcv2, _, _⟩ := hN2.cform
    generalize hn6 : WS.cells _ = l6 at hcv2
    generalize hn66 : l6.length = n6 at hcv2
    subst hcv2
    have z0 := hs.cell 1 rfl (o := 0) rfl
    have z1 := hs.cell 1 rfl (o := 1) rfl
    have g0 := hs.free 1 rfl 0
    have g1 := hs.free 1 rfl 1
    clear hb
    have hs3 := (hs.store 1 rfl 0 (.slice a7 n7 c7)).store 1 rfl 1 (.slice a6 n6 c6)
    go_wp2_with fail
    refine bodyPost_ret (v := .tuple #[.agg #[.slice a7 n7 c7, .slice a6 n6 c6], .bool true]) (by simp [results, Tryz.results47, go_sem, z0, z1]) rfl ⟨_, _, rfl, hs3.below, ?_, ?_⟩
    · refine hN2.keeps (G := (· = (w.heap.size + 1))) ?_ ?_
      · exact ((Keeps.refl (· = (w.heap.size + 1)) V2).setCell ⟨(w.heap.size + 1), 0, none⟩ (Or.inl rfl) _).setCell ⟨(w.heap.size + 1), 1, none⟩ (Or.inl rfl) _
      · intro b hb1 (hb2 : b = (w.heap.size + 1))
        have := hF2 b hb1
        rcases this with h1 | h1
        · have := h.lt b h1
          omega
        · omega
    · intro k hk
      exact (hF2 k hk).imp id (fun h1 => by omega)
set_option maxHeartbeats 1000000 in
theorem refput_any (y x k q : Int) (h : NestAt w hv cv W) : Calls Tryz.prog 45 #[.agg #[hv, cv], .int .i64 y, .int .i64 x, .agg #[.int .i64 k, .int .u64 q]] w (NestPost w hv cv (putW W y x k q) (fun v => .tuple #[v, .bool (putB W y x)])) := by
  obtain ⟨a9, c9, hhv, _, _⟩ := h.hform
  generalize hn9 : W.heaps.length = n9 at hhv
  subst hhv
  obtain ⟨a8, c8, hcv, b81, b82⟩ := h.cform
  have hcl := h.clen
  generalize hn8 : W.cells.length = n8 at hcv b81 hcl
  subst hcv
  obtain ⟨V, hV, hs⟩ : ∃ V, ((w.alloc (.cells #[.slice a9 n9 c9, .slice a8 n8 c8] 77)).alloc (.cells #[.int .i64 k, .int .u64 q] 42)).alloc (.cells #[nestZ, nestZ] 77) = V ∧
      Stage (fun _ => False) w [Ob.box w.heap.size #[.slice a9 n9 c9, .slice a8 n8 c8] 77, Ob.box (w.heap.size + 1) #[.int .i64 k, .int .u64 q] 42, Ob.box (w.heap.size + 1 + 1) #[nestZ, nestZ] 77] V :=
    ⟨_, rfl, (((Stage.start w).alloc _ _).alloc' _ _ (size_alloc _ _)).alloc' _ _ (by rw [size_alloc, size_alloc])⟩
  have hH := refhas_any y (h.later hs.below)
  have k0 := hs.cell 0 rfl (o := 0) rfl
  have k1 := hs.cell 0 rfl (o := 1) rfl
  cases ch : hasW W y
  · have q1 : putB W y x = false := by simp [putB, ch]
    have q2 : putW W y x k q = W := by simp [putW, q1]
    rw [ch] at hH
    rw [q1, q2]
    go_enter Tryz.func45, Tryz.ntmps45
    go_wp2_with fail
    clear hV
    refine (hH).mono ?_
    rintro e w1 ⟨rfl, hb⟩
    replace hs := hs.later hb
    clear hb
    clear k0 k1
    have k0 := hs.cell 0 rfl (o := 0) rfl
    have k1 := hs.cell 0 rfl (o := 1) rfl
    have z0 := hs.cell 2 rfl (o := 0) rfl
    have z1 := hs.cell 2 rfl (o := 1) rfl
    have g0 := hs.free 2 rfl 0
    have g1 := hs.free 2 rfl 1
    clear hH
    go_wp2_with fail
    refine bodyPost_ret (v := .tuple #[.agg #[.slice a9 n9 c9, .slice a8 n8 c8], .bool false]) (by simp [results, Tryz.results45, go_sem, z0, z1]) rfl ⟨_, _, rfl, ((hs.store 2 rfl 0 (.slice a9 n9 c9)).store 2 rfl 1 (.slice a8 n8 c8)).below, h.later ((hs.store 2 rfl 0 (.slice a9 n9 c9)).store 2 rfl 1 (.slice a8 n8 c8)).below, fun k hk => Or.inl hk⟩
  · rw [ch] at hH
    by_cases hx0 : x < 0
    · have q1 : putB W y x = false := by
        have : slotW W x = false := by simp [slotW]; omega
        simp [putB, this]
      have q2 : putW W y x k q = W := by simp [putW, q1]
      rw [q1, q2]
      go_enter Tryz.func45, Tryz.ntmps45
      go_wp2_with fail
      clear hV
      refine (hH).mono ?_
      rintro e w1 ⟨rfl, hb⟩
      replace hs := hs.later hb
      clear hb
      clear k0 k1
      have k0 := hs.cell 0 rfl (o := 0) rfl
      have k1 := hs.cell 0 rfl (o := 1) rfl
      have z0 := hs.cell 2 rfl (o := 0) rfl
      have z1 := hs.cell 2 rfl (o := 1) rfl
      have g0 := hs.free 2 rfl 0
      have g1 := hs.free 2 rfl 1
      clear hH
      go_wp2_with fail
      refine bodyPost_ret (v := .tuple #[.agg #[.slice a9 n9 c9, .slice a8 n8 c8], .bool false]) (by simp [results, Tryz.results45, go_sem, z0, z1]) rfl ⟨_, _, rfl, ((hs.store 2 rfl 0 (.slice a9 n9 c9)).store 2 rfl 1 (.slice a8 n8 c8)).below, h.later ((hs.store 2 rfl 0 (.slice a9 n9 c9)).store 2 rfl 1 (.slice a8 n8 c8)).below, fun k hk => Or.inl hk⟩
    · by_cases hx1 : x < n8
      · obtain ⟨i, rfl⟩ : ∃ i : Nat, x = i := ⟨x.toNat, by omega⟩
        have hi : i < W.cells.length := by omega
        have hsl : slotW W i = true := by simp [slotW]; omega
        have hx2 : ¬ (n8 : Int) ≤ i := by omega
        cases ci : inW W i
        · have q1 : putB W y i = true := by simp [putB, ch, hsl, ci]
          obtain ⟨j, rfl, _⟩ := has_nat ch
          have q2 : putW W j i k q = ⟨W.heaps, W.cells.set i ⟨j, k, q⟩⟩ := by simp [putW, q1]
          rw [q1, q2]
          go_enter Tryz.func45, Tryz.ntmps45
          go_wp2_with fail
          clear hV
          refine (hH).mono ?_
          rintro e w1 ⟨rfl, hb⟩
          replace hs := hs.later hb
          clear hb
          clear k0 k1
          have k0 := hs.cell 0 rfl (o := 0) rfl
          have k1 := hs.cell 0 rfl (o := 1) rfl
          have hI := refin_any (i : Int) (h.later hs.below)
          rw [ci] at hI
          clear hH
          go_wp2_with fail
          refine (hI).mono ?_
          rintro e w2 ⟨rfl, hb⟩
          replace hs := hs.later hb
          clear hb
          clear k0 k1
          have k0 := hs.cell 0 rfl (o := 0) rfl
          have k1 := hs.cell 0 rfl (o := 1) rfl
          have e0 := hs.cell 1 rfl (o := 0) rfl
          have e1 := hs.cell 1 rfl (o := 1) rfl
          have hW := refwith_any i hi ⟨j, k, q⟩ (h.later hs.below)
          clear hI
          go_wp2_with fail
          clear k0 k1 e0 e1
          refine hW.mono ?_
          rintro e V2 ⟨hv2, cv2, rfl, hb, hN2, hF2⟩
          have hVs := hs.size
          have lR := hs.lt 2 rfl
          replace hs := hs.later hb
          obtain ⟨a7, c7, hhv2, _, _⟩ := hN2.hform
          generalize hn7 : WS.heaps _ = l7 at hhv2
          generalize hn77 : l7.length = n7 at hhv2
          subst hhv2
          obtain ⟨a6, c6, hcv2, _, _⟩ := hN2.cform
          generalize hn6 : WS.cells _ = l6 at hcv2
          generalize hn66 : l6.length = n6 at hcv2
          subst hcv2
          have z0 := hs.cell 2 rfl (o := 0) rfl
          have z1 := hs.cell 2 rfl (o := 1) rfl
          have g0 := hs.free 2 rfl 0
          have g1 := hs.free 2 rfl 1
          clear hb
          have hs3 := (hs.store 2 rfl 0 (.slice a7 n7 c7)).store 2 rfl 1 (.slice a6 n6 c6)
          go_wp2_with fail
          refine bodyPost_ret (v := .tuple #[.agg #[.slice a7 n7 c7, .slice a6 n6 c6], .bool true]) (by simp [results, Tryz.results45, go_sem, z0, z1]) rfl ⟨_, _, rfl, hs3.below, ?_, ?_⟩
          · refine hN2.keeps (G := (· = (w.heap.size + 1 + 1))) ?_ ?_
            · exact ((Keeps.refl (· = (w.heap.size + 1 + 1)) V2).setCell ⟨(w.heap.size + 1 + 1), 0, none⟩ (Or.inl rfl) _).setCell ⟨(w.heap.size + 1 + 1), 1, none⟩ (Or.inl rfl) _
            · intro b hb1 (hb2 : b = (w.heap.size + 1 + 1))
              have := hF2 b hb1
              rcases this with h1 | h1
              · have := h.lt b h1
                omega
              · omega
          · intro k hk
            exact (hF2 k hk).imp id (fun h1 => by omega)
        · have q1 : putB W y i = false := by simp [putB, ci]
          have q2 : putW W y i k q = W := by simp [putW, q1]
          rw [q1, q2]
          go_enter Tryz.func45, Tryz.ntmps45
          go_wp2_with fail
          clear hV
          refine (hH).mono ?_
          rintro e w1 ⟨rfl, hb⟩
          replace hs := hs.later hb
          clear hb
          clear k0 k1
          have k0 := hs.cell 0 rfl (o := 0) rfl
          have k1 := hs.cell 0 rfl (o := 1) rfl
          have hI := refin_any (i : Int) (h.later hs.below)
          rw [ci] at hI
          clear hH
          go_wp2_with fail
          refine (hI).mono ?_
          rintro e w2 ⟨rfl, hb⟩
          replace hs := hs.later hb
          clear hb
          clear k0 k1
          have k0 := hs.cell 0 rfl (o := 0) rfl
          have k1 := hs.cell 0 rfl (o := 1) rfl
          have z0 := hs.cell 2 rfl (o := 0) rfl
          have z1 := hs.cell 2 rfl (o := 1) rfl
          have g0 := hs.free 2 rfl 0
          have g1 := hs.free 2 rfl 1
          clear hI
          go_wp2_with fail
          refine bodyPost_ret (v := .tuple #[.agg #[.slice a9 n9 c9, .slice a8 n8 c8], .bool false]) (by simp [results, Tryz.results45, go_sem, z0, z1]) rfl ⟨_, _, rfl, ((hs.store 2 rfl 0 (.slice a9 n9 c9)).store 2 rfl 1 (.slice a8 n8 c8)).below, h.later ((hs.store 2 rfl 0 (.slice a9 n9 c9)).store 2 rfl 1 (.slice a8 n8 c8)).below, fun k hk => Or.inl hk⟩
      · have hx2 : (n8 : Int) ≤ x := by omega
        have q1 : putB W y x = false := by
          have : slotW W x = false := by simp [slotW]; omega
          simp [putB, this]
        have q2 : putW W y x k q = W := by simp [putW, q1]
        rw [q1, q2]
        go_enter Tryz.func45, Tryz.ntmps45
        go_wp2_with fail
        clear hV
        refine (hH).mono ?_
        rintro e w1 ⟨rfl, hb⟩
        replace hs := hs.later hb
        clear hb
        clear k0 k1
        have k0 := hs.cell 0 rfl (o := 0) rfl
        have k1 := hs.cell 0 rfl (o := 1) rfl
        have z0 := hs.cell 2 rfl (o := 0) rfl
        have z1 := hs.cell 2 rfl (o := 1) rfl
        have g0 := hs.free 2 rfl 0
        have g1 := hs.free 2 rfl 1
        clear hH
        go_wp2_with fail
        refine bodyPost_ret (v := .tuple #[.agg #[.slice a9 n9 c9, .slice a8 n8 c8], .bool false]) (by simp [results, Tryz.results45, go_sem, z0, z1]) rfl ⟨_, _, rfl, ((hs.store 2 rfl 0 (.slice a9 n9 c9)).store 2 rfl 1 (.slice a8 n8 c8)).below, h.later ((hs.store 2 rfl 0 (.slice a9 n9 c9)).store 2 rfl 1 (.slice a8 n8 c8)).below, fun k hk => Or.inl hk⟩
end
end Go.Proofs.YtmoolbmbdnkooaaGreat

namespace Go.Proofs.YtmoolbmbdnkooaaGreat
open Go.RowKit Go.Sort

section
variable {w : World} {hv cv : Value} {W : WS}
set_option maxHeartbeats 1000000 in
set_option maxRecDepth 100000 in
theorem reflower_any (x k q : Int) (h : NestAt w hv cv W) : Calls Tryz.prog 48 #[.agg #[hv, cv], .int .i64 x, .agg #[.int .i64 k, .int .u64 q]] w (NestPost w hv cv (lowerW W x k q) (fun v => .tuple #[v, .bool (lowerB W x k q)])) := by
  obtain ⟨a9, c9, hhv, _, _⟩ := h.hform
  generalize hn9 : W.heaps.length = n9 at hhv
  subst hhv
  obtain ⟨a8, c8, hcv, b81, b82⟩ := h.cform
  have hcl := h.clen
  generalize hn8 : W.cells.length = n8 at hcv b81 hcl
  subst hcv
  obtain ⟨V, hV, hs⟩ : ∃ V, ((w.alloc (.cells #[.slice a9 n9 c9, .slice a8 n8 c8] 77)).alloc (.cells #[.int .i64 k, .int .u64 q] 42)).alloc (.cells #[nestZ, nestZ] 77) = V ∧
      Stage (fun _ => False) w [Ob.box w.heap.size #[.slice a9 n9 c9, .slice a8 n8 c8] 77, Ob.box (w.heap.size + 1) #[.int .i64 k, .int .u64 q] 42, Ob.box (w.heap.size + 1 + 1) #[nestZ, nestZ] 77] V :=
    ⟨_, rfl, (((Stage.start w).alloc _ _).alloc' _ _ (size_alloc _ _)).alloc' _ _ (by rw [size_alloc, size_alloc])⟩
  have hIv := fun w' h => refin_any (w := w') (hv := .slice a9 n9 c9) (cv := .slice a8 n8 c8) (W := W) x h
  have hL := fun c w' => refLess_any (CellD.key c) c.seq k q w'
  have kN0 := cell_regrown (hs.cell 0 rfl (o := 0) rfl)
  have kN1 := cell_regrown (hs.cell 0 rfl (o := 1) rfl)
  have kE0 := cell_regrown (hs.cell 1 rfl (o := 0) rfl)
  have kE1 := cell_regrown (hs.cell 1 rfl (o := 1) rfl)
  have hN := h.later hs.below
  cases ci : inW W x
  · have q1 : lowerB W x k q = false := by simp [lowerB, ci]
    have q2 : lowerW W x k q = W := by simp [lowerW, q1]
    rw [ci] at hIv
    rw [q1, q2]
    have cA : ∀ d' os, Calls Tryz.prog 38 #[.agg #[.slice a9 n9 c9, .slice a8 n8 c8], .int .i64 x] (grow (redrawn V d') os) fun e w'' => e = .returned (.bool false) ∧ ∃ p : Regrown, w'' = grow (redrawn V p.d) p.os := fun d' os => Calls.regrown_of (hIv _ (hN.later (below_regrown _ _ _)))
    clear hIv hL
    go_enter Tryz.func48, Tryz.ntmps48
    go_wp2_with fail
    clear hV
    refine wp_region_quiet_below (by kernel_rfl) (by kernel_rfl) ?_
    repeat (first | go_big_quiet_step (first | with_reducible exact cA _ _) | quiet_step (fail))
    refine wpQuiet_nil ?_
    intro W3 hw
    replace hw := below_regrown' hw
    replace hs := hs.later hw
    clear cA kN0 kN1 kE0 kE1 hw
    have k0 := hs.cell 0 rfl (o := 0) rfl
    have k1 := hs.cell 0 rfl (o := 1) rfl
    have z0 := hs.cell 2 rfl (o := 0) rfl
    have z1 := hs.cell 2 rfl (o := 1) rfl
    have g0 := hs.free 2 rfl 0
    have g1 := hs.free 2 rfl 1
    go_wp2_with fail
    refine bodyPost_ret (v := .tuple #[.agg #[.slice a9 n9 c9, .slice a8 n8 c8], .bool false]) (by simp [results, Tryz.results48, go_sem, z0, z1]) rfl ⟨_, _, rfl, ((hs.store 2 rfl 0 (.slice a9 n9 c9)).store 2 rfl 1 (.slice a8 n8 c8)).below, h.later ((hs.store 2 rfl 0 (.slice a9 n9 c9)).store 2 rfl 1 (.slice a8 n8 c8)).below, fun k hk => Or.inl hk⟩
  · obtain ⟨i, rfl, hi, _⟩ := in_nat ci
    rw [ci] at hIv
    obtain ⟨g, c8', hcc, hg, u0, u1, u2⟩ := hN.ccell i hi
    rw [hn8] at hcc
    cases hcc
    have ec := cell_nat W i hi
    replace hL := hL (W.cells.getD i .off)
    have kU0 := cell_regrown u0
    have kU1 := cell_regrown u1
    have kU2 := cell_regrown u2
    have cA : ∀ d' os, Calls Tryz.prog 38 #[.agg #[.slice a9 n9 c9, .slice (some ⟨g, 0, none⟩) n8 c8], .int .i64 i] (grow (redrawn V d') os) fun e w'' => e = .returned (.bool true) ∧ ∃ p : Regrown, w'' = grow (redrawn V p.d) p.os := fun d' os => Calls.regrown_of (hIv _ (hN.later (below_regrown _ _ _)))
    cases cl : lessB (W.cells.getD i .off).key (W.cells.getD i .off).seq k q
    · have q1 : lowerB W i k q = true := by simp only [lowerB, ci, ec, cl]; rfl
      have q2 : lowerW W i k q = ⟨W.heaps, W.cells.set i ⟨(W.cells.getD i .off).home, k, q⟩⟩ := by simp only [lowerW, q1, if_true, ec, Int.toNat_natCast]
      rw [cl] at hL
      rw [q1, q2]
      have hWi := fun w' h => refwith_any (w := w') (hv := .slice a9 n9 c9) (cv := .slice (some ⟨g, 0, none⟩) n8 c8) (W := W) i hi ⟨(W.cells.getD i .off).home, k, q⟩ h
      clear ec cl hIv ci
      generalize W.cells.getD i .off = d at *
      have hii : i < n8 := by omega
      have cB : ∀ d' os, Calls Tryz.prog 62 #[.agg #[.int .i64 d.key, .int .u64 d.seq], .agg #[.int .i64 k, .int .u64 q]] (grow (redrawn V d') os) fun e w'' => e = .returned (.bool false) ∧ ∃ p : Regrown, w'' = grow (redrawn V p.d) p.os := fun d' os => Calls.regrown_of (hL _)
      go_enter Tryz.func48, Tryz.ntmps48
      go_wp2_with fail
      clear hV
      refine wp_region_quiet_below (by kernel_rfl) (by kernel_rfl) ?_
      repeat (first | go_big_quiet_step (first | with_reducible exact cA _ _ | with_reducible exact cB _ _) | quiet_step (fail))
      refine wpQuiet_nil ?_
      intro W3 hw
      replace hw := below_regrown' hw
      replace u0 := later hw u0
      replace u1 := later hw u1
      replace u2 := later hw u2
      replace hN := hN.later hw
      replace hs := hs.later hw
      clear cA cB kU0 kU1 kU2 kN0 kN1 kE0 kE1 hw
      have k0 := hs.cell 0 rfl (o := 0) rfl
      have k1 := hs.cell 0 rfl (o := 1) rfl
      have e0 := hs.cell 1 rfl (o := 0) rfl
      have e1 := hs.cell 1 rfl (o := 1) rfl
      have z0 := hs.cell 2 rfl (o := 0) rfl
      have z1 := hs.cell 2 rfl (o := 1) rfl
      have g0 := hs.free 2 rfl 0
      have g1 := hs.free 2 rfl 1
      have lR := hs.lt 2 rfl
      have hWd := hWi _ (hN.later (Below.refl _ _).drew)
      have h9 := h
      go_wp2_with fail
      go_still_tail 10, (by kernel_rfl)
      change wpList _ _ _ _ _ W3.drew
      go_wp2_with fail
      refine hWd.mono ?_
      rintro e V2 ⟨hv2, cv2, rfl, hb, hN2, hF2⟩
      have hVs := hs.drew.size
      have lR := hs.drew.lt 2 rfl
      replace hs := hs.drew.later hb
      obtain ⟨a7, c7, hhv2, _, _⟩ := hN2.hform
      generalize hn7 : WS.heaps _ = l7 at hhv2
      generalize hn77 : l7.length = n7 at hhv2
      subst hhv2
      obtain ⟨a6, c6, hcv2, _, _⟩ := hN2.cform
      generalize hn6 : WS.cells _ = l6 at hcv2
      generalize hn66 : l6.length = n6 at hcv2
      subst hcv2
      have z0 := hs.cell 2 rfl (o := 0) rfl
      have z1 := hs.cell 2 rfl (o := 1) rfl
      have g0 := hs.free 2 rfl 0
      have g1 := hs.free 2 rfl 1
      clear hb
      have hs3 := (hs.store 2 rfl 0 (.slice a7 n7 c7)).store 2 rfl 1 (.slice a6 n6 c6)
      go_wp2_with fail
      refine bodyPost_ret (v := .tuple #[.agg #[.slice a7 n7 c7, .slice a6 n6 c6], .bool true]) (by simp [results, Tryz.results48, go_sem, z0, z1]) rfl ⟨_, _, rfl, hs3.below, ?_, ?_⟩
      · refine hN2.keeps (G := (· = (w.heap.size + 1 + 1))) ?_ ?_
        · exact ((Keeps.refl (· = (w.heap.size + 1 + 1)) V2).setCell ⟨(w.heap.size + 1 + 1), 0, none⟩ (Or.inl rfl) _).setCell ⟨(w.heap.size + 1 + 1), 1, none⟩ (Or.inl rfl) _
        · intro b hb1 (hb2 : b = (w.heap.size + 1 + 1))
          have := hF2 b hb1
          rcases this with h1 | h1
          · have := h9.lt b h1
            omega
          · omega
      · intro k hk
        exact (hF2 k hk).imp id (fun h1 => by omega)
    · have q1 : lowerB W i k q = false := by simp only [lowerB, ci, ec, cl]; rfl
      have q2 : lowerW W i k q = W := by simp [lowerW, q1]
      rw [cl] at hL
      rw [q1, q2]
      clear ec cl hIv ci
      generalize W.cells.getD i .off = d at *
      have hii : i < n8 := by omega
      have cB : ∀ d' os, Calls Tryz.prog 62 #[.agg #[.int .i64 d.key, .int .u64 d.seq], .agg #[.int .i64 k, .int .u64 q]] (grow (redrawn V d') os) fun e w'' => e = .returned (.bool true) ∧ ∃ p : Regrown, w'' = grow (redrawn V p.d) p.os := fun d' os => Calls.regrown_of (hL _)
      go_enter Tryz.func48, Tryz.ntmps48
      go_wp2_with fail
      clear hV
      refine wp_region_quiet_below (by kernel_rfl) (by kernel_rfl) ?_
      repeat (first | go_big_quiet_step (first | with_reducible exact cA _ _ | with_reducible exact cB _ _) | quiet_step (fail))
      refine wpQuiet_nil ?_
      intro W3 hw
      replace hw := below_regrown' hw
      replace hs := hs.later hw
      clear cA cB kU0 kU1 kU2 kN0 kN1 kE0 kE1 hw
      have k0 := hs.cell 0 rfl (o := 0) rfl
      have k1 := hs.cell 0 rfl (o := 1) rfl
      have z0 := hs.cell 2 rfl (o := 0) rfl
      have z1 := hs.cell 2 rfl (o := 1) rfl
      have g0 := hs.free 2 rfl 0
      have g1 := hs.free 2 rfl 1
      go_wp2_with fail
      refine bodyPost_ret (v := .tuple #[.agg #[.slice a9 n9 c9, .slice (some ⟨g, 0, none⟩) n8 c8], .bool false]) (by simp [results, Tryz.results48, go_sem, z0, z1]) rfl ⟨_, _, rfl, ((hs.store 2 rfl 0 (.slice a9 n9 c9)).store 2 rfl 1 (.slice (some ⟨g, 0, none⟩) n8 c8)).below, h.later ((hs.store 2 rfl 0 (.slice a9 n9 c9)).store 2 rfl 1 (.slice (some ⟨g, 0, none⟩) n8 c8)).below, fun k hk => Or.inl hk⟩
end
end Go.Proofs.YtmoolbmbdnkooaaGreat
