/- Merged of NestRef4, NestRef5, NestRef6, NestRef7. -/
import Derived.Test.YtcjjglaimfhofaaNestRef3
import Derived.Deep.RegionWith
namespace Go.Proofs.Ytcjjglaimfhofaa
open Go.RowKit Go.Sort

section
variable {w : World} {hv cv : Value} {W : WS}
set_option maxHeartbeats 1000000 in
set_option maxRecDepth 100000 in
theorem reflower_any (x k q : Int) (h : NestAt w hv cv W) : Calls Try.prog 44 #[.agg #[hv, cv], .int .i64 x, .agg #[.int .i64 k, .int .u64 q]] w (NestPost w hv cv (lowerW W x k q) (fun v => .tuple #[v, .bool (lowerB W x k q)])) := by
  obtain ⟨a9, c9, hhv, _, _⟩ := h.hform
  generalize hn9 : W.heaps.length = n9 at hhv
  subst hhv
  obtain ⟨a8, c8, hcv, b81, b82⟩ := h.cform
  have hcl := h.clen
  generalize hn8 : W.cells.length = n8 at hcv b81 hcl
  subst hcv
  obtain ⟨V, hV, hs⟩ : ∃ V, ((w.alloc (.cells #[.slice a9 n9 c9, .slice a8 n8 c8] 59)).alloc (.cells #[.int .i64 k, .int .u64 q] 63)).alloc (.cells #[nestZ, nestZ] 59) = V ∧
      Stage (fun _ => False) w [Ob.box w.heap.size #[.slice a9 n9 c9, .slice a8 n8 c8] 59, Ob.box (w.heap.size + 1) #[.int .i64 k, .int .u64 q] 63, Ob.box (w.heap.size + 1 + 1) #[nestZ, nestZ] 59] V :=
    ⟨_, rfl, (((Stage.start w).alloc _ _).alloc' _ _ (size_alloc _ _)).alloc' _ _ (by rw [size_alloc, size_alloc])⟩
  have hIv := fun w' h => refin_any (w := w') (hv := .slice a9 n9 c9) (cv := .slice a8 n8 c8) (W := W) x h
  have hL := fun c w' => refLess_any (CellD.key c) c.seq k q w'
  have kN0 := cell_regrown (hs.cell 0 rfl (o := 0) rfl)
  have kN1 := cell_regrown (hs.cell 0 rfl (o := 1) rfl)
  have kE0 := cell_regrown (hs.cell 1 rfl (o := 0) rfl)
  have kE1 := cell_regrown (hs.cell 1 rfl (o := 1) rfl)
  have hN := h.later hs.below
  cases ci : inW W x
  · have q1 : lowerB W x k q = false := by simp [lowerB, ci]
    have q2 : lowerW W x k q = W := by simp [lowerW, q1]
    rw [ci] at hIv
    rw [q1, q2]
    have cA : ∀ d' os, Calls Try.prog 22 #[.agg #[.slice a9 n9 c9, .slice a8 n8 c8], .int .i64 x] (grow (redrawn V d') os) fun e w'' => e = .returned (.bool false) ∧ ∃ p : Regrown, w'' = grow (redrawn V p.d) p.os := fun d' os => Calls.regrown_of (hIv _ (hN.later (below_regrown _ _ _)))
    clear hIv hL
    go_enter Try.func44, Try.ntmps44
    go_wp2_with fail
    clear hV
    refine wp_region_quiet_below (by kernel_rfl) (by kernel_rfl) ?_
    repeat (first | go_big_quiet_step (first | with_reducible exact cA _ _) | quiet_step (fail))
    refine wpQuiet_nil ?_
    intro W3 hw
    replace hw := below_regrown' hw
    replace hs := hs.later hw
    clear cA kN0 kN1 kE0 kE1 hw
    have k0 := hs.cell 0 rfl (o := 0) rfl
    have k1 := hs.cell 0 rfl (o := 1) rfl
    have z0 := hs.cell 2 rfl (o := 0) rfl
    have z1 := hs.cell 2 rfl (o := 1) rfl
    have g0 := hs.free 2 rfl 0
    have g1 := hs.free 2 rfl 1
    go_wp2_with fail
    refine bodyPost_ret (v := .tuple #[.agg #[.slice a9 n9 c9, .slice a8 n8 c8], .bool false]) (by simp [results, Try.results44, go_sem, z0, z1]) rfl ⟨_, _, rfl, ((hs.store 2 rfl 0 (.slice a9 n9 c9)).store 2 rfl 1 (.slice a8 n8 c8)).below, h.later ((hs.store 2 rfl 0 (.slice a9 n9 c9)).store 2 rfl 1 (.slice a8 n8 c8)).below, fun k hk => Or.inl hk⟩
  · obtain ⟨i, rfl, hi, _⟩ := in_nat ci
    rw [ci] at hIv
    obtain ⟨g, c8', hcc, hg, u0, u1, u2⟩ := hN.ccell i hi
    rw [hn8] at hcc
    cases hcc
    have ec := cell_nat W i hi
    replace hL := hL (W.cells.getD i .off)
    have kU0 := cell_regrown u0
    have kU1 := cell_regrown u1
    have kU2 := cell_regrown u2
    have cA : ∀ d' os, Calls Try.prog 22 #[.agg #[.slice a9 n9 c9, .slice (some ⟨g, 0, none⟩) n8 c8], .int .i64 i] (grow (redrawn V d') os) fun e w'' => e = .returned (.bool true) ∧ ∃ p : Regrown, w'' = grow (redrawn V p.d) p.os := fun d' os => Calls.regrown_of (hIv _ (hN.later (below_regrown _ _ _)))
    cases cl : lessB (W.cells.getD i .off).key (W.cells.getD i .off).seq k q
    · have q1 : lowerB W i k q = true := by simp only [lowerB, ci, ec, cl]; rfl
      have q2 : lowerW W i k q = ⟨W.heaps, W.cells.set i ⟨(W.cells.getD i .off).home, k, q⟩⟩ := by simp only [lowerW, q1, if_true, ec, Int.toNat_natCast]
      rw [cl] at hL
      rw [q1, q2]
      have hWi := fun w' h => refwith_any (w := w') (hv := .slice a9 n9 c9) (cv := .slice (some ⟨g, 0, none⟩) n8 c8) (W := W) i hi ⟨(W.cells.getD i .off).home, k, q⟩ h
      clear ec cl hIv ci
      generalize W.cells.getD i .off = d at *
      have hii : i < n8 := by omega
      have cB : ∀ d' os, Calls Try.prog 63 #[.agg #[.int .i64 d.key, .int .u64 d.seq], .agg #[.int .i64 k, .int .u64 q]] (grow (redrawn V d') os) fun e w'' => e = .returned (.bool false) ∧ ∃ p : Regrown, w'' = grow (redrawn V p.d) p.os := fun d' os => Calls.regrown_of (hL _)
      go_enter Try.func44, Try.ntmps44
      go_wp2_with fail
      clear hV
      refine wp_region_quiet_below (by kernel_rfl) (by kernel_rfl) ?_
      repeat (first | go_big_quiet_step (first | with_reducible exact cA _ _ | with_reducible exact cB _ _) | quiet_step (fail))
      refine wpQuiet_nil ?_
      intro W3 hw
      replace hw := below_regrown' hw
      replace u0 := later hw u0
      replace u1 := later hw u1
      replace u2 := later hw u2
      replace hN := hN.later hw
      replace hs := hs.later hw
      clear cA cB kU0 kU1 kU2 kN0 kN1 kE0 kE1 hw
      have k0 := hs.cell 0 rfl (o := 0) rfl
      have k1 := hs.cell 0 rfl (o := 1) rfl
      have e0 := hs.cell 1 rfl (o := 0) rfl
      have e1 := hs.cell 1 rfl (o := 1) rfl
      have z0 := hs.cell 2 rfl (o := 0) rfl
      have z1 := hs.cell 2 rfl (o := 1) rfl
      have g0 := hs.free 2 rfl 0
      have g1 := hs.free 2 rfl 1
      have lR := hs.lt 2 rfl
      have hWd := hWi _ (hN.later (Below.refl _ _).drew)
      have h9 := h
      go_wp2_with fail
      go_still_tail 10, (by kernel_rfl)
      change wpList _ _ _ _ _ W3.drew
      go_wp2_with fail
      refine hWd.mono ?_
      rintro e V2 ⟨hv2, cv2, rfl, hb, hN2, hF2⟩
      have hVs := hs.drew.size
      have lR := hs.drew.lt 2 rfl
      replace hs := hs.drew.later hb
      obtain ⟨a7, c7, hhv2, _, _⟩ := hN2.hform
      generalize hn7 : WS.heaps _ = l7 at hhv2
      generalize hn77 : l7.length = n7 at hhv2
      subst hhv2
      obtain ⟨a6, c6, hcv2, _, _⟩ := hN2.cform
      generalize hn6 : WS.cells _ = l6 at hcv2
      generalize hn66 : l6.length = n6 at hcv2
      subst hcv2
      have z0 := hs.cell 2 rfl (o := 0) rfl
      have z1 := hs.cell 2 rfl (o := 1) rfl
      have g0 := hs.free 2 rfl 0
      have g1 := hs.free 2 rfl 1
      clear hb
      have hs3 := (hs.store 2 rfl 0 (.slice a7 n7 c7)).store 2 rfl 1 (.slice a6 n6 c6)
      go_wp2_with fail
      refine bodyPost_ret (v := .tuple #[.agg #[.slice a7 n7 c7, .slice a6 n6 c6], .bool true]) (by simp [results, Try.results44, go_sem, z0, z1]) rfl ⟨_, _, rfl, hs3.below, ?_, ?_⟩
      · refine hN2.keeps (G := (· = (w.heap.size + 1 + 1))) ?_ ?_
        · exact ((Keeps.refl (· = (w.heap.size + 1 + 1)) V2).setCell ⟨(w.heap.size + 1 + 1), 0, none⟩ (Or.inl rfl) _).setCell ⟨(w.heap.size + 1 + 1), 1, none⟩ (Or.inl rfl) _
        · intro b hb1 (hb2 : b = (w.heap.size + 1 + 1))
          have := hF2 b hb1
          rcases this with h1 | h1
          · have := h9.lt b h1
            omega
          · omega
      · intro k hk
        exact (hF2 k hk).imp id (fun h1 => by omega)
    · have q1 : lowerB W i k q = false := by simp only [lowerB, ci, ec, cl]; rfl
      have q2 : lowerW W i k q = W := by simp [lowerW, q1]
      rw [cl] at hL
      rw [q1, q2]
      clear ec cl hIv ci
      generalize W.cells.getD i .off = d at *
      have hii : i < n8 := by omega
      have cB : ∀ d' os, Calls Try.prog 63 #[.agg #[.int .i64 d.key, .int .u64 d.seq], .agg #[.int .i64 k, .int .u64 q]] (grow (redrawn V d') os) fun e w'' => e = .returned (.bool true) ∧ ∃ p : Regrown, w'' = grow (redrawn V p.d) p.os := fun d' os => Calls.regrown_of (hL _)
      go_enter Try.func44, Try.ntmps44
      go_wp2_with fail
      clear hV
      refine wp_region_quiet_below (by kernel_rfl) (by kernel_rfl) ?_
      repeat (first | go_big_quiet_step (first | with_reducible exact cA _ _ | with_reducible exact cB _ _) | quiet_step (fail))
      refine wpQuiet_nil ?_
      intro W3 hw
      replace hw := below_regrown' hw
      replace hs := hs.later hw
      clear cA cB kU0 kU1 kU2 kN0 kN1 kE0 kE1 hw
      have k0 := hs.cell 0 rfl (o := 0) rfl
      have k1 := hs.cell 0 rfl (o := 1) rfl
      have z0 := hs.cell 2 rfl (o := 0) rfl
      have z1 := hs.cell 2 rfl (o := 1) rfl
      have g0 := hs.free 2 rfl 0
      have g1 := hs.free 2 rfl 1
      go_wp2_with fail
      refine bodyPost_ret (v := .tuple #[.agg #[.slice a9 n9 c9, .slice (some ⟨g, 0, none⟩) n8 c8], .bool false]) (by simp [results, Try.results44, go_sem, z0, z1]) rfl ⟨_, _, rfl, ((hs.store 2 rfl 0 (.slice a9 n9 c9)).store 2 rfl 1 (.slice (some ⟨g, 0, none⟩) n8 c8)).below, h.later ((hs.store 2 rfl 0 (.slice a9 n9 c9)).store 2 rfl 1 (.slice (some ⟨g, 0, none⟩) n8 c8)).below, fun k hk => Or.inl hk⟩
end
end Go.Proofs.Ytcjjglaimfhofaa

namespace Go.Proofs.Ytcjjglaimfhofaa
open Go.RowKit Go.Sort

section
variable {w : World} {hv cv : Value} {W : WS}
theorem refmake_no (h : NestAt w hv cv W) (hc : canMakeW W = false) : Calls Try.prog 40 #[.agg #[hv, cv]] w (NestPost w hv cv W (fun v => .tuple #[v, .int .i64 0])) := by
  obtain ⟨a9, c9, hhv, b91, b92⟩ := h.hform
  have hl9 : 65536 < W.heaps.length := by simpa [canMakeW] using hc
  have hl99 := h.hlen
  generalize hn9 : W.heaps.length = n9 at hhv b91 hl9 hl99
  subst hhv
  obtain ⟨a8, c8, hcv, b81, b82⟩ := h.cform
  generalize hn8 : W.cells.length = n8 at hcv b81
  subst hcv
  obtain ⟨V, hV, hs⟩ : ∃ V, (w.alloc (.cells #[.slice a9 n9 c9, .slice a8 n8 c8] 59)).alloc (.cells #[nestZ, nestZ] 59) = V ∧
      Stage (fun _ => False) w [Ob.box w.heap.size #[.slice a9 n9 c9, .slice a8 n8 c8] 59, Ob.box (w.heap.size + 1) #[nestZ, nestZ] 59] V :=
    ⟨_, rfl, ((Stage.start w).alloc _ _).alloc' _ _ (size_alloc _ _)⟩
  have k0 := hs.cell 0 rfl (o := 0) rfl
  have k1 := hs.cell 0 rfl (o := 1) rfl
  have z0 := hs.cell 1 rfl (o := 0) rfl
  have z1 := hs.cell 1 rfl (o := 1) rfl
  have g0 := hs.free 1 rfl 0
  have g1 := hs.free 1 rfl 1
  have hs3 := (hs.store 1 rfl 0 (.slice a9 n9 c9)).store 1 rfl 1 (.slice a8 n8 c8)
  go_enter Try.func40, Try.ntmps40
  go_wp2_with fail
  exact bodyPost_ret (v := .tuple #[.agg #[.slice a9 n9 c9, .slice a8 n8 c8], .int .i64 0]) (by simp [results, Try.results40, go_sem, z0, z1]) rfl ⟨_, _, rfl, hs3.below, h.later hs3.below, fun k hk => Or.inl hk⟩
set_option maxHeartbeats 1000000 in
theorem refmake_yes (h : NestAt w hv cv W) (hc : canMakeW W = true) : Calls Try.prog 40 #[.agg #[hv, cv]] w (NestPost w hv cv ⟨W.heaps ++ [true], W.cells⟩ (fun v => .tuple #[v, .int .i64 W.heaps.length])) := by
  obtain ⟨a9, c9, hhv, b91, b92⟩ := h.hform
  have hl9 : W.heaps.length ≤ 65536 := by simpa [canMakeW] using hc
  generalize hn9 : W.heaps.length = n9 at hhv b91 hl9
  subst hhv
  obtain ⟨a8, c8, hcv, b81, b82⟩ := h.cform
  generalize hn8 : W.cells.length = n8 at hcv b81
  subst hcv
  obtain ⟨V, hV, hs⟩ : ∃ V, (w.alloc (.cells #[.slice a9 n9 c9, .slice a8 n8 c8] 59)).alloc (.cells #[nestZ, nestZ] 59) = V ∧
      Stage (fun _ => False) w [Ob.box w.heap.size #[.slice a9 n9 c9, .slice a8 n8 c8] 59, Ob.box (w.heap.size + 1) #[nestZ, nestZ] 59] V :=
    ⟨_, rfl, ((Stage.start w).alloc _ _).alloc' _ _ (size_alloc _ _)⟩
  have k0 := hs.cell 0 rfl (o := 0) rfl
  have k1 := hs.cell 0 rfl (o := 1) rfl
  have l0 := hs.lt 0 rfl
  have hsA := hs.emptyRow' 4 1 (b := V.heap.size) rfl
  have hsB := hsA.alloc' #[.bool true] 4 (b := V.heap.size + 1) (size_alloc _ _)
  have hsC := ((hs.alloc #[.bool true] 4).emptyRow' 4 1 (b := V.heap.size + 1) (size_alloc _ _)).select [0, 1, 3, 2] (by decide) rfl
  have hrA := reads_own (h.later hsA.below).hrow
  have hrB := reads_own (h.later hsB.below).hrow
  have hrC := reads_own (h.later hsC.below).hrow
  rw [hn9] at hrA hrB hrC
  have hVs := hs.size
  go_enter Try.func40, Try.ntmps40
  go_wp2_with fail
  clear hV
  have hn01 : w.heap.size ≠ w.heap.size + 1 := by omega
  go_region_held3 (fun w' => w'.cell? ⟨w.heap.size, 0, none⟩ = some (.slice a9 n9 c9) ∧ w'.cell? ⟨w.heap.size, 1, none⟩ = some (.slice a8 n8 c8)) (first | exact ⟨p0, p1⟩ | exact ⟨m0, m1⟩ | simp [*, World.cell?_alloc_some, World.cell?_setCell_far])
   (first
      | ((refine Stage.step_append (v := .slice (some ⟨V.heap.size, 0, none⟩) 0 0) (l := [_, _, _]) (by exact hsA.same rfl rfl rfl rfl) 2 rfl rfl (.tmp 9) (.tmp 11) 52 rfl _ 1 Try.underlying52 info_bool rfl (by decide) (Nat.zero_le _) rfl _ n9 (cellsBy boolC W.heaps) rfl (by exact reads_same (w := V.alloc (.cells #[] 4)) rfl hrA) (bools_one _) (by unfold maxLen; omega) (by omega) ?_); intro v1 w6 hs6 hl6; rw [Nat.zero_add, List.nil_append] at hs6; have q6 : ∀ k, rowF v1 k → w.heap.size ≤ k := fun k hk => (hl6 k hk).elim (fun h => Nat.le_trans hVs (Nat.le_of_eq (show V.heap.size = k from by simpa [rowF, Value.ownBlock] using h))) (fun h => Nat.le_trans hsA.size h); have m0 := hs6.cell 0 rfl (o := 0) rfl; have m1 := hs6.cell 0 rfl (o := 1) rfl; have ll0 := hs6.lt 0 rfl)
      | ((refine Stage.step_append (v := .slice (some ⟨V.heap.size, 0, none⟩) 0 0) (l := [_, _, _, _]) (by exact hsB.same rfl rfl rfl rfl) 2 rfl rfl (.tmp 9) (.tmp 11) 52 rfl _ 1 Try.underlying52 info_bool rfl (by decide) (Nat.zero_le _) rfl _ n9 (cellsBy boolC W.heaps) rfl (by exact reads_same (w := (V.alloc (.cells #[] 4)).alloc (.cells #[.bool true] 4)) rfl hrB) (bools_one _) (by unfold maxLen; omega) (by omega) ?_); intro v1 w6 hs6 hl6; rw [Nat.zero_add, List.nil_append] at hs6; have q6 : ∀ k, rowF v1 k → w.heap.size ≤ k := fun k hk => (hl6 k hk).elim (fun h => Nat.le_trans hVs (Nat.le_of_eq (show V.heap.size = k from by simpa [rowF, Value.ownBlock] using h))) (fun h => Nat.le_trans hsB.size h); have m0 := hs6.cell 0 rfl (o := 0) rfl; have m1 := hs6.cell 0 rfl (o := 1) rfl; have ll0 := hs6.lt 0 rfl)
      | ((refine Stage.step_append (v := .slice (some ⟨V.heap.size + 1, 0, none⟩) 0 0) (l := [_, _, _, _]) (by exact hsC.same rfl rfl rfl rfl) 2 rfl rfl (.tmp 9) (.tmp 11) 52 rfl _ 1 Try.underlying52 info_bool rfl (by decide) (Nat.zero_le _) rfl _ n9 (cellsBy boolC W.heaps) rfl (by exact reads_same (w := (V.alloc (.cells #[.bool true] 4)).alloc (.cells #[] 4)) rfl hrC) (bools_one _) (by unfold maxLen; omega) (by omega) ?_); intro v1 w6 hs6 hl6; rw [Nat.zero_add, List.nil_append] at hs6; have q6 : ∀ k, rowF v1 k → w.heap.size ≤ k := fun k hk => (hl6 k hk).elim (fun h => Nat.le_trans (Nat.le_succ_of_le hVs) (Nat.le_of_eq (show V.heap.size + 1 = k from by simpa [rowF, Value.ownBlock] using h))) (fun h => Nat.le_trans hsC.size h); have m0 := hs6.cell 0 rfl (o := 0) rfl; have m1 := hs6.cell 0 rfl (o := 1) rfl; have ll0 := hs6.lt 0 rfl)
      | ((refine Stage.step_append (v := v1) (l := [_, _, _, _]) (by exact (hs6.alloc #[.bool true] 4).same rfl rfl rfl rfl) 2 rfl rfl (.tmp 12) (.tmp 13) 52 rfl _ 1 Try.underlying52 info_bool rfl (by decide) (Nat.zero_le _) rfl _ 1 [.bool true] rfl (by exact reads_same (w := w6.alloc (.cells #[.bool true] 4)) rfl (reads_box ((hs6.alloc #[.bool true] 4).blk 3 rfl) 1 1 rfl)) (by intro u hu; simp at hu; subst hu; rfl) (by unfold maxLen; omega) (by omega) ?_); intro v2 w7 hs7 hl7; have q7 : ∀ k, rowF v2 k → w.heap.size ≤ k := fun k hk => (hl7 k hk).elim (q6 k) (fun h => Nat.le_trans (hs6.alloc #[.bool true] 4).size h); obtain ⟨va, vc, hve, _, _⟩ := owns_form (hs7.owns 2 rfl); subst hve; have p0 := hs7.cell 0 rfl (o := 0) rfl; have p1 := hs7.cell 0 rfl (o := 1) rfl; have g0 := hs7.free 1 rfl 0; have g1 := hs7.free 1 rfl 1; have pp0 := hs7.lt 0 rfl; have z0 := hs7.cell 1 rfl (o := 0) rfl; have z1 := hs7.cell 1 rfl (o := 1) rfl)
      | ((refine Stage.step_append (v := v1) (l := [_, _, _, _]) (by exact hs6.same rfl rfl rfl rfl) 2 rfl rfl (.tmp 12) (.tmp 13) 52 rfl _ 1 Try.underlying52 info_bool rfl (by decide) (Nat.zero_le _) rfl _ 1 [.bool true] rfl (by exact reads_same (w := w6) rfl (reads_box (hs6.blk 3 rfl) 1 1 rfl)) (by intro u hu; simp at hu; subst hu; rfl) (by unfold maxLen; omega) (by omega) ?_); intro v2 w7 hs7 hl7; have q7 : ∀ k, rowF v2 k → w.heap.size ≤ k := fun k hk => (hl7 k hk).elim (q6 k) (fun h => Nat.le_trans hs6.size h); obtain ⟨va, vc, hve, _, _⟩ := owns_form (hs7.owns 2 rfl); subst hve; have p0 := hs7.cell 0 rfl (o := 0) rfl; have p1 := hs7.cell 0 rfl (o := 1) rfl; have g0 := hs7.free 1 rfl 0; have g1 := hs7.free 1 rfl 1; have pp0 := hs7.lt 0 rfl; have z0 := hs7.cell 1 rfl (o := 0) rfl; have z1 := hs7.cell 1 rfl (o := 1) rfl))
  all_goals
    have hs8 := (hs7.store 1 rfl 0 (.slice va (n9 + 1) vc)).store 1 rfl 1 (.slice a8 n8 c8)
    have hrow := hs8.owns 2 rfl
    go_wp2_with fail
    refine bodyPost_ret (v := .tuple #[.agg #[.slice va (n9 + 1) vc, .slice a8 n8 c8], .int .i64 n9]) (by simp [results, Try.results40, go_sem, z0, z1]) rfl ⟨.slice va (n9 + 1) vc, .slice a8 n8 c8, rfl, hs8.below, ⟨?_, (h.later hs8.below).crow, by simp; omega, h.clen⟩, ?_⟩
    · have e1 : (W.heaps ++ [true]).length = n9 + 1 := by simp [hn9]
      have e2 : cellsBy boolC (W.heaps ++ [true]) = cellsBy boolC W.heaps ++ [.bool true] := by rw [cellsBy_append, cellsBy_one]; rfl
      rw [e1, e2]
      exact hrow
    · rintro k (hk | hk)
      · exact Or.inr (q7 k hk)
      · exact Or.inl (Or.inr hk)
end
end Go.Proofs.Ytcjjglaimfhofaa

namespace Go.Proofs.Ytcjjglaimfhofaa
open Go.RowKit Go.Sort

theorem refmake_any {w : World} {hv cv : Value} {W : WS} (h : NestAt w hv cv W) : Calls Try.prog 40 #[.agg #[hv, cv]] w (NestPost w hv cv (makeW W) (fun v => .tuple #[v, .int .i64 (madeW W)])) := by
  unfold makeW madeW
  cases hc : canMakeW W
  · exact refmake_no h hc
  · exact refmake_yes h hc
theorem refnew_any (n : Nat) (hn : n ≤ 65536) (w : World) : Calls Try.prog 21 #[.int .i64 n] w fun e w' => ∃ hv cv, e = .returned (.agg #[hv, cv]) ∧ Below w.heap.size w w' ∧ NestAt w' hv cv (newW n) ∧ ∀ k, nestF hv cv k → w.heap.size ≤ k := by
  have hmk := run_make_rows (P := Try.prog) 57 68 _ 3 24 Try.underlying57 info_ncell n (by omega) (by omega)
  go_enter Try.func21, Try.ntmps21
  go_wp2_with fail
  have hs := (((Stage.start w).alloc' #[.slice (some ⟨w.heap.size + 1, 0, none⟩) 1 1, .slice (some ⟨w.heap.size + 1 + 1, 0, none⟩) n n] 59 rfl).newRow' 4 1 1 #[.bool false] rfl (by decide) (b := w.heap.size + 1) (size_alloc _ _)).newRow' 68 3 n (madeCells #[.int .i64 0, .int .i64 0, .int .u64 0] (n * 3)) (size_madeCells _ _) (by unfold maxLen; omega) (b := w.heap.size + 1 + 1) (by rw [size_alloc, size_alloc])
  have z0 := hs.cell 0 rfl (o := 0) rfl
  have z1 := hs.cell 0 rfl (o := 1) rfl
  refine bodyPost_ret (v := .agg #[.slice (some ⟨w.heap.size + 1, 0, none⟩) 1 1, .slice (some ⟨w.heap.size + 1 + 1, 0, none⟩) n n]) (by simp [results, Try.results21, go_sem, z0, z1]) rfl ⟨_, _, rfl, hs.below, ⟨hs.owns 1 rfl, ?_, by simp [newW], by simpa [newW] using hn⟩, ?_⟩
  · have := hs.owns 2 rfl
    rw [made_rows ncellC_len (by decide) .off #[.int .i64 0, .int .i64 0, .int .u64 0] rfl n] at this
    have e1 : (newW n).cells.length = n := by simp [newW]
    rw [e1]
    exact this
  · rintro k (hk | hk)
    · have : w.heap.size + 1 = k := by simpa [rowF, Value.ownBlock] using hk
      omega
    · have : w.heap.size + 1 + 1 = k := by simpa [rowF, Value.ownBlock] using hk
      omega

section
variable {w : World} {hv cv : Value} {W : WS}
theorem lenW_take (W : WS) (y : Int) (_hy : 0 < y) (k : Nat) (hk : k < W.cells.length) : (W.cells.take (k + 1)).countP (fun c => (c.home : Int) == y) = (W.cells.take k).countP (fun c => (c.home : Int) == y) + if ((W.cells.getD k .off).home : Int) == y then 1 else 0 := by
  rw [take_snocD .off W.cells k hk, List.countP_append]
  simp [List.countP_cons]
theorem reflen_any (y : Int) (h : NestAt w hv cv W) : Calls Try.prog 24 #[.agg #[hv, cv], .int .i64 y] w fun e w' => e = .returned (.int .i64 (lenW W y)) ∧ Below w.heap.size w w' := by
  obtain ⟨a9, c9, hhv, _, _⟩ := h.hform
  generalize hn9 : W.heaps.length = n9 at hhv
  subst hhv
  obtain ⟨a8, c8, hcv, b81, b82⟩ := h.cform
  have hcl := h.clen
  generalize hn8 : W.cells.length = n8 at hcv b81 hcl
  subst hcv
  obtain ⟨V, hV, hs⟩ : ∃ V, w.alloc (.cells #[.slice a9 n9 c9, .slice a8 n8 c8] 59) = V ∧ Stage (fun _ => False) w [Ob.box w.heap.size #[.slice a9 n9 c9, .slice a8 n8 c8] 59] V := ⟨_, rfl, (Stage.start w).alloc _ _⟩
  have k1 := hs.cell 0 rfl (o := 1) rfl
  obtain ⟨f, hf⟩ : ∃ f : Nat → Nat, f = fun k => if 0 < y then (W.cells.take k).countP (fun c => (c.home : Int) == y) else 0 := ⟨_, rfl⟩
  have f0 : f 0 = 0 := by rw [hf]; simp
  have fle : ∀ k, f k ≤ k := fun k => by
    rw [hf]
    simp only
    split
    · exact Nat.le_trans List.countP_le_length (by simp; omega)
    · exact Nat.zero_le _
  have fend : f n8 = lenW W y := by rw [hf]; unfold lenW; simp only; rw [List.take_of_length_le (by omega)]
  have fyes : ∀ k, k < n8 → ((W.cells.getD k .off).home : Int) = y → 0 < y → f (k + 1) = f k + 1 := fun k hk e hy => by
    rw [hf]; simp only [if_pos hy]; rw [lenW_take W y hy k (by omega), e]; simp
  have fno : ∀ k, k < n8 → ¬ ((W.cells.getD k .off).home : Int) = y → f (k + 1) = f k := fun k hk e => by
    rw [hf]; simp only
    split
    · rename_i hy
      rw [lenW_take W y hy k (by omega), if_neg (by simpa using e)]
      rfl
    · rfl
  have fno2 : ∀ k, ¬ 0 < y → f (k + 1) = f k := fun k e => by rw [hf]; simp only [if_neg e]
  rw [← fend]
  clear hf fend
  go_enter Try.func24, Try.ntmps24
  go_wp2_with fail
  go_loopw [5, 11] (fun c i wr => ∃ k : Nat, k ≤ n8 ∧ i = .int .i64 k ∧ c = .int .i64 (f k) ∧ Stage (fun _ => False) w [] wr) (fun _ i _ => n8 - (intOf i).toNat)
  case atStart => exact ⟨0, Nat.zero_le _, rfl, by rw [f0]; rfl, hs.take 0⟩
  case round =>
    clear hs hV k1
    obtain ⟨k, hk, rfl, rfl, hs⟩ := hrel
    have hfk := fle k
    by_cases hlt : k < n8
    · have hki : (k : Int) < n8 := by omega
      obtain ⟨g, c8', hcc, hg, u0, u1, u2⟩ := (h.later hs.below).ccell k (by omega)
      rw [hn8] at hcc
      cases hcc
      have y1 := fyes k hlt
      have y2 := fno k hlt
      have y3 := fno2 k
      generalize W.cells.getD k .off = d at *
      have e1 : IntKind.i64.wrap ((f k : Int) + 1) = (f k : Int) + 1 := IntWalk.i64_in _ (by omega)
      by_cases hy : 0 < y
      · by_cases e : (d.home : Int) = y
        · have e' : ((d.home : Int) == y) = true := by simpa using e
          have q := y1 e hy
          replace q := Lib.hid q
          clear e y1 y2 y3
          go_wp2_with fail
          go_roundw
          case rel => exact ⟨k + 1, by omega, by go_num, by rw [q.out]; rfl, (hs.alloc _ _).take 0⟩
          case measure => simp [intOf]; omega
        · have e' : ((d.home : Int) == y) = false := by simpa using e
          have q := y2 e
          replace q := Lib.hid q
          clear e y1 y2 y3
          go_wp2_with fail
          go_roundw
          case rel => exact ⟨k + 1, by omega, by go_num, by rw [q.out], (hs.alloc _ _).take 0⟩
          case measure => simp [intOf]; omega
      · have q := y3 (by omega)
        replace q := Lib.hid q
        by_cases e : (d.home : Int) = y
        · have e' : ((d.home : Int) == y) = true := by simpa using e
          clear e y1 y2 y3
          go_wp2_with fail
          go_roundw
          case rel => exact ⟨k + 1, by omega, by go_num, by rw [q.out], (hs.alloc _ _).take 0⟩
          case measure => simp [intOf]; omega
        · have e' : ((d.home : Int) == y) = false := by simpa using e
          clear e y1 y2 y3
          go_wp2_with fail
          go_roundw
          case rel => exact ⟨k + 1, by omega, by go_num, by rw [q.out], (hs.alloc _ _).take 0⟩
          case measure => simp [intOf]; omega
    · have hki : ¬ (k : Int) < n8 := by omega
      obtain rfl : k = n8 := by omega
      go_wp2_with fail
      go_ret
      exact ⟨rfl, hs.below⟩
end
end Go.Proofs.Ytcjjglaimfhofaa

namespace Go.Proofs.Ytcjjglaimfhofaa
open Go.RowKit Go.Sort

theorem aheadC_same' {c d : CellD} (h1 : c.key = d.key) (h2 : c.seq = d.seq) (a b : Int) : aheadC c d a b = decide (a < b) := by simp [aheadC, h1, h2, lessB_self]
theorem aheadC_other' {c d : CellD} (h : ¬ (c.key = d.key ∧ c.seq = d.seq)) (a b : Int) : aheadC c d a b = lessB c.key c.seq d.key d.seq := by
  have : (c.key == d.key && c.seq == d.seq) = false := by
    rw [Bool.and_eq_false_iff]
    by_cases e : c.key = d.key
    · exact Or.inr (by simpa using fun e2 => h ⟨e, e2⟩)
    · exact Or.inl (by simpa using e)
  simp [aheadC, this]
section
variable {w : World} {hv cv : Value} {W : WS}
theorem refahead_any (a b : Int) (h : NestAt w hv cv W) : Calls Try.prog 62 #[.agg #[hv, cv], .int .i64 a, .int .i64 b] w fun e w' => e = .returned (.bool (aheadW W a b)) ∧ Below w.heap.size w w' := by
  obtain ⟨a9, c9, hhv, _, _⟩ := h.hform
  generalize hn9 : W.heaps.length = n9 at hhv
  subst hhv
  obtain ⟨a8, c8, hcv, b81, b82⟩ := h.cform
  have hcl := h.clen
  generalize hn8 : W.cells.length = n8 at hcv b81 hcl
  subst hcv
  obtain ⟨V, hV, hs⟩ : ∃ V, w.alloc (.cells #[.slice a9 n9 c9, .slice a8 n8 c8] 59) = V ∧ Stage (fun _ => False) w [Ob.box w.heap.size #[.slice a9 n9 c9, .slice a8 n8 c8] 59] V := ⟨_, rfl, (Stage.start w).alloc _ _⟩
  have k0 := hs.cell 0 rfl (o := 0) rfl
  have k1 := hs.cell 0 rfl (o := 1) rfl
  have hI := refin_any a (h.later hs.below)
  obtain ⟨ans, hans⟩ : ∃ ans, ans = aheadW W a b := ⟨_, rfl⟩
  rw [← hans]
  cases ca : inW W a
  · have e1 : aheadW W a b = false := by simp [aheadW, ca]
    rw [ca] at hI
    replace hans := Lib.hid (hans.trans e1)
    clear e1
    go_enter Try.func62, Try.ntmps62
    go_wp2_with fail
    refine hI.mono ?_
    rintro e w1 ⟨rfl, hb⟩
    go_wp2_with fail
    go_ret
    exact ⟨ret_bool hans.out.symm, (hs.later hb).below⟩
  · rw [ca] at hI
    replace hans := Lib.hid hans
    go_enter Try.func62, Try.ntmps62
    go_wp2_with fail
    clear hV k0 k1
    refine hI.mono ?_
    rintro e w1 ⟨rfl, hb⟩
    replace hs := hs.later hb
    have k0 := hs.cell 0 rfl (o := 0) rfl
    have k1 := hs.cell 0 rfl (o := 1) rfl
    have hJ := refin_any b (h.later hs.below)
    clear hI hb
    cases cb : inW W b
    · have e1 : aheadW W a b = false := by simp [aheadW, cb]
      rw [cb] at hJ
      replace hans := Lib.hid (hans.out.trans e1)
      clear e1
      go_wp2_with fail
      refine hJ.mono ?_
      rintro e w2 ⟨rfl, hb⟩
      go_wp2_with fail
      go_ret
      exact ⟨ret_bool hans.out.symm, (hs.later hb).below⟩
    · rw [cb] at hJ
      obtain ⟨i, rfl, hi, _⟩ := in_nat ca
      obtain ⟨j, rfl, hj, _⟩ := in_nat cb
      have e1 : aheadW W i j = aheadC (W.cells.getD i .off) (W.cells.getD j .off) i j := by simp only [aheadW, ca, cb, cell_nat W i hi, cell_nat W j hj]; rfl
      replace hans := Lib.hid (hans.out.trans e1)
      clear e1
      go_wp2_with fail
      clear k0 k1
      refine hJ.mono ?_
      rintro e w2 ⟨rfl, hb⟩
      replace hs := hs.later hb
      have k0 := hs.cell 0 rfl (o := 0) rfl
      have k1 := hs.cell 0 rfl (o := 1) rfl
      have hN := h.later hs.below
      obtain ⟨g, c8', hcc, hg, u0, u1, u2⟩ := hN.ccell i hi
      rw [hn8] at hcc
      cases hcc
      obtain ⟨g', c8', hcc, _, v0, v1, v2⟩ := hN.ccell j hj
      rw [hn8] at hcc
      cases hcc
      have l0 := hs.lt 0 rfl
      clear hJ hb ca cb
      have hL := fun w => refLess_any (W.cells.getD i .off).key (W.cells.getD i .off).seq (W.cells.getD j .off).key (W.cells.getD j .off).seq w
      generalize W.cells.getD i .off = c at *
      generalize W.cells.getD j .off = d at *
      have hs2 := (hs.alloc #[.int .i64 c.key, .int .u64 c.seq] 63).alloc' #[.int .i64 d.key, .int .u64 d.seq] 63 (b := w2.heap.size + 1) (size_alloc _ _)
      have hi8 : i < n8 := by omega
      have hj8 : j < n8 := by omega
      obtain ⟨V2, hV2, hs3⟩ : ∃ V2, (w2.alloc (.cells #[.int .i64 c.key, .int .u64 c.seq] 63)).alloc (.cells #[.int .i64 d.key, .int .u64 d.seq] 63) = V2 ∧ Stage (fun _ => False) w _ V2 := ⟨_, rfl, hs2⟩
      have x0 := hs3.cell 1 rfl (o := 0) rfl
      have x1 := hs3.cell 1 rfl (o := 1) rfl
      have y0 := hs3.cell 2 rfl (o := 0) rfl
      have y1 := hs3.cell 2 rfl (o := 1) rfl
      go_wp2_with fail
      clear hV2 x0 x1 y0 y1 k0 k1 u0 u1 u2 v0 v1 v2 hs2 l0 hN
      cases hl : lessB c.key c.seq d.key d.seq
      · rw [hl] at hL
        refine (hL _).mono ?_
        rintro e w3 ⟨rfl, hb⟩
        replace hs := hs3.later hb
        clear hs3 hb hL
        have x0 := hs.cell 1 rfl (o := 0) rfl
        have x1 := hs.cell 1 rfl (o := 1) rfl
        have y0 := hs.cell 2 rfl (o := 0) rfl
        have y1 := hs.cell 2 rfl (o := 1) rfl
        by_cases heq : c.key = d.key ∧ c.seq = d.seq
        · have q := hans.out
          rw [aheadC_same' heq.1 heq.2] at q
          rw [heq.1] at x0
          rw [heq.2] at x1
          replace q := Lib.hid q
          clear heq hl hans
          go_wp2_with fail
          go_ret
          exact ⟨ret_bool (by rw [q.out]; simp), hs.below⟩
        · have q := hans.out
          rw [aheadC_other' heq, hl] at q
          replace q := Lib.hid q
          by_cases q1 : c.key = d.key
          · have q2 : (c.seq == d.seq) = false := by simpa using fun e => heq ⟨q1, e⟩
            rw [q1] at x0
            clear heq hl hans q1
            go_wp2_with fail
            go_ret
            exact ⟨ret_bool q.out.symm, hs.below⟩
          · have q1' : (c.key == d.key) = false := by simpa using q1
            clear heq hl hans q1
            go_wp2_with fail
            go_ret
            exact ⟨ret_bool q.out.symm, hs.below⟩
      · rw [hl] at hL
        have q := hans.out
        have : aheadC c d i j = true := by simp [aheadC, hl]
        rw [this] at q
        replace q := Lib.hid q
        refine (hL _).mono ?_
        rintro e w3 ⟨rfl, hb⟩
        go_wp2_with fail
        go_ret
        exact ⟨ret_bool q.out.symm, (hs3.later hb).below⟩
end
end Go.Proofs.Ytcjjglaimfhofaa
