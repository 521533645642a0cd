/- What the document's New and Make return. -/
import Derived.Test.YtdipahkgfkoamaaNestRef4
namespace Go.Proofs.Ytdipahkgfkoamaa
open Go.RowKit Go.Sort

section
variable {w : World} {hv cv : Value} {W : WS}
theorem refmake_no (h : NestAt w hv cv W) (hc : canMakeW W = false) : Calls Try.prog 14 #[.agg #[hv, cv]] w (NestPost w hv cv W (fun v => .tuple #[v, .int .i64 0])) := by
  obtain ⟨a9, c9, hhv, b91, b92⟩ := h.hform
  have hl9 : 65536 < W.heaps.length := by simpa [canMakeW] using hc
  have hl99 := h.hlen
  generalize hn9 : W.heaps.length = n9 at hhv b91 hl9 hl99
  subst hhv
  obtain ⟨a8, c8, hcv, b81, b82⟩ := h.cform
  generalize hn8 : W.cells.length = n8 at hcv b81
  subst hcv
  obtain ⟨V, hV, hs⟩ : ∃ V, (w.alloc (.cells #[.slice a9 n9 c9, .slice a8 n8 c8] 45)).alloc (.cells #[nestZ, nestZ] 45) = V ∧
      Stage (fun _ => False) w [Ob.box w.heap.size #[.slice a9 n9 c9, .slice a8 n8 c8] 45, Ob.box (w.heap.size + 1) #[nestZ, nestZ] 45] V :=
    ⟨_, rfl, ((Stage.start w).alloc _ _).alloc' _ _ (size_alloc _ _)⟩
  have k0 := hs.cell 0 rfl (o := 0) rfl
  have k1 := hs.cell 0 rfl (o := 1) rfl
  have z0 := hs.cell 1 rfl (o := 0) rfl
  have z1 := hs.cell 1 rfl (o := 1) rfl
  have g0 := hs.free 1 rfl 0
  have g1 := hs.free 1 rfl 1
  have hs3 := (hs.store 1 rfl 0 (.slice a9 n9 c9)).store 1 rfl 1 (.slice a8 n8 c8)
  go_enter Try.func14, Try.ntmps14
  go_wp2_with fail
  exact bodyPost_ret (v := .tuple #[.agg #[.slice a9 n9 c9, .slice a8 n8 c8], .int .i64 0]) (by simp [results, Try.results14, go_sem, z0, z1]) rfl ⟨_, _, rfl, hs3.below, h.later hs3.below, fun k hk => Or.inl hk⟩
set_option maxHeartbeats 1000000 in
theorem refmake_yes (h : NestAt w hv cv W) (hc : canMakeW W = true) : Calls Try.prog 14 #[.agg #[hv, cv]] w (NestPost w hv cv ⟨W.heaps ++ [true], W.cells⟩ (fun v => .tuple #[v, .int .i64 W.heaps.length])) := by
  obtain ⟨a9, c9, hhv, b91, b92⟩ := h.hform
  have hl9 : W.heaps.length ≤ 65536 := by simpa [canMakeW] using hc
  generalize hn9 : W.heaps.length = n9 at hhv b91 hl9
  subst hhv
  obtain ⟨a8, c8, hcv, b81, b82⟩ := h.cform
  generalize hn8 : W.cells.length = n8 at hcv b81
  subst hcv
  obtain ⟨V, hV, hs⟩ : ∃ V, (w.alloc (.cells #[.slice a9 n9 c9, .slice a8 n8 c8] 45)).alloc (.cells #[nestZ, nestZ] 45) = V ∧
      Stage (fun _ => False) w [Ob.box w.heap.size #[.slice a9 n9 c9, .slice a8 n8 c8] 45, Ob.box (w.heap.size + 1) #[nestZ, nestZ] 45] V :=
    ⟨_, rfl, ((Stage.start w).alloc _ _).alloc' _ _ (size_alloc _ _)⟩
  have k0 := hs.cell 0 rfl (o := 0) rfl
  have k1 := hs.cell 0 rfl (o := 1) rfl
  have l0 := hs.lt 0 rfl
  have hsA := hs.emptyRow' 4 1 (b := V.heap.size) rfl
  have hsB := hsA.alloc' #[.bool true] 4 (b := V.heap.size + 1) (size_alloc _ _)
  have hsC := ((hs.alloc #[.bool true] 4).emptyRow' 4 1 (b := V.heap.size + 1) (size_alloc _ _)).select [0, 1, 3, 2] (by decide) rfl
  have hrA := reads_own (h.later hsA.below).hrow
  have hrB := reads_own (h.later hsB.below).hrow
  have hrC := reads_own (h.later hsC.below).hrow
  rw [hn9] at hrA hrB hrC
  have hVs := hs.size
  go_enter Try.func14, Try.ntmps14
  go_wp2_with fail
  clear hV
  have hn01 : w.heap.size ≠ w.heap.size + 1 := by omega
  go_region_held3 (fun w' => w'.cell? ⟨w.heap.size, 0, none⟩ = some (.slice a9 n9 c9) ∧ w'.cell? ⟨w.heap.size, 1, none⟩ = some (.slice a8 n8 c8)) (first | exact ⟨p0, p1⟩ | exact ⟨m0, m1⟩ | simp [*, World.cell?_alloc_some, World.cell?_setCell_far])
   (first
      | ((refine Stage.step_append (v := .slice (some ⟨V.heap.size, 0, none⟩) 0 0) (l := [_, _, _]) (by exact hsA.same rfl rfl rfl rfl) 2 rfl rfl (.tmp 9) (.tmp 11) 42 rfl _ 1 Try.underlying42 info_bool rfl (by decide) (Nat.zero_le _) rfl _ n9 (cellsBy boolC W.heaps) rfl (by exact reads_same (w := V.alloc (.cells #[] 4)) rfl hrA) (bools_one _) (by unfold maxLen; omega) (by omega) ?_); intro v1 w6 hs6 hl6; rw [Nat.zero_add, List.nil_append] at hs6; have q6 : ∀ k, rowF v1 k → w.heap.size ≤ k := fun k hk => (hl6 k hk).elim (fun h => Nat.le_trans hVs (Nat.le_of_eq (show V.heap.size = k from by simpa [rowF, Value.ownBlock] using h))) (fun h => Nat.le_trans hsA.size h); have m0 := hs6.cell 0 rfl (o := 0) rfl; have m1 := hs6.cell 0 rfl (o := 1) rfl; have ll0 := hs6.lt 0 rfl)
      | ((refine Stage.step_append (v := .slice (some ⟨V.heap.size, 0, none⟩) 0 0) (l := [_, _, _, _]) (by exact hsB.same rfl rfl rfl rfl) 2 rfl rfl (.tmp 9) (.tmp 11) 42 rfl _ 1 Try.underlying42 info_bool rfl (by decide) (Nat.zero_le _) rfl _ n9 (cellsBy boolC W.heaps) rfl (by exact reads_same (w := (V.alloc (.cells #[] 4)).alloc (.cells #[.bool true] 4)) rfl hrB) (bools_one _) (by unfold maxLen; omega) (by omega) ?_); intro v1 w6 hs6 hl6; rw [Nat.zero_add, List.nil_append] at hs6; have q6 : ∀ k, rowF v1 k → w.heap.size ≤ k := fun k hk => (hl6 k hk).elim (fun h => Nat.le_trans hVs (Nat.le_of_eq (show V.heap.size = k from by simpa [rowF, Value.ownBlock] using h))) (fun h => Nat.le_trans hsB.size h); have m0 := hs6.cell 0 rfl (o := 0) rfl; have m1 := hs6.cell 0 rfl (o := 1) rfl; have ll0 := hs6.lt 0 rfl)
      | ((refine Stage.step_append (v := .slice (some ⟨V.heap.size + 1, 0, none⟩) 0 0) (l := [_, _, _, _]) (by exact hsC.same rfl rfl rfl rfl) 2 rfl rfl (.tmp 9) (.tmp 11) 42 rfl _ 1 Try.underlying42 info_bool rfl (by decide) (Nat.zero_le _) rfl _ n9 (cellsBy boolC W.heaps) rfl (by exact reads_same (w := (V.alloc (.cells #[.bool true] 4)).alloc (.cells #[] 4)) rfl hrC) (bools_one _) (by unfold maxLen; omega) (by omega) ?_); intro v1 w6 hs6 hl6; rw [Nat.zero_add, List.nil_append] at hs6; have q6 : ∀ k, rowF v1 k → w.heap.size ≤ k := fun k hk => (hl6 k hk).elim (fun h => Nat.le_trans (Nat.le_succ_of_le hVs) (Nat.le_of_eq (show V.heap.size + 1 = k from by simpa [rowF, Value.ownBlock] using h))) (fun h => Nat.le_trans hsC.size h); have m0 := hs6.cell 0 rfl (o := 0) rfl; have m1 := hs6.cell 0 rfl (o := 1) rfl; have ll0 := hs6.lt 0 rfl)
      | ((refine Stage.step_append (v := v1) (l := [_, _, _, _]) (by exact (hs6.alloc #[.bool true] 4).same rfl rfl rfl rfl) 2 rfl rfl (.tmp 12) (.tmp 13) 42 rfl _ 1 Try.underlying42 info_bool rfl (by decide) (Nat.zero_le _) rfl _ 1 [.bool true] rfl (by exact reads_same (w := w6.alloc (.cells #[.bool true] 4)) rfl (reads_box ((hs6.alloc #[.bool true] 4).blk 3 rfl) 1 1 rfl)) (by intro u hu; simp at hu; subst hu; rfl) (by unfold maxLen; omega) (by omega) ?_); intro v2 w7 hs7 hl7; have q7 : ∀ k, rowF v2 k → w.heap.size ≤ k := fun k hk => (hl7 k hk).elim (q6 k) (fun h => Nat.le_trans (hs6.alloc #[.bool true] 4).size h); obtain ⟨va, vc, hve, _, _⟩ := owns_form (hs7.owns 2 rfl); subst hve; have p0 := hs7.cell 0 rfl (o := 0) rfl; have p1 := hs7.cell 0 rfl (o := 1) rfl; have g0 := hs7.free 1 rfl 0; have g1 := hs7.free 1 rfl 1; have pp0 := hs7.lt 0 rfl; have z0 := hs7.cell 1 rfl (o := 0) rfl; have z1 := hs7.cell 1 rfl (o := 1) rfl)
      | ((refine Stage.step_append (v := v1) (l := [_, _, _, _]) (by exact hs6.same rfl rfl rfl rfl) 2 rfl rfl (.tmp 12) (.tmp 13) 42 rfl _ 1 Try.underlying42 info_bool rfl (by decide) (Nat.zero_le _) rfl _ 1 [.bool true] rfl (by exact reads_same (w := w6) rfl (reads_box (hs6.blk 3 rfl) 1 1 rfl)) (by intro u hu; simp at hu; subst hu; rfl) (by unfold maxLen; omega) (by omega) ?_); intro v2 w7 hs7 hl7; have q7 : ∀ k, rowF v2 k → w.heap.size ≤ k := fun k hk => (hl7 k hk).elim (q6 k) (fun h => Nat.le_trans hs6.size h); obtain ⟨va, vc, hve, _, _⟩ := owns_form (hs7.owns 2 rfl); subst hve; have p0 := hs7.cell 0 rfl (o := 0) rfl; have p1 := hs7.cell 0 rfl (o := 1) rfl; have g0 := hs7.free 1 rfl 0; have g1 := hs7.free 1 rfl 1; have pp0 := hs7.lt 0 rfl; have z0 := hs7.cell 1 rfl (o := 0) rfl; have z1 := hs7.cell 1 rfl (o := 1) rfl))
  all_goals
    have hs8 := (hs7.store 1 rfl 0 (.slice va (n9 + 1) vc)).store 1 rfl 1 (.slice a8 n8 c8)
    have hrow := hs8.owns 2 rfl
    go_wp2_with fail
    refine bodyPost_ret (v := .tuple #[.agg #[.slice va (n9 + 1) vc, .slice a8 n8 c8], .int .i64 n9]) (by simp [results, Try.results14, go_sem, z0, z1]) rfl ⟨.slice va (n9 + 1) vc, .slice a8 n8 c8, rfl, hs8.below, ⟨?_, (h.later hs8.below).crow, by simp; omega, h.clen⟩, ?_⟩
    · have e1 : (W.heaps ++ [true]).length = n9 + 1 := by simp [hn9]
      have e2 : cellsBy boolC (W.heaps ++ [true]) = cellsBy boolC W.heaps ++ [.bool true] := by rw [cellsBy_append, cellsBy_one]; rfl
      rw [e1, e2]
      exact hrow
    · rintro k (hk | hk)
      · exact Or.inr (q7 k hk)
      · exact Or.inl (Or.inr hk)
end
end Go.Proofs.Ytdipahkgfkoamaa
