/- Merged of NestRef2, NestRef3. -/
import Derived.Test.YtmoolbmbdnkooaaNestRef
namespace Go.Proofs.Ytmoolbmbdnkooaa
open Go.RowKit Go.Sort

def NestPost (w : World) (hv cv : Value) (W' : WS) (res : Value → Value) (e : Ending) (w' : World) : Prop :=
  ∃ hv' cv', e = .returned (res (.agg #[hv', cv'])) ∧ Below w.heap.size w w' ∧ NestAt w' hv' cv' W' ∧ ∀ k, nestF hv' cv' k → nestF hv cv k ∨ w.heap.size ≤ k
theorem info_ncell : (Try.prog.info? 93).map (fun i => (i.zero, i.size, i.bytes)) = some (some (.agg #[.int .i64 0, .int .i64 0, .int .u64 0]), 3, 24) := by kernel_rfl
theorem info_bool : (Try.prog.info? 4).map (fun i => (i.zero, i.size, i.bytes)) = some (some (.bool false), 1, 1) := by kernel_rfl
theorem ncells_one (l : List CellD) : ∀ u ∈ cellsBy ncellC l, u.oneCell' = true := by
  intro u hu
  unfold cellsBy at hu
  rw [List.mem_flatMap] at hu
  obtain ⟨p, _, hp⟩ := hu
  simp only [ncellC, List.mem_cons, List.not_mem_nil, or_false] at hp
  rcases hp with rfl | rfl | rfl <;> rfl
theorem bools_one (l : List Bool) : ∀ u ∈ cellsBy boolC l, u.oneCell' = true := by
  intro u hu
  unfold cellsBy at hu
  rw [List.mem_flatMap] at hu
  obtain ⟨p, _, hp⟩ := hu
  simp only [boolC, List.mem_cons, List.not_mem_nil, or_false] at hp
  subst hp; rfl
theorem ncellC_put (l : List CellD) (i : Nat) (hi : i < l.length) (c : CellD) : (((cellsBy ncellC l).set (i * 3) (.int .i64 c.home)).set (i * 3 + 1) (.int .i64 c.key)).set (i * 3 + 2) (.int .u64 c.seq) = cellsBy ncellC (l.set i c) := by
  obtain ⟨h, k, q⟩ := c
  have s0 := cellsBy_set ncellC 3 ncellC_len .off l i 0 (.int .i64 h) ⟨h, (l.getD i .off).key, (l.getD i .off).seq⟩ hi (by omega) rfl
  rw [Nat.add_zero] at s0
  rw [s0]
  have s1 := cellsBy_set ncellC 3 ncellC_len .off (l.set i ⟨h, (l.getD i .off).key, (l.getD i .off).seq⟩) i 1 (.int .i64 k) ⟨h, k, (l.getD i .off).seq⟩ (by simpa using hi) (by omega) (by rw [getD_set' _ _ _ _ _ hi, if_pos rfl]; rfl)
  rw [s1, List.set_set]
  have s2 := cellsBy_set ncellC 3 ncellC_len .off (l.set i ⟨h, k, (l.getD i .off).seq⟩) i 2 (.int .u64 q) ⟨h, k, q⟩ (by simpa using hi) (by omega) (by rw [getD_set' _ _ _ _ _ hi, if_pos rfl]; rfl)
  rw [s2, List.set_set]
abbrev nestZ : Value := .slice none 0 0
section
variable {w : World} {hv cv : Value} {W : WS}
theorem refwith_any (i : Nat) (hi : i < W.cells.length) (c : CellD) (h : NestAt w hv cv W) :
    Calls Try.prog 50 #[.agg #[hv, cv], .int .i64 i, .agg #[.int .i64 c.home, .int .i64 c.key, .int .u64 c.seq]] w (NestPost w hv cv ⟨W.heaps, W.cells.set i c⟩ id) := by
  obtain ⟨a9, c9, hhv, _, _⟩ := h.hform
  generalize W.heaps.length = n9 at hhv
  subst hhv
  obtain ⟨V, hV, hs⟩ : ∃ V, ((w.alloc (.cells #[.slice a9 n9 c9, cv] 55)).alloc (.cells #[.int .i64 c.home, .int .i64 c.key, .int .u64 c.seq] 93)).alloc (.cells #[nestZ, nestZ] 55) = V ∧
      Stage (fun _ => False) w [Ob.box w.heap.size #[.slice a9 n9 c9, cv] 55, Ob.box (w.heap.size + 1) #[.int .i64 c.home, .int .i64 c.key, .int .u64 c.seq] 93, Ob.box (w.heap.size + 1 + 1) #[nestZ, nestZ] 55] V :=
    ⟨_, rfl, (((Stage.start w).alloc _ _).alloc' _ _ (size_alloc _ _)).alloc' _ _ (by rw [size_alloc, size_alloc])⟩
  have hsE := hs.emptyRow' 93 3 (b := V.heap.size) rfl
  have hE := h.later hsE.below
  obtain ⟨a0, c0, hcv, _, _⟩ := h.cform
  have k1 := hs.cell 0 rfl (o := 1) rfl
  have l0 := hs.lt 0 rfl
  have hn := h.clen
  subst hcv
  go_enter Try.func50, Try.ntmps50
  go_wp2_with (at_builtin; refine hsE.wp_append 3 rfl rfl _ _ 53 rfl _ 24 Try.underlying53 info_ncell rfl (by decide) (Nat.zero_le _) rfl _ _ _ rfl (reads_own hE.crow) (ncells_one _) (by unfold maxLen; omega) (by omega) ?_)
  intro v1 w1 hs1 hv1
  have hVw := hs.size
  obtain ⟨g, cap, rfl, b1, b2, _, hg, hc, hf⟩ := owns_at ncellC_len .off (hs1.owns 3 rfl) rfl (by omega)
  have u0 := hc i 0 _ hi (by omega) rfl
  have u1 := hc i 1 _ hi (by omega) rfl
  have u2 := hc i 2 _ hi (by omega) rfl
  rw [Nat.add_zero] at u0
  have f0 := hf (i * 3)
  have f1 := hf (i * 3 + 1)
  have f2 := hf (i * 3 + 2)
  have j0 := hs1.cell 1 rfl (o := 0) rfl
  have j1 := hs1.cell 1 rfl (o := 1) rfl
  have j2 := hs1.cell 1 rfl (o := 2) rfl
  obtain ⟨V2, hV2, hs2⟩ : ∃ V2, ((w1.setCell ⟨g, i * 3, none⟩ (.int .i64 c.home)).setCell ⟨g, i * 3 + 1, none⟩ (.int .i64 c.key)).setCell ⟨g, i * 3 + 2, none⟩ (.int .u64 c.seq) = V2 ∧ Stage (fun _ => False) w _ V2 :=
    ⟨_, rfl, ((hs1.storeRow 3 rfl (i * 3) (.int .i64 c.home) rfl).storeRow 3 rfl (i * 3 + 1) (.int .i64 c.key) rfl).storeRow 3 rfl (i * 3 + 2) (.int .u64 c.seq) (ncellC_put W.cells i hi c)⟩
  have m0 := hs2.cell 0 rfl (o := 0) rfl
  have g0 := hs2.free 2 rfl 0
  have g1 := hs2.free 2 rfl 1
  have z0 := hs2.cell 2 rfl (o := 0) rfl
  have z1 := hs2.cell 2 rfl (o := 1) rfl
  have hs3 := (hs2.store 2 rfl 0 (.slice a9 n9 c9)).store 2 rfl 1 (.slice (some ⟨g, 0, none⟩) W.cells.length cap)
  unfold maxLen at b2
  have hh := h.later hs3.below
  have hrow := hs3.owns 3 rfl
  have hcl := h.clen
  clear hs hsE hE hs1 hs2 hf hc h
  generalize hln : W.cells.length = n at *
  go_wp2_with fail
  refine bodyPost_ret (v := .agg #[.slice a9 n9 c9, .slice (some ⟨g, 0, none⟩) n cap]) (by simp [results, Try.results50, go_sem, z0, z1]) rfl ⟨.slice a9 n9 c9, .slice (some ⟨g, 0, none⟩) n cap, rfl, hs3.below, ⟨hh.hrow, ?_, hh.hlen, by simpa [hln] using hcl⟩, ?_⟩
  · show World.ownsRow _ _ _ _ _ (W.cells.set i c).length _
    rw [List.length_set, hln]
    exact hrow
  · rintro k (hk | hk)
    · exact Or.inl (Or.inl hk)
    · refine Or.inr ?_
      rcases hv1 k hk with h1 | h1
      · have : V.heap.size = k := by simpa [rowF, Value.ownBlock] using h1
        omega
      · omega
end
end Go.Proofs.Ytmoolbmbdnkooaa

namespace Go.Proofs.Ytmoolbmbdnkooaa
open Go.RowKit Go.Sort

section
variable {w : World} {hv cv : Value} {W : WS}
theorem refdrop_any (x : Int) (h : NestAt w hv cv W) : Calls Try.prog 35 #[.agg #[hv, cv], .int .i64 x] w (NestPost w hv cv (dropW W x) (fun v => .tuple #[v, .bool (inW W x)])) := by
  obtain ⟨a9, c9, hhv, _, _⟩ := h.hform
  generalize hn9 : W.heaps.length = n9 at hhv
  subst hhv
  obtain ⟨a8, c8, hcv, b81, b82⟩ := h.cform
  have hcl := h.clen
  generalize hn8 : W.cells.length = n8 at hcv b81 hcl
  subst hcv
  obtain ⟨V, hV, hs⟩ : ∃ V, (w.alloc (.cells #[.slice a9 n9 c9, .slice a8 n8 c8] 55)).alloc (.cells #[nestZ, nestZ] 55) = V ∧
      Stage (fun _ => False) w [Ob.box w.heap.size #[.slice a9 n9 c9, .slice a8 n8 c8] 55, Ob.box (w.heap.size + 1) #[nestZ, nestZ] 55] V :=
    ⟨_, rfl, ((Stage.start w).alloc _ _).alloc' _ _ (size_alloc _ _)⟩
  have hI := refin_any x (h.later hs.below)
  have k0 := hs.cell 0 rfl (o := 0) rfl
  have k1 := hs.cell 0 rfl (o := 1) rfl
  cases ci : inW W x
  · have q1 : dropW W x = W := by simp [dropW, ci]
    rw [ci] at hI
    rw [q1]
    go_enter Try.func35, Try.ntmps35
    go_wp2_with fail
    clear hV
    refine (hI).mono ?_
    rintro e w1 ⟨rfl, hb⟩
    replace hs := hs.later hb
    clear hb
    clear k0 k1
    have k0 := hs.cell 0 rfl (o := 0) rfl
    have k1 := hs.cell 0 rfl (o := 1) rfl
    have z0 := hs.cell 1 rfl (o := 0) rfl
    have z1 := hs.cell 1 rfl (o := 1) rfl
    have g0 := hs.free 1 rfl 0
    have g1 := hs.free 1 rfl 1
    clear hI
    go_wp2_with fail
    refine bodyPost_ret (v := .tuple #[.agg #[.slice a9 n9 c9, .slice a8 n8 c8], .bool false]) (by simp [results, Try.results35, go_sem, z0, z1]) rfl ⟨_, _, rfl, ((hs.store 1 rfl 0 (.slice a9 n9 c9)).store 1 rfl 1 (.slice a8 n8 c8)).below, h.later ((hs.store 1 rfl 0 (.slice a9 n9 c9)).store 1 rfl 1 (.slice a8 n8 c8)).below, fun k hk => Or.inl hk⟩
  · obtain ⟨i, rfl, hi, _⟩ := in_nat ci
    have q1 : dropW W i = ⟨W.heaps, W.cells.set i .off⟩ := by simp [dropW, ci]
    rw [ci] at hI
    rw [q1]
    go_enter Try.func35, Try.ntmps35
    go_wp2_with fail
    clear hV
    refine (hI).mono ?_
    rintro e w1 ⟨rfl, hb⟩
    replace hs := hs.later hb
    clear hb
    clear k0 k1
    have k0 := hs.cell 0 rfl (o := 0) rfl
    have k1 := hs.cell 0 rfl (o := 1) rfl
    have hW := refwith_any i hi .off (h.later hs.below)
    clear hI
    go_wp2_with fail
    clear k0 k1
    refine hW.mono ?_
    rintro e V2 ⟨hv2, cv2, rfl, hb, hN2, hF2⟩
    have hVs := hs.size
    have lR := hs.lt 1 rfl
    replace hs := hs.later hb
    obtain ⟨a7, c7, hhv2, _, _⟩ := hN2.hform
    generalize hn7 : WS.heaps _ = l7 at hhv2
    generalize hn77 : l7.length = n7 at hhv2
    subst hhv2
    obtain ⟨a6, c6, hcv2, _, _⟩ := hN2.cform
    generalize hn6 : WS.cells _ = l6 at hcv2
    generalize hn66 : l6.length = n6 at hcv2
    subst hcv2
    have z0 := hs.cell 1 rfl (o := 0) rfl
    have z1 := hs.cell 1 rfl (o := 1) rfl
    have g0 := hs.free 1 rfl 0
    have g1 := hs.free 1 rfl 1
    clear hb
    have hs3 := (hs.store 1 rfl 0 (.slice a7 n7 c7)).store 1 rfl 1 (.slice a6 n6 c6)
    go_wp2_with fail
    refine bodyPost_ret (v := .tuple #[.agg #[.slice a7 n7 c7, .slice a6 n6 c6], .bool true]) (by simp [results, Try.results35, go_sem, z0, z1]) rfl ⟨_, _, rfl, hs3.below, ?_, ?_⟩
    · refine hN2.keeps (G := (· = (w.heap.size + 1))) ?_ ?_
      · exact ((Keeps.refl (· = (w.heap.size + 1)) V2).setCell ⟨(w.heap.size + 1), 0, none⟩ (Or.inl rfl) _).setCell ⟨(w.heap.size + 1), 1, none⟩ (Or.inl rfl) _
      · intro b hb1 (hb2 : b = (w.heap.size + 1))
        have := hF2 b hb1
        rcases this with h1 | h1
        · have := h.lt b h1
          omega
        · omega
    · intro k hk
      exact (hF2 k hk).imp id (fun h1 => by omega)
set_option maxHeartbeats 1000000 in
theorem refput_any (y x k q : Int) (h : NestAt w hv cv W) : Calls Try.prog 33 #[.agg #[hv, cv], .int .i64 y, .int .i64 x, .agg #[.int .i64 k, .int .u64 q]] w (NestPost w hv cv (putW W y x k q) (fun v => .tuple #[v, .bool (putB W y x)])) := by
  obtain ⟨a9, c9, hhv, _, _⟩ := h.hform
  generalize hn9 : W.heaps.length = n9 at hhv
  subst hhv
  obtain ⟨a8, c8, hcv, b81, b82⟩ := h.cform
  have hcl := h.clen
  generalize hn8 : W.cells.length = n8 at hcv b81 hcl
  subst hcv
  obtain ⟨V, hV, hs⟩ : ∃ V, ((w.alloc (.cells #[.slice a9 n9 c9, .slice a8 n8 c8] 55)).alloc (.cells #[.int .i64 k, .int .u64 q] 59)).alloc (.cells #[nestZ, nestZ] 55) = V ∧
      Stage (fun _ => False) w [Ob.box w.heap.size #[.slice a9 n9 c9, .slice a8 n8 c8] 55, Ob.box (w.heap.size + 1) #[.int .i64 k, .int .u64 q] 59, Ob.box (w.heap.size + 1 + 1) #[nestZ, nestZ] 55] V :=
    ⟨_, rfl, (((Stage.start w).alloc _ _).alloc' _ _ (size_alloc _ _)).alloc' _ _ (by rw [size_alloc, size_alloc])⟩
  have hH := refhas_any y (h.later hs.below)
  have k0 := hs.cell 0 rfl (o := 0) rfl
  have k1 := hs.cell 0 rfl (o := 1) rfl
  cases ch : hasW W y
  · have q1 : putB W y x = false := by simp [putB, ch]
    have q2 : putW W y x k q = W := by simp [putW, q1]
    rw [ch] at hH
    rw [q1, q2]
    go_enter Try.func33, Try.ntmps33
    go_wp2_with fail
    clear hV
    refine (hH).mono ?_
    rintro e w1 ⟨rfl, hb⟩
    replace hs := hs.later hb
    clear hb
    clear k0 k1
    have k0 := hs.cell 0 rfl (o := 0) rfl
    have k1 := hs.cell 0 rfl (o := 1) rfl
    have z0 := hs.cell 2 rfl (o := 0) rfl
    have z1 := hs.cell 2 rfl (o := 1) rfl
    have g0 := hs.free 2 rfl 0
    have g1 := hs.free 2 rfl 1
    clear hH
    go_wp2_with fail
    refine bodyPost_ret (v := .tuple #[.agg #[.slice a9 n9 c9, .slice a8 n8 c8], .bool false]) (by simp [results, Try.results33, go_sem, z0, z1]) rfl ⟨_, _, rfl, ((hs.store 2 rfl 0 (.slice a9 n9 c9)).store 2 rfl 1 (.slice a8 n8 c8)).below, h.later ((hs.store 2 rfl 0 (.slice a9 n9 c9)).store 2 rfl 1 (.slice a8 n8 c8)).below, fun k hk => Or.inl hk⟩
  · rw [ch] at hH
    by_cases hx0 : x < 0
    · have q1 : putB W y x = false := by
        have : slotW W x = false := by simp [slotW]; omega
        simp [putB, this]
      have q2 : putW W y x k q = W := by simp [putW, q1]
      rw [q1, q2]
      go_enter Try.func33, Try.ntmps33
      go_wp2_with fail
      clear hV
      refine (hH).mono ?_
      rintro e w1 ⟨rfl, hb⟩
      replace hs := hs.later hb
      clear hb
      clear k0 k1
      have k0 := hs.cell 0 rfl (o := 0) rfl
      have k1 := hs.cell 0 rfl (o := 1) rfl
      have z0 := hs.cell 2 rfl (o := 0) rfl
      have z1 := hs.cell 2 rfl (o := 1) rfl
      have g0 := hs.free 2 rfl 0
      have g1 := hs.free 2 rfl 1
      clear hH
      go_wp2_with fail
      refine bodyPost_ret (v := .tuple #[.agg #[.slice a9 n9 c9, .slice a8 n8 c8], .bool false]) (by simp [results, Try.results33, go_sem, z0, z1]) rfl ⟨_, _, rfl, ((hs.store 2 rfl 0 (.slice a9 n9 c9)).store 2 rfl 1 (.slice a8 n8 c8)).below, h.later ((hs.store 2 rfl 0 (.slice a9 n9 c9)).store 2 rfl 1 (.slice a8 n8 c8)).below, fun k hk => Or.inl hk⟩
    · by_cases hx1 : x < n8
      · obtain ⟨i, rfl⟩ : ∃ i : Nat, x = i := ⟨x.toNat, by omega⟩
        have hi : i < W.cells.length := by omega
        have hsl : slotW W i = true := by simp [slotW]; omega
        have hx2 : ¬ (n8 : Int) ≤ i := by omega
        cases ci : inW W i
        · have q1 : putB W y i = true := by simp [putB, ch, hsl, ci]
          obtain ⟨j, rfl, _⟩ := has_nat ch
          have q2 : putW W j i k q = ⟨W.heaps, W.cells.set i ⟨j, k, q⟩⟩ := by simp [putW, q1]
          rw [q1, q2]
          go_enter Try.func33, Try.ntmps33
          go_wp2_with fail
          clear hV
          refine (hH).mono ?_
          rintro e w1 ⟨rfl, hb⟩
          replace hs := hs.later hb
          clear hb
          clear k0 k1
          have k0 := hs.cell 0 rfl (o := 0) rfl
          have k1 := hs.cell 0 rfl (o := 1) rfl
          have hI := refin_any (i : Int) (h.later hs.below)
          rw [ci] at hI
          clear hH
          go_wp2_with fail
          refine (hI).mono ?_
          rintro e w2 ⟨rfl, hb⟩
          replace hs := hs.later hb
          clear hb
          clear k0 k1
          have k0 := hs.cell 0 rfl (o := 0) rfl
          have k1 := hs.cell 0 rfl (o := 1) rfl
          have e0 := hs.cell 1 rfl (o := 0) rfl
          have e1 := hs.cell 1 rfl (o := 1) rfl
          have hW := refwith_any i hi ⟨j, k, q⟩ (h.later hs.below)
          clear hI
          go_wp2_with fail
          clear k0 k1 e0 e1
          refine hW.mono ?_
          rintro e V2 ⟨hv2, cv2, rfl, hb, hN2, hF2⟩
          have hVs := hs.size
          have lR := hs.lt 2 rfl
          replace hs := hs.later hb
          obtain ⟨a7, c7, hhv2, _, _⟩ := hN2.hform
          generalize hn7 : WS.heaps _ = l7 at hhv2
          generalize hn77 : l7.length = n7 at hhv2
          subst hhv2
          obtain ⟨a6, c6, hcv2, _, _⟩ := hN2.cform
          generalize hn6 : WS.cells _ = l6 at hcv2
          generalize hn66 : l6.length = n6 at hcv2
          subst hcv2
          have z0 := hs.cell 2 rfl (o := 0) rfl
          have z1 := hs.cell 2 rfl (o := 1) rfl
          have g0 := hs.free 2 rfl 0
          have g1 := hs.free 2 rfl 1
          clear hb
          have hs3 := (hs.store 2 rfl 0 (.slice a7 n7 c7)).store 2 rfl 1 (.slice a6 n6 c6)
          go_wp2_with fail
          refine bodyPost_ret (v := .tuple #[.agg #[.slice a7 n7 c7, .slice a6 n6 c6], .bool true]) (by simp [results, Try.results33, go_sem, z0, z1]) rfl ⟨_, _, rfl, hs3.below, ?_, ?_⟩
          · refine hN2.keeps (G := (· = (w.heap.size + 1 + 1))) ?_ ?_
            · exact ((Keeps.refl (· = (w.heap.size + 1 + 1)) V2).setCell ⟨(w.heap.size + 1 + 1), 0, none⟩ (Or.inl rfl) _).setCell ⟨(w.heap.size + 1 + 1), 1, none⟩ (Or.inl rfl) _
            · intro b hb1 (hb2 : b = (w.heap.size + 1 + 1))
              have := hF2 b hb1
              rcases this with h1 | h1
              · have := h.lt b h1
                omega
              · omega
          · intro k hk
            exact (hF2 k hk).imp id (fun h1 => by omega)
        · have q1 : putB W y i = false := by simp [putB, ci]
          have q2 : putW W y i k q = W := by simp [putW, q1]
          rw [q1, q2]
          go_enter Try.func33, Try.ntmps33
          go_wp2_with fail
          clear hV
          refine (hH).mono ?_
          rintro e w1 ⟨rfl, hb⟩
          replace hs := hs.later hb
          clear hb
          clear k0 k1
          have k0 := hs.cell 0 rfl (o := 0) rfl
          have k1 := hs.cell 0 rfl (o := 1) rfl
          have hI := refin_any (i : Int) (h.later hs.below)
          rw [ci] at hI
          clear hH
          go_wp2_with fail
          refine (hI).mono ?_
          rintro e w2 ⟨rfl, hb⟩
          replace hs := hs.later hb
          clear hb
          clear k0 k1
          have k0 := hs.cell 0 rfl (o := 0) rfl
          have k1 := hs.cell 0 rfl (o := 1) rfl
          have z0 := hs.cell 2 rfl (o := 0) rfl
          have z1 := hs.cell 2 rfl (o := 1) rfl
          have g0 := hs.free 2 rfl 0
          have g1 := hs.free 2 rfl 1
          clear hI
          go_wp2_with fail
          refine bodyPost_ret (v := .tuple #[.agg #[.slice a9 n9 c9, .slice a8 n8 c8], .bool false]) (by simp [results, Try.results33, go_sem, z0, z1]) rfl ⟨_, _, rfl, ((hs.store 2 rfl 0 (.slice a9 n9 c9)).store 2 rfl 1 (.slice a8 n8 c8)).below, h.later ((hs.store 2 rfl 0 (.slice a9 n9 c9)).store 2 rfl 1 (.slice a8 n8 c8)).below, fun k hk => Or.inl hk⟩
      · have hx2 : (n8 : Int) ≤ x := by omega
        have q1 : putB W y x = false := by
          have : slotW W x = false := by simp [slotW]; omega
          simp [putB, this]
        have q2 : putW W y x k q = W := by simp [putW, q1]
        rw [q1, q2]
        go_enter Try.func33, Try.ntmps33
        go_wp2_with fail
        clear hV
        refine (hH).mono ?_
        rintro e w1 ⟨rfl, hb⟩
        replace hs := hs.later hb
        clear hb
        clear k0 k1
        have k0 := hs.cell 0 rfl (o := 0) rfl
        have k1 := hs.cell 0 rfl (o := 1) rfl
        have z0 := hs.cell 2 rfl (o := 0) rfl
        have z1 := hs.cell 2 rfl (o := 1) rfl
        have g0 := hs.free 2 rfl 0
        have g1 := hs.free 2 rfl 1
        clear hH
        go_wp2_with fail
        refine bodyPost_ret (v := .tuple #[.agg #[.slice a9 n9 c9, .slice a8 n8 c8], .bool false]) (by simp [results, Try.results33, go_sem, z0, z1]) rfl ⟨_, _, rfl, ((hs.store 2 rfl 0 (.slice a9 n9 c9)).store 2 rfl 1 (.slice a8 n8 c8)).below, h.later ((hs.store 2 rfl 0 (.slice a9 n9 c9)).store 2 rfl 1 (.slice a8 n8 c8)).below, fun k hk => Or.inl hk⟩
end
end Go.Proofs.Ytmoolbmbdnkooaa
