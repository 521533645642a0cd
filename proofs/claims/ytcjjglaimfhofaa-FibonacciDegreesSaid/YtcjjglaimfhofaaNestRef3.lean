/- Merged of NestRef, NestRef2, NestRef3. -/
import Derived.Test.YtcjjglaimfhofaaMeth
import Derived.Test.YtcjjglaimfhofaaNestMath
import Derived.Test.YtcjjglaimfhofaaLess
import Derived.Deep.RegionLaw
import Derived.Deep.RegionHeld3
import Derived.Deep.DeepCutAuto
namespace Go.Proofs.Ytcjjglaimfhofaa
open Go.RowKit Go.Sort

def boolC (b : Bool) : List Value := [.bool b]
theorem boolC_len (b : Bool) : (boolC b).length = 1 := rfl
def ncellC (c : CellD) : List Value := [.int .i64 c.home, .int .i64 c.key, .int .u64 c.seq]
theorem ncellC_len (c : CellD) : (ncellC c).length = 3 := rfl
/-- hv and cv are the rows of the nest W; nobody writes them. -/
structure NestAt (w : World) (hv cv : Value) (W : WS) : Prop where
  hrow : w.ownsRow 0 4 1 hv W.heaps.length (cellsBy boolC W.heaps)
  crow : w.ownsRow 0 68 3 cv W.cells.length (cellsBy ncellC W.cells)
  hlen : W.heaps.length ≤ 65537
  clen : W.cells.length ≤ 65536
def nestF (hv cv : Value) : Nat → Prop := fun k => rowF hv k ∨ rowF cv k
theorem NestAt.keeps {G : Nat → Prop} {w w' : World} {hv cv : Value} {W : WS} (h : NestAt w hv cv W) (k : Keeps G w w') (hn : ∀ b, nestF hv cv b → ¬ G b) : NestAt w' hv cv W :=
  ⟨owns_keeps h.hrow k (fun b hb => hn b (Or.inl hb)), owns_keeps h.crow k (fun b hb => hn b (Or.inr hb)), h.hlen, h.clen⟩
theorem NestAt.later {w w' : World} {hv cv : Value} {W : WS} (h : NestAt w hv cv W) (hb : Below w.heap.size w w') : NestAt w' hv cv W :=
  h.keeps (Keeps.of_below_all hb (fun _ => False)) (fun _ _ x => x)
theorem NestAt.lt {w : World} {hv cv : Value} {W : WS} (h : NestAt w hv cv W) : ∀ k, nestF hv cv k → k < w.heap.size := by
  rintro k (hk | hk)
  · exact (h.hrow.lt k hk).2
  · exact (h.crow.lt k hk).2
/-- The document's nest as a thing. -/
def Ob.nest (hv cv : Value) (W : WS) : Ob where
  holds w F := NestAt w hv cv W ∧ F = nestF hv cv
  keeps := by rintro w w' F G ⟨h, rfl⟩ k hn; exact ⟨h.keeps k hn, rfl⟩
  lt := by rintro w F ⟨h, rfl⟩; exact h.lt
section
variable {w : World} {hv cv : Value} {W : WS}
theorem NestAt.hform (h : NestAt w hv cv W) : ∃ a c, hv = .slice a W.heaps.length c ∧ W.heaps.length ≤ c ∧ c ≤ 9223372036854775807 := by
  obtain ⟨a, c, h1, h2, h3⟩ := owns_form h.hrow
  exact ⟨a, c, h1, h2, by unfold maxLen at h3; omega⟩
theorem NestAt.cform (h : NestAt w hv cv W) : ∃ a c, cv = .slice a W.cells.length c ∧ W.cells.length ≤ c ∧ c ≤ 9223372036854775807 := by
  obtain ⟨a, c, h1, h2, h3⟩ := owns_form h.crow
  exact ⟨a, c, h1, h2, by unfold maxLen at h3; omega⟩
theorem NestAt.hcell (h : NestAt w hv cv W) (i : Nat) (hi : i < W.heaps.length) : ∃ g c, hv = .slice (some ⟨g, 0, none⟩) W.heaps.length c ∧ g < w.heap.size ∧ w.cell? ⟨g, i, none⟩ = some (.bool (W.heaps.getD i false)) := by
  obtain ⟨g, c, hv, _, _, _, h4, hc, _⟩ := owns_at boolC_len false h.hrow rfl (by omega)
  refine ⟨g, c, hv, h4, ?_⟩
  have := hc i 0 _ hi (by omega) rfl
  rwa [Nat.mul_one, Nat.add_zero] at this
theorem NestAt.ccell (h : NestAt w hv cv W) (i : Nat) (hi : i < W.cells.length) : ∃ g c, cv = .slice (some ⟨g, 0, none⟩) W.cells.length c ∧ g < w.heap.size ∧
    w.cell? ⟨g, i * 3, none⟩ = some (.int .i64 (W.cells.getD i .off).home) ∧ w.cell? ⟨g, i * 3 + 1, none⟩ = some (.int .i64 (W.cells.getD i .off).key) ∧ w.cell? ⟨g, i * 3 + 2, none⟩ = some (.int .u64 (W.cells.getD i .off).seq) := by
  obtain ⟨g, c, hv, _, _, _, h4, hc, _⟩ := owns_at ncellC_len .off h.crow rfl (by omega)
  exact ⟨g, c, hv, h4, hc i 0 _ hi (by omega) rfl, hc i 1 _ hi (by omega) rfl, hc i 2 _ hi (by omega) rfl⟩

theorem refhas_any (y : Int) (h : NestAt w hv cv W) : Calls Try.prog 26 #[.agg #[hv, cv], .int .i64 y] w fun e w' => e = .returned (.bool (hasW W y)) ∧ Below w.heap.size w w' := by
  have hB : Below w.heap.size w (w.alloc (.cells #[hv, cv] 59)) := (Below.refl _ _).alloc (Nat.le_refl _) _
  obtain ⟨a, c, rfl, h1, h2⟩ := h.hform
  have hl := h.hlen
  by_cases hy : 1 ≤ y
  · by_cases hy2 : y < W.heaps.length
    · obtain ⟨i, rfl⟩ : ∃ i : Nat, y = i := ⟨y.toNat, by omega⟩
      obtain ⟨g, c', hv', hg, hc⟩ := h.hcell i (by omega)
      cases hv'
      have e1 : hasW W i = W.heaps.getD i false := by simp [hasW]; omega
      rw [e1]
      generalize W.heaps.getD i false = z at *
      clear h e1
      generalize W.heaps.length = n at *
      have hi : i < n := by omega
      go_enter Try.func26, Try.ntmps26
      go_wp2
      go_ret
      exact ⟨rfl, hB⟩
    · have e1 : hasW W y = false := by simp [hasW]; omega
      rw [e1]
      clear h e1
      generalize W.heaps.length = n at *
      go_enter Try.func26, Try.ntmps26
      go_wp2
      go_ret
      exact ⟨rfl, hB⟩
  · have e1 : hasW W y = false := by simp [hasW]; omega
    rw [e1]
    clear h e1
    generalize W.heaps.length = n at *
    go_enter Try.func26, Try.ntmps26
    go_wp2
    go_ret
    exact ⟨rfl, hB⟩
theorem refin_any (x : Int) (h : NestAt w hv cv W) : Calls Try.prog 22 #[.agg #[hv, cv], .int .i64 x] w fun e w' => e = .returned (.bool (inW W x)) ∧ Below w.heap.size w w' := by
  have hB : Below w.heap.size w (w.alloc (.cells #[hv, cv] 59)) := (Below.refl _ _).alloc (Nat.le_refl _) _
  obtain ⟨a, c, rfl, h1, h2⟩ := h.cform
  have hl := h.clen
  by_cases hx : 0 ≤ x
  · by_cases hx2 : x < W.cells.length
    · obtain ⟨i, rfl⟩ : ∃ i : Nat, x = i := ⟨x.toNat, by omega⟩
      obtain ⟨g, c', hv', hg, hc, _, _⟩ := h.ccell i (by omega)
      cases hv'
      have e1 : inW W i = decide (0 < (W.cells.getD i .off).home) := by
        rw [inW, cell_nat W i (by omega)]
        by_cases e : (W.cells.getD i .off).home = 0
        · rw [e]; rfl
        · rw [bne_iff_ne.2 e, decide_eq_true (by omega)]
      rw [e1]
      generalize W.cells.getD i .off = z at *
      clear h e1
      generalize W.cells.length = n at *
      have hi : i < n := by omega
      go_enter Try.func22, Try.ntmps22
      go_wp2
      go_ret
      exact ⟨rfl, hB⟩
    · have e1 : inW W x = false := by
        have : slotW W x = false := by simp [slotW]; omega
        rw [inW, cell_off this]; rfl
      rw [e1]
      clear h e1
      generalize W.cells.length = n at *
      go_enter Try.func22, Try.ntmps22
      go_wp2
      go_ret
      exact ⟨rfl, hB⟩
  · have e1 : inW W x = false := by
      have : slotW W x = false := by simp [slotW]; omega
      rw [inW, cell_off this]; rfl
    rw [e1]
    clear h e1
    generalize W.cells.length = n at *
    go_enter Try.func22, Try.ntmps22
    go_wp2
    go_ret
    exact ⟨rfl, hB⟩
end
end Go.Proofs.Ytcjjglaimfhofaa

namespace Go.Proofs.Ytcjjglaimfhofaa
open Go.RowKit Go.Sort

def NestPost (w : World) (hv cv : Value) (W' : WS) (res : Value → Value) (e : Ending) (w' : World) : Prop :=
  ∃ hv' cv', e = .returned (res (.agg #[hv', cv'])) ∧ Below w.heap.size w w' ∧ NestAt w' hv' cv' W' ∧ ∀ k, nestF hv' cv' k → nestF hv cv k ∨ w.heap.size ≤ k
theorem info_ncell : (Try.prog.info? 68).map (fun i => (i.zero, i.size, i.bytes)) = some (some (.agg #[.int .i64 0, .int .i64 0, .int .u64 0]), 3, 24) := by kernel_rfl
theorem info_bool : (Try.prog.info? 4).map (fun i => (i.zero, i.size, i.bytes)) = some (some (.bool false), 1, 1) := by kernel_rfl
theorem ncells_one (l : List CellD) : ∀ u ∈ cellsBy ncellC l, u.oneCell' = true := by
  intro u hu
  unfold cellsBy at hu
  rw [List.mem_flatMap] at hu
  obtain ⟨p, _, hp⟩ := hu
  simp only [ncellC, List.mem_cons, List.not_mem_nil, or_false] at hp
  rcases hp with rfl | rfl | rfl <;> rfl
theorem bools_one (l : List Bool) : ∀ u ∈ cellsBy boolC l, u.oneCell' = true := by
  intro u hu
  unfold cellsBy at hu
  rw [List.mem_flatMap] at hu
  obtain ⟨p, _, hp⟩ := hu
  simp only [boolC, List.mem_cons, List.not_mem_nil, or_false] at hp
  subst hp; rfl
theorem ncellC_put (l : List CellD) (i : Nat) (hi : i < l.length) (c : CellD) : (((cellsBy ncellC l).set (i * 3) (.int .i64 c.home)).set (i * 3 + 1) (.int .i64 c.key)).set (i * 3 + 2) (.int .u64 c.seq) = cellsBy ncellC (l.set i c) := by
  obtain ⟨h, k, q⟩ := c
  have s0 := cellsBy_set ncellC 3 ncellC_len .off l i 0 (.int .i64 h) ⟨h, (l.getD i .off).key, (l.getD i .off).seq⟩ hi (by omega) rfl
  rw [Nat.add_zero] at s0
  rw [s0]
  have s1 := cellsBy_set ncellC 3 ncellC_len .off (l.set i ⟨h, (l.getD i .off).key, (l.getD i .off).seq⟩) i 1 (.int .i64 k) ⟨h, k, (l.getD i .off).seq⟩ (by simpa using hi) (by omega) (by rw [getD_set' _ _ _ _ _ hi, if_pos rfl]; rfl)
  rw [s1, List.set_set]
  have s2 := cellsBy_set ncellC 3 ncellC_len .off (l.set i ⟨h, k, (l.getD i .off).seq⟩) i 2 (.int .u64 q) ⟨h, k, q⟩ (by simpa using hi) (by omega) (by rw [getD_set' _ _ _ _ _ hi, if_pos rfl]; rfl)
  rw [s2, List.set_set]
abbrev nestZ : Value := .slice none 0 0
section
variable {w : World} {hv cv : Value} {W : WS}
theorem refwith_any (i : Nat) (hi : i < W.cells.length) (c : CellD) (h : NestAt w hv cv W) :
    Calls Try.prog 61 #[.agg #[hv, cv], .int .i64 i, .agg #[.int .i64 c.home, .int .i64 c.key, .int .u64 c.seq]] w (NestPost w hv cv ⟨W.heaps, W.cells.set i c⟩ id) := by
  obtain ⟨a9, c9, hhv, _, _⟩ := h.hform
  generalize W.heaps.length = n9 at hhv
  subst hhv
  obtain ⟨V, hV, hs⟩ : ∃ V, ((w.alloc (.cells #[.slice a9 n9 c9, cv] 59)).alloc (.cells #[.int .i64 c.home, .int .i64 c.key, .int .u64 c.seq] 68)).alloc (.cells #[nestZ, nestZ] 59) = V ∧
      Stage (fun _ => False) w [Ob.box w.heap.size #[.slice a9 n9 c9, cv] 59, Ob.box (w.heap.size + 1) #[.int .i64 c.home, .int .i64 c.key, .int .u64 c.seq] 68, Ob.box (w.heap.size + 1 + 1) #[nestZ, nestZ] 59] V :=
    ⟨_, rfl, (((Stage.start w).alloc _ _).alloc' _ _ (size_alloc _ _)).alloc' _ _ (by rw [size_alloc, size_alloc])⟩
  have hsE := hs.emptyRow' 68 3 (b := V.heap.size) rfl
  have hE := h.later hsE.below
  obtain ⟨a0, c0, hcv, _, _⟩ := h.cform
  have k1 := hs.cell 0 rfl (o := 1) rfl
  have l0 := hs.lt 0 rfl
  have hn := h.clen
  subst hcv
  go_enter Try.func61, Try.ntmps61
  go_wp2_with (at_builtin; refine hsE.wp_append 3 rfl rfl _ _ 57 rfl _ 24 Try.underlying57 info_ncell rfl (by decide) (Nat.zero_le _) rfl _ _ _ rfl (reads_own hE.crow) (ncells_one _) (by unfold maxLen; omega) (by omega) ?_)
  intro v1 w1 hs1 hv1
  have hVw := hs.size
  obtain ⟨g, cap, rfl, b1, b2, _, hg, hc, hf⟩ := owns_at ncellC_len .off (hs1.owns 3 rfl) rfl (by omega)
  have u0 := hc i 0 _ hi (by omega) rfl
  have u1 := hc i 1 _ hi (by omega) rfl
  have u2 := hc i 2 _ hi (by omega) rfl
  rw [Nat.add_zero] at u0
  have f0 := hf (i * 3)
  have f1 := hf (i * 3 + 1)
  have f2 := hf (i * 3 + 2)
  have j0 := hs1.cell 1 rfl (o := 0) rfl
  have j1 := hs1.cell 1 rfl (o := 1) rfl
  have j2 := hs1.cell 1 rfl (o := 2) rfl
  obtain ⟨V2, hV2, hs2⟩ : ∃ V2, ((w1.setCell ⟨g, i * 3, none⟩ (.int .i64 c.home)).setCell ⟨g, i * 3 + 1, none⟩ (.int .i64 c.key)).setCell ⟨g, i * 3 + 2, none⟩ (.int .u64 c.seq) = V2 ∧ Stage (fun _ => False) w _ V2 :=
    ⟨_, rfl, ((hs1.storeRow 3 rfl (i * 3) (.int .i64 c.home) rfl).storeRow 3 rfl (i * 3 + 1) (.int .i64 c.key) rfl).storeRow 3 rfl (i * 3 + 2) (.int .u64 c.seq) (ncellC_put W.cells i hi c)⟩
  have m0 := hs2.cell 0 rfl (o := 0) rfl
  have g0 := hs2.free 2 rfl 0
  have g1 := hs2.free 2 rfl 1
  have z0 := hs2.cell 2 rfl (o := 0) rfl
  have z1 := hs2.cell 2 rfl (o := 1) rfl
  have hs3 := (hs2.store 2 rfl 0 (.slice a9 n9 c9)).store 2 rfl 1 (.slice (some ⟨g, 0, none⟩) W.cells.length cap)
  unfold maxLen at b2
  have hh := h.later hs3.below
  have hrow := hs3.owns 3 rfl
  have hcl := h.clen
  clear hs hsE hE hs1 hs2 hf hc h
  generalize hln : W.cells.length = n at *
  go_wp2_with fail
  refine bodyPost_ret (v := .agg #[.slice a9 n9 c9, .slice (some ⟨g, 0, none⟩) n cap]) (by simp [results, Try.results61, go_sem, z0, z1]) rfl ⟨.slice a9 n9 c9, .slice (some ⟨g, 0, none⟩) n cap, rfl, hs3.below, ⟨hh.hrow, ?_, hh.hlen, by simpa [hln] using hcl⟩, ?_⟩
  · show World.ownsRow _ _ _ _ _ (W.cells.set i c).length _
    rw [List.length_set, hln]
    exact hrow
  · rintro k (hk | hk)
    · exact Or.inl (Or.inl hk)
    · refine Or.inr ?_
      rcases hv1 k hk with h1 | h1
      · have : V.heap.size = k := by simpa [rowF, Value.ownBlock] using h1
        omega
      · omega
end
end Go.Proofs.Ytcjjglaimfhofaa

namespace Go.Proofs.Ytcjjglaimfhofaa
open Go.RowKit Go.Sort

section
variable {w : World} {hv cv : Value} {W : WS}
theorem refdrop_any (x : Int) (h : NestAt w hv cv W) : Calls Try.prog 43 #[.agg #[hv, cv], .int .i64 x] w (NestPost w hv cv (dropW W x) (fun v => .tuple #[v, .bool (inW W x)])) := by
  obtain ⟨a9, c9, hhv, _, _⟩ := h.hform
  generalize hn9 : W.heaps.length = n9 at hhv
  subst hhv
  obtain ⟨a8, c8, hcv, b81, b82⟩ := h.cform
  have hcl := h.clen
  generalize hn8 : W.cells.length = n8 at hcv b81 hcl
  subst hcv
  obtain ⟨V, hV, hs⟩ : ∃ V, (w.alloc (.cells #[.slice a9 n9 c9, .slice a8 n8 c8] 59)).alloc (.cells #[nestZ, nestZ] 59) = V ∧
      Stage (fun _ => False) w [Ob.box w.heap.size #[.slice a9 n9 c9, .slice a8 n8 c8] 59, Ob.box (w.heap.size + 1) #[nestZ, nestZ] 59] V :=
    ⟨_, rfl, ((Stage.start w).alloc _ _).alloc' _ _ (size_alloc _ _)⟩
  have hI := refin_any x (h.later hs.below)
  have k0 := hs.cell 0 rfl (o := 0) rfl
  have k1 := hs.cell 0 rfl (o := 1) rfl
  cases ci : inW W x
  · have q1 : dropW W x = W := by simp [dropW, ci]
    rw [ci] at hI
    rw [q1]
    go_enter Try.func43, Try.ntmps43
    go_wp2_with fail
    clear hV
    refine (hI).mono ?_
    rintro e w1 ⟨rfl, hb⟩
    replace hs := hs.later hb
    clear hb
    clear k0 k1
    have k0 := hs.cell 0 rfl (o := 0) rfl
    have k1 := hs.cell 0 rfl (o := 1) rfl
    have z0 := hs.cell 1 rfl (o := 0) rfl
    have z1 := hs.cell 1 rfl (o := 1) rfl
    have g0 := hs.free 1 rfl 0
    have g1 := hs.free 1 rfl 1
    clear hI
    go_wp2_with fail
    refine bodyPost_ret (v := .tuple #[.agg #[.slice a9 n9 c9, .slice a8 n8 c8], .bool false]) (by simp [results, Try.results43, go_sem, z0, z1]) rfl ⟨_, _, rfl, ((hs.store 1 rfl 0 (.slice a9 n9 c9)).store 1 rfl 1 (.slice a8 n8 c8)).below, h.later ((hs.store 1 rfl 0 (.slice a9 n9 c9)).store 1 rfl 1 (.slice a8 n8 c8)).below, fun k hk => Or.inl hk⟩
  · obtain ⟨i, rfl, hi, _⟩ := in_nat ci
    have q1 : dropW W i = ⟨W.heaps, W.cells.set i .off⟩ := by simp [dropW, ci]
    rw [ci] at hI
    rw [q1]
    go_enter Try.func43, Try.ntmps43
    go_wp2_with fail
    clear hV
    refine (hI).mono ?_
    rintro e w1 ⟨rfl, hb⟩
    replace hs := hs.later hb
    clear hb
    clear k0 k1
    have k0 := hs.cell 0 rfl (o := 0) rfl
    have k1 := hs.cell 0 rfl (o := 1) rfl
    have hW := refwith_any i hi .off (h.later hs.below)
    clear hI
    go_wp2_with fail
    clear k0 k1
    refine hW.mono ?_
    rintro e V2 ⟨hv2, cv2, rfl, hb, hN2, hF2⟩
    have hVs := hs.size
    have lR := hs.lt 1 rfl
    replace hs := hs.later hb
    obtain ⟨a7, c7, hhv2, _, _⟩ := hN2.hform
    generalize hn7 : WS.heaps _ = l7 at hhv2
    generalize hn77 : l7.length = n7 at hhv2
    subst hhv2
    obtain ⟨a6, c6, hcv2, _, _⟩ := hN2.cform
    generalize hn6 : WS.cells _ = l6 at hcv2
    generalize hn66 : l6.length = n6 at hcv2
    subst hcv2
    have z0 := hs.cell 1 rfl (o := 0) rfl
    have z1 := hs.cell 1 rfl (o := 1) rfl
    have g0 := hs.free 1 rfl 0
    have g1 := hs.free 1 rfl 1
    clear hb
    have hs3 := (hs.store 1 rfl 0 (.slice a7 n7 c7)).store 1 rfl 1 (.slice a6 n6 c6)
    go_wp2_with fail
    refine bodyPost_ret (v := .tuple #[.agg #[.slice a7 n7 c7, .slice a6 n6 c6], .bool true]) (by simp [results, Try.results43, go_sem, z0, z1]) rfl ⟨_, _, rfl, hs3.below, ?_, ?_⟩
    · refine hN2.keeps (G := (· = (w.heap.size + 1))) ?_ ?_
      · exact ((Keeps.refl (· = (w.heap.size + 1)) V2).setCell ⟨(w.heap.size + 1), 0, none⟩ (Or.inl rfl) _).setCell ⟨(w.heap.size + 1), 1, none⟩ (Or.inl rfl) _
      · intro b hb1 (hb2 : b = (w.heap.size + 1))
        have := hF2 b hb1
        rcases this with h1 | h1
        · have := h.lt b h1
          omega
        · omega
    · intro k hk
      exact (hF2 k hk).imp id (fun h1 => by omega)
set_option maxHeartbeats 1000000 in
theorem refput_any (y x k q : Int) (h : NestAt w hv cv W) : Calls Try.prog 41 #[.agg #[hv, cv], .int .i64 y, .int .i64 x, .agg #[.int .i64 k, .int .u64 q]] w (NestPost w hv cv (putW W y x k q) (fun v => .tuple #[v, .bool (putB W y x)])) := by
  obtain ⟨a9, c9, hhv, _, _⟩ := h.hform
  generalize hn9 : W.heaps.length = n9 at hhv
  subst hhv
  obtain ⟨a8, c8, hcv, b81, b82⟩ := h.cform
  have hcl := h.clen
  generalize hn8 : W.cells.length = n8 at hcv b81 hcl
  subst hcv
  obtain ⟨V, hV, hs⟩ : ∃ V, ((w.alloc (.cells #[.slice a9 n9 c9, .slice a8 n8 c8] 59)).alloc (.cells #[.int .i64 k, .int .u64 q] 63)).alloc (.cells #[nestZ, nestZ] 59) = V ∧
      Stage (fun _ => False) w [Ob.box w.heap.size #[.slice a9 n9 c9, .slice a8 n8 c8] 59, Ob.box (w.heap.size + 1) #[.int .i64 k, .int .u64 q] 63, Ob.box (w.heap.size + 1 + 1) #[nestZ, nestZ] 59] V :=
    ⟨_, rfl, (((Stage.start w).alloc _ _).alloc' _ _ (size_alloc _ _)).alloc' _ _ (by rw [size_alloc, size_alloc])⟩
  have hH := refhas_any y (h.later hs.below)
  have k0 := hs.cell 0 rfl (o := 0) rfl
  have k1 := hs.cell 0 rfl (o := 1) rfl
  cases ch : hasW W y
  · have q1 : putB W y x = false := by simp [putB, ch]
    have q2 : putW W y x k q = W := by simp [putW, q1]
    rw [ch] at hH
    rw [q1, q2]
    go_enter Try.func41, Try.ntmps41
    go_wp2_with fail
    clear hV
    refine (hH).mono ?_
    rintro e w1 ⟨rfl, hb⟩
    replace hs := hs.later hb
    clear hb
    clear k0 k1
    have k0 := hs.cell 0 rfl (o := 0) rfl
    have k1 := hs.cell 0 rfl (o := 1) rfl
    have z0 := hs.cell 2 rfl (o := 0) rfl
    have z1 := hs.cell 2 rfl (o := 1) rfl
    have g0 := hs.free 2 rfl 0
    have g1 := hs.free 2 rfl 1
    clear hH
    go_wp2_with fail
    refine bodyPost_ret (v := .tuple #[.agg #[.slice a9 n9 c9, .slice a8 n8 c8], .bool false]) (by simp [results, Try.results41, go_sem, z0, z1]) rfl ⟨_, _, rfl, ((hs.store 2 rfl 0 (.slice a9 n9 c9)).store 2 rfl 1 (.slice a8 n8 c8)).below, h.later ((hs.store 2 rfl 0 (.slice a9 n9 c9)).store 2 rfl 1 (.slice a8 n8 c8)).below, fun k hk => Or.inl hk⟩
  · rw [ch] at hH
    by_cases hx0 : x < 0
    · have q1 : putB W y x = false := by
        have : slotW W x = false := by simp [slotW]; omega
        simp [putB, this]
      have q2 : putW W y x k q = W := by simp [putW, q1]
      rw [q1, q2]
      go_enter Try.func41, Try.ntmps41
      go_wp2_with fail
      clear hV
      refine (hH).mono ?_
      rintro e w1 ⟨rfl, hb⟩
      replace hs := hs.later hb
      clear hb
      clear k0 k1
      have k0 := hs.cell 0 rfl (o := 0) rfl
      have k1 := hs.cell 0 rfl (o := 1) rfl
      have z0 := hs.cell 2 rfl (o := 0) rfl
      have z1 := hs.cell 2 rfl (o := 1) rfl
      have g0 := hs.free 2 rfl 0
      have g1 := hs.free 2 rfl 1
      clear hH
      go_wp2_with fail
      refine bodyPost_ret (v := .tuple #[.agg #[.slice a9 n9 c9, .slice a8 n8 c8], .bool false]) (by simp [results, Try.results41, go_sem, z0, z1]) rfl ⟨_, _, rfl, ((hs.store 2 rfl 0 (.slice a9 n9 c9)).store 2 rfl 1 (.slice a8 n8 c8)).below, h.later ((hs.store 2 rfl 0 (.slice a9 n9 c9)).store 2 rfl 1 (.slice a8 n8 c8)).below, fun k hk => Or.inl hk⟩
    · by_cases hx1 : x < n8
      · obtain ⟨i, rfl⟩ : ∃ i : Nat, x = i := ⟨x.toNat, by omega⟩
        have hi : i < W.cells.length := by omega
        have hsl : slotW W i = true := by simp [slotW]; omega
        have hx2 : ¬ (n8 : Int) ≤ i := by omega
        cases ci : inW W i
        · have q1 : putB W y i = true := by simp [putB, ch, hsl, ci]
          obtain ⟨j, rfl, _⟩ := has_nat ch
          have q2 : putW W j i k q = ⟨W.heaps, W.cells.set i ⟨j, k, q⟩⟩ := by simp [putW, q1]
          rw [q1, q2]
          go_enter Try.func41, Try.ntmps41
          go_wp2_with fail
          clear hV
          refine (hH).mono ?_
          rintro e w1 ⟨rfl, hb⟩
          replace hs := hs.later hb
          clear hb
          clear k0 k1
          have k0 := hs.cell 0 rfl (o := 0) rfl
          have k1 := hs.cell 0 rfl (o := 1) rfl
          have hI := refin_any (i : Int) (h.later hs.below)
          rw [ci] at hI
          clear hH
          go_wp2_with fail
          refine (hI).mono ?_
          rintro e w2 ⟨rfl, hb⟩
          replace hs := hs.later hb
          clear hb
          clear k0 k1
          have k0 := hs.cell 0 rfl (o := 0) rfl
          have k1 := hs.cell 0 rfl (o := 1) rfl
          have e0 := hs.cell 1 rfl (o := 0) rfl
          have e1 := hs.cell 1 rfl (o := 1) rfl
          have hW := refwith_any i hi ⟨j, k, q⟩ (h.later hs.below)
          clear hI
          go_wp2_with fail
          clear k0 k1 e0 e1
          refine hW.mono ?_
          rintro e V2 ⟨hv2, cv2, rfl, hb, hN2, hF2⟩
          have hVs := hs.size
          have lR := hs.lt 2 rfl
          replace hs := hs.later hb
          obtain ⟨a7, c7, hhv2, _, _⟩ := hN2.hform
          generalize hn7 : WS.heaps _ = l7 at hhv2
          generalize hn77 : l7.length = n7 at hhv2
          subst hhv2
          obtain ⟨a6, c6, hcv2, _, _⟩ := hN2.cform
          generalize hn6 : WS.cells _ = l6 at hcv2
          generalize hn66 : l6.length = n6 at hcv2
          subst hcv2
          have z0 := hs.cell 2 rfl (o := 0) rfl
          have z1 := hs.cell 2 rfl (o := 1) rfl
          have g0 := hs.free 2 rfl 0
          have g1 := hs.free 2 rfl 1
          clear hb
          have hs3 := (hs.store 2 rfl 0 (.slice a7 n7 c7)).store 2 rfl 1 (.slice a6 n6 c6)
          go_wp2_with fail
          refine bodyPost_ret (v := .tuple #[.agg #[.slice a7 n7 c7, .slice a6 n6 c6], .bool true]) (by simp [results, Try.results41, go_sem, z0, z1]) rfl ⟨_, _, rfl, hs3.below, ?_, ?_⟩
          · refine hN2.keeps (G := (· = (w.heap.size + 1 + 1))) ?_ ?_
            · exact ((Keeps.refl (· = (w.heap.size + 1 + 1)) V2).setCell ⟨(w.heap.size + 1 + 1), 0, none⟩ (Or.inl rfl) _).setCell ⟨(w.heap.size + 1 + 1), 1, none⟩ (Or.inl rfl) _
            · intro b hb1 (hb2 : b = (w.heap.size + 1 + 1))
              have := hF2 b hb1
              rcases this with h1 | h1
              · have := h.lt b h1
                omega
              · omega
          · intro k hk
            exact (hF2 k hk).imp id (fun h1 => by omega)
        · have q1 : putB W y i = false := by simp [putB, ci]
          have q2 : putW W y i k q = W := by simp [putW, q1]
          rw [q1, q2]
          go_enter Try.func41, Try.ntmps41
          go_wp2_with fail
          clear hV
          refine (hH).mono ?_
          rintro e w1 ⟨rfl, hb⟩
          replace hs := hs.later hb
          clear hb
          clear k0 k1
          have k0 := hs.cell 0 rfl (o := 0) rfl
          have k1 := hs.cell 0 rfl (o := 1) rfl
          have hI := refin_any (i : Int) (h.later hs.below)
          rw [ci] at hI
          clear hH
          go_wp2_with fail
          refine (hI).mono ?_
          rintro e w2 ⟨rfl, hb⟩
          replace hs := hs.later hb
          clear hb
          clear k0 k1
          have k0 := hs.cell 0 rfl (o := 0) rfl
          have k1 := hs.cell 0 rfl (o := 1) rfl
          have z0 := hs.cell 2 rfl (o := 0) rfl
          have z1 := hs.cell 2 rfl (o := 1) rfl
          have g0 := hs.free 2 rfl 0
          have g1 := hs.free 2 rfl 1
          clear hI
          go_wp2_with fail
          refine bodyPost_ret (v := .tuple #[.agg #[.slice a9 n9 c9, .slice a8 n8 c8], .bool false]) (by simp [results, Try.results41, go_sem, z0, z1]) rfl ⟨_, _, rfl, ((hs.store 2 rfl 0 (.slice a9 n9 c9)).store 2 rfl 1 (.slice a8 n8 c8)).below, h.later ((hs.store 2 rfl 0 (.slice a9 n9 c9)).store 2 rfl 1 (.slice a8 n8 c8)).below, fun k hk => Or.inl hk⟩
      · have hx2 : (n8 : Int) ≤ x := by omega
        have q1 : putB W y x = false := by
          have : slotW W x = false := by simp [slotW]; omega
          simp [putB, this]
        have q2 : putW W y x k q = W := by simp [putW, q1]
        rw [q1, q2]
        go_enter Try.func41, Try.ntmps41
        go_wp2_with fail
        clear hV
        refine (hH).mono ?_
        rintro e w1 ⟨rfl, hb⟩
        replace hs := hs.later hb
        clear hb
        clear k0 k1
        have k0 := hs.cell 0 rfl (o := 0) rfl
        have k1 := hs.cell 0 rfl (o := 1) rfl
        have z0 := hs.cell 2 rfl (o := 0) rfl
        have z1 := hs.cell 2 rfl (o := 1) rfl
        have g0 := hs.free 2 rfl 0
        have g1 := hs.free 2 rfl 1
        clear hH
        go_wp2_with fail
        refine bodyPost_ret (v := .tuple #[.agg #[.slice a9 n9 c9, .slice a8 n8 c8], .bool false]) (by simp [results, Try.results41, go_sem, z0, z1]) rfl ⟨_, _, rfl, ((hs.store 2 rfl 0 (.slice a9 n9 c9)).store 2 rfl 1 (.slice a8 n8 c8)).below, h.later ((hs.store 2 rfl 0 (.slice a9 n9 c9)).store 2 rfl 1 (.slice a8 n8 c8)).below, fun k hk => Or.inl hk⟩
end
end Go.Proofs.Ytcjjglaimfhofaa
