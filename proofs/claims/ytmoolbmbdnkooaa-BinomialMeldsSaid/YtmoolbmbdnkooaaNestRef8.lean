/- Merged of NestRef7, NestRef8. -/
import Derived.Test.YtmoolbmbdnkooaaNestRef6
namespace Go.Proofs.Ytmoolbmbdnkooaa
open Go.RowKit Go.Sort

theorem aheadC_same' {c d : CellD} (h1 : c.key = d.key) (h2 : c.seq = d.seq) (a b : Int) : aheadC c d a b = decide (a < b) := by simp [aheadC, h1, h2, lessB_self]
theorem aheadC_other' {c d : CellD} (h : ¬ (c.key = d.key ∧ c.seq = d.seq)) (a b : Int) : aheadC c d a b = lessB c.key c.seq d.key d.seq := by
  have : (c.key == d.key && c.seq == d.seq) = false := by
    rw [Bool.and_eq_false_iff]
    by_cases e : c.key = d.key
    · exact Or.inr (by simpa using fun e2 => h ⟨e, e2⟩)
    · exact Or.inl (by simpa using e)
  simp [aheadC, this]
section
variable {w : World} {hv cv : Value} {W : WS}
theorem refahead_any (a b : Int) (h : NestAt w hv cv W) : Calls Try.prog 51 #[.agg #[hv, cv], .int .i64 a, .int .i64 b] w fun e w' => e = .returned (.bool (aheadW W a b)) ∧ Below w.heap.size w w' := by
  obtain ⟨a9, c9, hhv, _, _⟩ := h.hform
  generalize hn9 : W.heaps.length = n9 at hhv
  subst hhv
  obtain ⟨a8, c8, hcv, b81, b82⟩ := h.cform
  have hcl := h.clen
  generalize hn8 : W.cells.length = n8 at hcv b81 hcl
  subst hcv
  obtain ⟨V, hV, hs⟩ : ∃ V, w.alloc (.cells #[.slice a9 n9 c9, .slice a8 n8 c8] 55) = V ∧ Stage (fun _ => False) w [Ob.box w.heap.size #[.slice a9 n9 c9, .slice a8 n8 c8] 55] V := ⟨_, rfl, (Stage.start w).alloc _ _⟩
  have k0 := hs.cell 0 rfl (o := 0) rfl
  have k1 := hs.cell 0 rfl (o := 1) rfl
  have hI := refin_any a (h.later hs.below)
  obtain ⟨ans, hans⟩ : ∃ ans, ans = aheadW W a b := ⟨_, rfl⟩
  rw [← hans]
  cases ca : inW W a
  · have e1 : aheadW W a b = false := by simp [aheadW, ca]
    rw [ca] at hI
    replace hans := Lib.hid (hans.trans e1)
    clear e1
    go_enter Try.func51, Try.ntmps51
    go_wp2_with fail
    refine hI.mono ?_
    rintro e w1 ⟨rfl, hb⟩
    go_wp2_with fail
    go_ret
    exact ⟨ret_bool hans.out.symm, (hs.later hb).below⟩
  · rw [ca] at hI
    replace hans := Lib.hid hans
    go_enter Try.func51, Try.ntmps51
    go_wp2_with fail
    clear hV k0 k1
    refine hI.mono ?_
    rintro e w1 ⟨rfl, hb⟩
    replace hs := hs.later hb
    have k0 := hs.cell 0 rfl (o := 0) rfl
    have k1 := hs.cell 0 rfl (o := 1) rfl
    have hJ := refin_any b (h.later hs.below)
    clear hI hb
    cases cb : inW W b
    · have e1 : aheadW W a b = false := by simp [aheadW, cb]
      rw [cb] at hJ
      replace hans := Lib.hid (hans.out.trans e1)
      clear e1
      go_wp2_with fail
      refine hJ.mono ?_
      rintro e w2 ⟨rfl, hb⟩
      go_wp2_with fail
      go_ret
      exact ⟨ret_bool hans.out.symm, (hs.later hb).below⟩
    · rw [cb] at hJ
      obtain ⟨i, rfl, hi, _⟩ := in_nat ca
      obtain ⟨j, rfl, hj, _⟩ := in_nat cb
      have e1 : aheadW W i j = aheadC (W.cells.getD i .off) (W.cells.getD j .off) i j := by simp only [aheadW, ca, cb, cell_nat W i hi, cell_nat W j hj]; rfl
      replace hans := Lib.hid (hans.out.trans e1)
      clear e1
      go_wp2_with fail
      clear k0 k1
      refine hJ.mono ?_
      rintro e w2 ⟨rfl, hb⟩
      replace hs := hs.later hb
      have k0 := hs.cell 0 rfl (o := 0) rfl
      have k1 := hs.cell 0 rfl (o := 1) rfl
      have hN := h.later hs.below
      obtain ⟨g, c8', hcc, hg, u0, u1, u2⟩ := hN.ccell i hi
      rw [hn8] at hcc
      cases hcc
      obtain ⟨g', c8', hcc, _, v0, v1, v2⟩ := hN.ccell j hj
      rw [hn8] at hcc
      cases hcc
      have l0 := hs.lt 0 rfl
      clear hJ hb ca cb
      have hL := fun w => refLess_any (W.cells.getD i .off).key (W.cells.getD i .off).seq (W.cells.getD j .off).key (W.cells.getD j .off).seq w
      generalize W.cells.getD i .off = c at *
      generalize W.cells.getD j .off = d at *
      have hs2 := (hs.alloc #[.int .i64 c.key, .int .u64 c.seq] 59).alloc' #[.int .i64 d.key, .int .u64 d.seq] 59 (b := w2.heap.size + 1) (size_alloc _ _)
      have hi8 : i < n8 := by omega
      have hj8 : j < n8 := by omega
      obtain ⟨V2, hV2, hs3⟩ : ∃ V2, (w2.alloc (.cells #[.int .i64 c.key, .int .u64 c.seq] 59)).alloc (.cells #[.int .i64 d.key, .int .u64 d.seq] 59) = V2 ∧ Stage (fun _ => False) w _ V2 := ⟨_, rfl, hs2⟩
      have x0 := hs3.cell 1 rfl (o := 0) rfl
      have x1 := hs3.cell 1 rfl (o := 1) rfl
      have y0 := hs3.cell 2 rfl (o := 0) rfl
      have y1 := hs3.cell 2 rfl (o := 1) rfl
      go_wp2_with fail
      clear hV2 x0 x1 y0 y1 k0 k1 u0 u1 u2 v0 v1 v2 hs2 l0 hN
      cases hl : lessB c.key c.seq d.key d.seq
      · rw [hl] at hL
        refine (hL _).mono ?_
        rintro e w3 ⟨rfl, hb⟩
        replace hs := hs3.later hb
        clear hs3 hb hL
        have x0 := hs.cell 1 rfl (o := 0) rfl
        have x1 := hs.cell 1 rfl (o := 1) rfl
        have y0 := hs.cell 2 rfl (o := 0) rfl
        have y1 := hs.cell 2 rfl (o := 1) rfl
        by_cases heq : c.key = d.key ∧ c.seq = d.seq
        · have q := hans.out
          rw [aheadC_same' heq.1 heq.2] at q
          rw [heq.1] at x0
          rw [heq.2] at x1
          replace q := Lib.hid q
          clear heq hl hans
          go_wp2_with fail
          go_ret
          exact ⟨ret_bool (by rw [q.out]; simp), hs.below⟩
        · have q := hans.out
          rw [aheadC_other' heq, hl] at q
          replace q := Lib.hid q
          by_cases q1 : c.key = d.key
          · have q2 : (c.seq == d.seq) = false := by simpa using fun e => heq ⟨q1, e⟩
            rw [q1] at x0
            clear heq hl hans q1
            go_wp2_with fail
            go_ret
            exact ⟨ret_bool q.out.symm, hs.below⟩
          · have q1' : (c.key == d.key) = false := by simpa using q1
            clear heq hl hans q1
            go_wp2_with fail
            go_ret
            exact ⟨ret_bool q.out.symm, hs.below⟩
      · rw [hl] at hL
        have q := hans.out
        have : aheadC c d i j = true := by simp [aheadC, hl]
        rw [this] at q
        replace q := Lib.hid q
        refine (hL _).mono ?_
        rintro e w3 ⟨rfl, hb⟩
        go_wp2_with fail
        go_ret
        exact ⟨ret_bool q.out.symm, (hs3.later hb).below⟩
end
end Go.Proofs.Ytmoolbmbdnkooaa

namespace Go.Proofs.Ytmoolbmbdnkooaa
open Go.RowKit Go.Sort

/-- One slot, behind a join. -/
def joinC (a b : Nat) (c : CellD) : CellD := if c.home = b then ⟨a, c.key, c.seq⟩ else c
theorem join_list {a b : Nat} {l m : List CellD} (hl : m.length = l.length) (h : ∀ i, i < l.length → m.getD i .off = joinC a b (l.getD i .off)) : m = l.map (joinC a b) := by
  apply List.ext_getElem
  · simpa using hl
  · intro n h1 h2
    have := h n (by omega)
    simp only [List.getD_eq_getElem?_getD] at this
    rw [List.getElem?_eq_getElem h1, List.getElem?_eq_getElem (by omega)] at this
    simpa using this
section
variable {w : World} {hv cv : Value} {W : WS}
theorem refjoin_no (a b : Int) (h : NestAt w hv cv W) (hj : joinBW W a b = false) : Calls Try.prog 37 #[.agg #[hv, cv], .int .i64 a, .int .i64 b] w (NestPost w hv cv W (fun v => .tuple #[v, .bool false])) := by
  obtain ⟨a9, c9, hhv, _, _⟩ := h.hform
  generalize hn9 : W.heaps.length = n9 at hhv
  subst hhv
  obtain ⟨a8, c8, hcv, _, _⟩ := h.cform
  generalize hn8 : W.cells.length = n8 at hcv
  subst hcv
  obtain ⟨V, hV, hs⟩ : ∃ V, (w.alloc (.cells #[.slice a9 n9 c9, .slice a8 n8 c8] 55)).alloc (.cells #[nestZ, nestZ] 55) = V ∧
      Stage (fun _ => False) w [Ob.box w.heap.size #[.slice a9 n9 c9, .slice a8 n8 c8] 55, Ob.box (w.heap.size + 1) #[nestZ, nestZ] 55] V :=
    ⟨_, rfl, ((Stage.start w).alloc _ _).alloc' _ _ (size_alloc _ _)⟩
  have k0 := hs.cell 0 rfl (o := 0) rfl
  have k1 := hs.cell 0 rfl (o := 1) rfl
  have hA := refhas_any a (h.later hs.below)
  cases ha : hasW W a
  · rw [ha] at hA
    clear hj
    go_enter Try.func37, Try.ntmps37
    go_wp2_with fail
    clear hV k0 k1
    refine hA.mono ?_
    rintro e w1 ⟨rfl, hb⟩
    replace hs := hs.later hb
    have k0 := hs.cell 0 rfl (o := 0) rfl
    have k1 := hs.cell 0 rfl (o := 1) rfl
    have z0 := hs.cell 1 rfl (o := 0) rfl
    have z1 := hs.cell 1 rfl (o := 1) rfl
    have g0 := hs.free 1 rfl 0
    have g1 := hs.free 1 rfl 1
    have hs3 := (hs.store 1 rfl 0 (.slice a9 n9 c9)).store 1 rfl 1 (.slice a8 n8 c8)
    go_wp2_with fail
    exact bodyPost_ret (v := .tuple #[.agg #[.slice a9 n9 c9, .slice a8 n8 c8], .bool false]) (by simp [results, Try.results37, go_sem, z0, z1]) rfl ⟨_, _, rfl, hs3.below, h.later hs3.below, fun k hk => Or.inl hk⟩
  · rw [ha] at hA
    cases hb9 : hasW W b
    · clear hj
      go_enter Try.func37, Try.ntmps37
      go_wp2_with fail
      clear hV k0 k1
      refine hA.mono ?_
      rintro e w1 ⟨rfl, hb⟩
      replace hs := hs.later hb
      have k0 := hs.cell 0 rfl (o := 0) rfl
      have k1 := hs.cell 0 rfl (o := 1) rfl
      have hB := refhas_any b (h.later hs.below)
      rw [hb9] at hB
      clear hA hb
      go_wp2_with fail
      clear k0 k1
      refine hB.mono ?_
      rintro e w2 ⟨rfl, hb⟩
      replace hs := hs.later hb
      have k0 := hs.cell 0 rfl (o := 0) rfl
      have k1 := hs.cell 0 rfl (o := 1) rfl
      have z0 := hs.cell 1 rfl (o := 0) rfl
      have z1 := hs.cell 1 rfl (o := 1) rfl
      have g0 := hs.free 1 rfl 0
      have g1 := hs.free 1 rfl 1
      have hs3 := (hs.store 1 rfl 0 (.slice a9 n9 c9)).store 1 rfl 1 (.slice a8 n8 c8)
      go_wp2_with fail
      exact bodyPost_ret (v := .tuple #[.agg #[.slice a9 n9 c9, .slice a8 n8 c8], .bool false]) (by simp [results, Try.results37, go_sem, z0, z1]) rfl ⟨_, _, rfl, hs3.below, h.later hs3.below, fun k hk => Or.inl hk⟩
    · have hab : a = b := by simpa [joinBW, ha, hb9] using hj
      subst hab
      clear hj
      go_enter Try.func37, Try.ntmps37
      go_wp2_with fail
      clear hV k0 k1
      refine hA.mono ?_
      rintro e w1 ⟨rfl, hb⟩
      replace hs := hs.later hb
      have k0 := hs.cell 0 rfl (o := 0) rfl
      have k1 := hs.cell 0 rfl (o := 1) rfl
      have hB := refhas_any a (h.later hs.below)
      rw [hb9] at hB
      clear hA hb
      go_wp2_with fail
      clear k0 k1
      refine hB.mono ?_
      rintro e w2 ⟨rfl, hb⟩
      replace hs := hs.later hb
      have k0 := hs.cell 0 rfl (o := 0) rfl
      have k1 := hs.cell 0 rfl (o := 1) rfl
      have z0 := hs.cell 1 rfl (o := 0) rfl
      have z1 := hs.cell 1 rfl (o := 1) rfl
      have g0 := hs.free 1 rfl 0
      have g1 := hs.free 1 rfl 1
      have hs3 := (hs.store 1 rfl 0 (.slice a9 n9 c9)).store 1 rfl 1 (.slice a8 n8 c8)
      go_wp2_with fail
      exact bodyPost_ret (v := .tuple #[.agg #[.slice a9 n9 c9, .slice a8 n8 c8], .bool false]) (by simp [results, Try.results37, go_sem, z0, z1]) rfl ⟨_, _, rfl, hs3.below, h.later hs3.below, fun k hk => Or.inl hk⟩
theorem refjoin_yes (a b : Nat) (h : NestAt w hv cv W) (hj : joinBW W a b = true) (hab : a ≠ b) (hbl : b < W.heaps.length) : Calls Try.prog 37 #[.agg #[hv, cv], .int .i64 a, .int .i64 b] w (NestPost w hv cv ⟨W.heaps.set b false, W.cells.map (joinC a b)⟩ (fun v => .tuple #[v, .bool true])) := by
  obtain ⟨a9, c9, hhv, b91, b92⟩ := h.hform
  have hl9 := h.hlen
  generalize hn9 : W.heaps.length = n9 at hhv hbl b91 hl9
  subst hhv
  obtain ⟨a8, c8, hcv, b81, b82⟩ := h.cform
  have hl8 := h.clen
  generalize hn8 : W.cells.length = n8 at hcv b81 hl8
  subst hcv
  have ha : hasW W a = true ∧ hasW W b = true := by
    simp only [joinBW, Bool.and_eq_true] at hj
    exact ⟨hj.1, hj.2.1⟩
  have hab' : ((a : Int) == b) = false := by simp; omega
  obtain ⟨V, hV, hs⟩ : ∃ V, (w.alloc (.cells #[.slice a9 n9 c9, .slice a8 n8 c8] 55)).alloc (.cells #[nestZ, nestZ] 55) = V ∧
      Stage (fun _ => False) w [Ob.box w.heap.size #[.slice a9 n9 c9, .slice a8 n8 c8] 55, Ob.box (w.heap.size + 1) #[nestZ, nestZ] 55] V :=
    ⟨_, rfl, ((Stage.start w).alloc _ _).alloc' _ _ (size_alloc _ _)⟩
  have k0 := hs.cell 0 rfl (o := 0) rfl
  have k1 := hs.cell 0 rfl (o := 1) rfl
  have hA := refhas_any (a : Int) (h.later hs.below)
  rw [ha.1] at hA
  go_enter Try.func37, Try.ntmps37
  go_wp2_with fail
  clear hV k0 k1
  refine hA.mono ?_
  rintro e w1 ⟨rfl, hb⟩
  replace hs := hs.later hb
  have k0 := hs.cell 0 rfl (o := 0) rfl
  have k1 := hs.cell 0 rfl (o := 1) rfl
  have hB := refhas_any (b : Int) (h.later hs.below)
  rw [ha.2] at hB
  clear hA hb
  go_wp2_with fail
  clear k0 k1
  refine hB.mono ?_
  rintro e w2 ⟨rfl, hb⟩
  replace hs := hs.later hb
  have k0 := hs.cell 0 rfl (o := 0) rfl
  have k1 := hs.cell 0 rfl (o := 1) rfl
  clear hB hb
  have hsE := hs.emptyRow' 4 1 (b := w2.heap.size) rfl
  have hE := (h.later hsE.below).hrow
  rw [hn9] at hE
  have l0 := hs.lt 0 rfl
  have hVs := hs.size
  go_wp2_with (at_builtin; refine hsE.wp_append 2 rfl rfl _ _ 48 rfl _ 1 Try.underlying48 info_bool rfl (by decide) (Nat.zero_le _) rfl _ n9 _ rfl (reads_own hE) (bools_one _) (by unfold maxLen; omega) (by omega) ?_)
  intro v1 w3 hs1 hv1
  have q1 : ∀ k, rowF v1 k → w.heap.size ≤ k := fun k hk => (hv1 k hk).elim (fun h' => Nat.le_trans hVs (Nat.le_of_eq (show w2.heap.size = k from by simpa [rowF, Value.ownBlock] using h'))) (fun h' => by omega)
  obtain ⟨g, cap, rfl, b1, b2, _, hg, hc, hf⟩ := owns_at boolC_len false (hs1.owns 2 rfl) hn9 (by omega)
  have u0 := hc b 0 _ hbl (by omega) rfl
  rw [Nat.mul_one, Nat.add_zero] at u0
  have f0 := hf b
  unfold maxLen at b2
  have hset : (cellsBy boolC W.heaps).set b (.bool false) = cellsBy boolC (W.heaps.set b false) := by
    have := cellsBy_set boolC 1 boolC_len false W.heaps b 0 (.bool false) false (by omega) (by omega) rfl
    rwa [Nat.mul_one, Nat.add_zero] at this
  obtain ⟨V3, hV3, hs2⟩ : ∃ V3, w3.setCell ⟨g, b, none⟩ (.bool false) = V3 ∧ Stage (fun _ => False) w _ V3 := ⟨_, rfl, hs1.storeRow 2 rfl b (.bool false) hset⟩
  have m0 := hs2.cell 0 rfl (o := 0) rfl
  have m1 := hs2.cell 0 rfl (o := 1) rfl
  have l1 := hs2.lt 0 rfl
  have hsE2 := hs2.emptyRow' 93 3 (b := V3.heap.size) rfl
  have hE2 := (h.later hsE2.below).crow
  rw [hn8] at hE2
  have hVs2 := hs2.size
  clear hsE hE k0 k1 hs hs1 hf hc hv1 hset l0
  go_wp2_with (at_builtin; refine hsE2.wp_append 3 rfl rfl _ _ 53 rfl _ 24 Try.underlying53 info_ncell rfl (by decide) (Nat.zero_le _) rfl _ n8 _ rfl (reads_own hE2) (ncells_one _) (by unfold maxLen; omega) (by omega) ?_)
  clear hV3
  intro v2 w4 hs3 hv2
  have q2 : ∀ k, rowF v2 k → w.heap.size ≤ k := fun k hk => (hv2 k hk).elim (fun h' => Nat.le_trans hVs2 (Nat.le_of_eq (show V3.heap.size = k from by simpa [rowF, Value.ownBlock] using h'))) (fun h' => by omega)
  obtain ⟨a2, c2, rfl, b3, b4⟩ := owns_form (hs3.owns 3 rfl)
  unfold maxLen at b4
  clear hv2 hsE2 hE2 m0 m1 l1 hs2 u0 f0
  replace hs3 : Stage (fun _ => False) w [Ob.box w.heap.size #[.slice a9 n9 c9, .slice a8 n8 c8] 55, Ob.box (w.heap.size + 1) #[nestZ, nestZ] 55, Ob.row 0 4 1 (.slice (some ⟨g, 0, none⟩) n9 cap) n9 (cellsBy boolC (W.heaps.set b false)), Ob.row 0 93 3 (.slice a2 n8 c2) n8 (cellsBy ncellC W.cells)] w4 := hs3
  go_wp2_with fail
  go_loopw [41] (fun i wr => ∃ (k : Nat) (L : List CellD), k ≤ n8 ∧ i = .int .i64 k ∧ L.length = n8 ∧ (∀ i, i < n8 → L.getD i .off = if i < k then joinC a b (W.cells.getD i .off) else W.cells.getD i .off) ∧ Stage (fun _ => False) w [Ob.box w.heap.size #[.slice a9 n9 c9, .slice a8 n8 c8] 55, Ob.box (w.heap.size + 1) #[nestZ, nestZ] 55, Ob.row 0 4 1 (.slice (some ⟨g, 0, none⟩) n9 cap) n9 (cellsBy boolC (W.heaps.set b false)), Ob.row 0 93 3 (.slice a2 n8 c2) n8 (cellsBy ncellC L)] wr) (fun i _ => n8 - (intOf i).toNat)
  case atStart => exact ⟨0, W.cells, Nat.zero_le _, rfl, hn8, fun i _ => by rw [if_neg (by omega)], hs3⟩
  case round =>
    clear hs3
    obtain ⟨k, L, hk, rfl, hL, hLi, hs⟩ := hrel
    by_cases hlt : k < n8
    · have hki : (k : Int) < n8 := by omega
      obtain ⟨g2, c2', hcc, d1, d2, _, hg2, hc, hf⟩ := owns_at ncellC_len .off (hs.owns 3 rfl) hL (by omega)
      cases hcc
      have u0 := hc k 0 _ hlt (by omega) rfl
      have u1 := hc k 1 _ hlt (by omega) rfl
      have u2 := hc k 2 _ hlt (by omega) rfl
      rw [Nat.add_zero] at u0
      have f0 := hf (k * 3)
      have f1 := hf (k * 3 + 1)
      have f2 := hf (k * 3 + 2)
      have hLk := hLi k hlt
      rw [if_neg (by omega)] at hLk
      have hput := ncellC_put L k (by omega)
      have hnext : ∀ M : List CellD, (∀ i, i < n8 → M.getD i .off = if k = i then joinC a b (W.cells.getD k .off) else L.getD i .off) → ∀ i, i < n8 → M.getD i .off = if i < k + 1 then joinC a b (W.cells.getD i .off) else W.cells.getD i .off := fun M hM i hi => by
        rw [hM i hi]
        by_cases e : k = i
        · subst e; rw [if_pos rfl, if_pos (by omega)]
        · rw [if_neg e, hLi i hi]
          by_cases e2 : i < k
          · rw [if_pos e2, if_pos (by omega)]
          · rw [if_neg e2, if_neg (by omega)]
      rw [← hLk] at hnext
      have hgs := fun i (hi : i < n8) x => getD_set' L k i x .off (by omega)
      generalize hcd : L.getD k .off = c at *
      clear hc hf hLk hLi
      by_cases e : c.home = b
      · have e' : ((c.home : Int) == b) = true := by rw [e]; simp
        have hst := ((hs.storeRow 3 rfl (k * 3) (.int .i64 a) rfl).storeRow 3 rfl (k * 3 + 1) (.int .i64 c.key) rfl).storeRow 3 rfl (k * 3 + 2) (.int .u64 c.seq) (hput ⟨a, c.key, c.seq⟩)
        have hn := hnext (L.set k ⟨a, c.key, c.seq⟩) (fun i hi => by rw [hgs i hi]; unfold joinC; rw [if_pos e])
        replace hn := Lib.hid hn
        have hll : (L.set k ⟨a, c.key, c.seq⟩).length = n8 := by rw [List.length_set]; exact hL
        clear hnext hgs hput e hcd
        go_wp2_with fail
        go_roundw
        case rel => exact ⟨k + 1, L.set k ⟨a, c.key, c.seq⟩, by omega, by go_num, hll, hn.out, (hst.alloc _ _).take 4⟩
        case measure => simp [intOf]; omega
      · have e' : ((c.home : Int) == b) = false := by simp; omega
        have hn := hnext L (fun i hi => by
          by_cases e2 : k = i
          · subst e2
            rw [if_pos rfl]
            unfold joinC
            rw [if_neg e]
            exact hcd
          · rw [if_neg e2])
        replace hn := Lib.hid hn
        clear hnext hgs hput e hcd
        go_wp2_with fail
        go_roundw
        case rel => exact ⟨k + 1, L, by omega, by go_num, hL, hn.out, (hs.alloc _ _).take 4⟩
        case measure => simp [intOf]; omega
    · have hki : ¬ (k : Int) < n8 := by omega
      obtain rfl : k = n8 := by omega
      have z0 := hs.cell 1 rfl (o := 0) rfl
      have z1 := hs.cell 1 rfl (o := 1) rfl
      have g0 := hs.free 1 rfl 0
      have g1 := hs.free 1 rfl 1
      have hs4 := (hs.store 1 rfl 0 (.slice (some ⟨g, 0, none⟩) n9 cap)).store 1 rfl 1 (.slice a2 k c2)
      have hm := join_list (a := a) (b := b) (hL.trans hn8.symm) (fun i hi => by
        have := hLi i (by omega)
        rwa [if_pos (by omega)] at this)
      have hrow := hs4.owns 3 rfl
      rw [hm] at hrow
      clear hm hLi
      go_wp2_with fail
      refine bodyPost_ret (v := .tuple #[.agg #[.slice (some ⟨g, 0, none⟩) n9 cap, .slice a2 k c2], .bool true]) (by simp [results, Try.results37, go_sem, z0, z1]) rfl ⟨_, _, rfl, hs4.below, ⟨?_, ?_, ?_, ?_⟩, ?_⟩
      · show World.ownsRow _ _ _ _ _ (W.heaps.set b false).length _
        rw [List.length_set, hn9]
        exact hs4.owns 2 rfl
      · show World.ownsRow _ _ _ _ _ (W.cells.map _).length _
        rw [List.length_map, hn8]
        exact hrow
      · show (W.heaps.set b false).length ≤ _
        rw [List.length_set, hn9]; exact hl9
      · show (W.cells.map _).length ≤ _
        rw [List.length_map, hn8]; exact hl8
      · rintro j (hj | hj)
        · exact Or.inr (q1 j hj)
        · exact Or.inr (q2 j hj)
theorem refjoin_any (a b : Int) (h : NestAt w hv cv W) : Calls Try.prog 37 #[.agg #[hv, cv], .int .i64 a, .int .i64 b] w (NestPost w hv cv (joinW W a b) (fun v => .tuple #[v, .bool (joinBW W a b)])) := by
  cases hj : joinBW W a b
  · have e1 : joinW W a b = W := by simp [joinW, hj]
    rw [e1]
    exact refjoin_no a b h hj
  · have e1 : joinW W a b = ⟨W.heaps.set b.toNat false, W.cells.map (joinC a.toNat b.toNat)⟩ := by unfold joinW; rw [if_pos hj]; rfl
    have hj' := hj
    simp only [joinBW, Bool.and_eq_true, decide_eq_true_eq] at hj'
    obtain ⟨i, rfl, i1, i2, _⟩ := has_nat hj'.1
    obtain ⟨j, rfl, j1, j2, _⟩ := has_nat hj'.2.1
    rw [e1]
    simp only [Int.toNat_natCast]
    exact refjoin_yes i j h hj (by have := hj'.2.2; omega) j2
end
end Go.Proofs.Ytmoolbmbdnkooaa
