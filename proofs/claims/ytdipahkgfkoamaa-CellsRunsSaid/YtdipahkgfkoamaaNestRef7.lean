/- What the document's Ahead and Join return. -/
import Derived.Test.YtdipahkgfkoamaaNestRef6
namespace Go.Proofs.Ytdipahkgfkoamaa
open Go.RowKit Go.Sort

theorem aheadC_same' {c d : CellD} (h1 : c.key = d.key) (h2 : c.seq = d.seq) (a b : Int) : aheadC c d a b = decide (a < b) := by simp [aheadC, h1, h2, lessB_self]
theorem aheadC_other' {c d : CellD} (h : ¬ (c.key = d.key ∧ c.seq = d.seq)) (a b : Int) : aheadC c d a b = lessB c.key c.seq d.key d.seq := by
  have : (c.key == d.key && c.seq == d.seq) = false := by
    rw [Bool.and_eq_false_iff]
    by_cases e : c.key = d.key
    · exact Or.inr (by simpa using fun e2 => h ⟨e, e2⟩)
    · exact Or.inl (by simpa using e)
  simp [aheadC, this]
section
variable {w : World} {hv cv : Value} {W : WS}
theorem refahead_any (a b : Int) (h : NestAt w hv cv W) : Calls Try.prog 23 #[.agg #[hv, cv], .int .i64 a, .int .i64 b] w fun e w' => e = .returned (.bool (aheadW W a b)) ∧ Below w.heap.size w w' := by
  obtain ⟨a9, c9, hhv, _, _⟩ := h.hform
  generalize hn9 : W.heaps.length = n9 at hhv
  subst hhv
  obtain ⟨a8, c8, hcv, b81, b82⟩ := h.cform
  have hcl := h.clen
  generalize hn8 : W.cells.length = n8 at hcv b81 hcl
  subst hcv
  obtain ⟨V, hV, hs⟩ : ∃ V, w.alloc (.cells #[.slice a9 n9 c9, .slice a8 n8 c8] 45) = V ∧ Stage (fun _ => False) w [Ob.box w.heap.size #[.slice a9 n9 c9, .slice a8 n8 c8] 45] V := ⟨_, rfl, (Stage.start w).alloc _ _⟩
  have k0 := hs.cell 0 rfl (o := 0) rfl
  have k1 := hs.cell 0 rfl (o := 1) rfl
  have hI := refin_any a (h.later hs.below)
  obtain ⟨ans, hans⟩ : ∃ ans, ans = aheadW W a b := ⟨_, rfl⟩
  rw [← hans]
  cases ca : inW W a
  · have e1 : aheadW W a b = false := by simp [aheadW, ca]
    rw [ca] at hI
    replace hans := Lib.hid (hans.trans e1)
    clear e1
    go_enter Try.func23, Try.ntmps23
    go_wp2_with fail
    refine hI.mono ?_
    rintro e w1 ⟨rfl, hb⟩
    go_wp2_with fail
    go_ret
    exact ⟨ret_bool hans.out.symm, (hs.later hb).below⟩
  · rw [ca] at hI
    replace hans := Lib.hid hans
    go_enter Try.func23, Try.ntmps23
    go_wp2_with fail
    clear hV k0 k1
    refine hI.mono ?_
    rintro e w1 ⟨rfl, hb⟩
    replace hs := hs.later hb
    have k0 := hs.cell 0 rfl (o := 0) rfl
    have k1 := hs.cell 0 rfl (o := 1) rfl
    have hJ := refin_any b (h.later hs.below)
    clear hI hb
    cases cb : inW W b
    · have e1 : aheadW W a b = false := by simp [aheadW, cb]
      rw [cb] at hJ
      replace hans := Lib.hid (hans.out.trans e1)
      clear e1
      go_wp2_with fail
      refine hJ.mono ?_
      rintro e w2 ⟨rfl, hb⟩
      go_wp2_with fail
      go_ret
      exact ⟨ret_bool hans.out.symm, (hs.later hb).below⟩
    · rw [cb] at hJ
      obtain ⟨i, rfl, hi, _⟩ := in_nat ca
      obtain ⟨j, rfl, hj, _⟩ := in_nat cb
      have e1 : aheadW W i j = aheadC (W.cells.getD i .off) (W.cells.getD j .off) i j := by simp only [aheadW, ca, cb, cell_nat W i hi, cell_nat W j hj]; rfl
      replace hans := Lib.hid (hans.out.trans e1)
      clear e1
      go_wp2_with fail
      clear k0 k1
      refine hJ.mono ?_
      rintro e w2 ⟨rfl, hb⟩
      replace hs := hs.later hb
      have k0 := hs.cell 0 rfl (o := 0) rfl
      have k1 := hs.cell 0 rfl (o := 1) rfl
      have hN := h.later hs.below
      obtain ⟨g, c8', hcc, hg, u0, u1, u2⟩ := hN.ccell i hi
      rw [hn8] at hcc
      cases hcc
      obtain ⟨g', c8', hcc, _, v0, v1, v2⟩ := hN.ccell j hj
      rw [hn8] at hcc
      cases hcc
      have l0 := hs.lt 0 rfl
      clear hJ hb ca cb
      have hL := fun w => refLess_any (W.cells.getD i .off).key (W.cells.getD i .off).seq (W.cells.getD j .off).key (W.cells.getD j .off).seq w
      generalize W.cells.getD i .off = c at *
      generalize W.cells.getD j .off = d at *
      have hs2 := (hs.alloc #[.int .i64 c.key, .int .u64 c.seq] 40).alloc' #[.int .i64 d.key, .int .u64 d.seq] 40 (b := w2.heap.size + 1) (size_alloc _ _)
      have hi8 : i < n8 := by omega
      have hj8 : j < n8 := by omega
      obtain ⟨V2, hV2, hs3⟩ : ∃ V2, (w2.alloc (.cells #[.int .i64 c.key, .int .u64 c.seq] 40)).alloc (.cells #[.int .i64 d.key, .int .u64 d.seq] 40) = V2 ∧ Stage (fun _ => False) w _ V2 := ⟨_, rfl, hs2⟩
      have x0 := hs3.cell 1 rfl (o := 0) rfl
      have x1 := hs3.cell 1 rfl (o := 1) rfl
      have y0 := hs3.cell 2 rfl (o := 0) rfl
      have y1 := hs3.cell 2 rfl (o := 1) rfl
      go_wp2_with fail
      clear hV2 x0 x1 y0 y1 k0 k1 u0 u1 u2 v0 v1 v2 hs2 l0 hN
      cases hl : lessB c.key c.seq d.key d.seq
      · rw [hl] at hL
        refine (hL _).mono ?_
        rintro e w3 ⟨rfl, hb⟩
        replace hs := hs3.later hb
        clear hs3 hb hL
        have x0 := hs.cell 1 rfl (o := 0) rfl
        have x1 := hs.cell 1 rfl (o := 1) rfl
        have y0 := hs.cell 2 rfl (o := 0) rfl
        have y1 := hs.cell 2 rfl (o := 1) rfl
        by_cases heq : c.key = d.key ∧ c.seq = d.seq
        · have q := hans.out
          rw [aheadC_same' heq.1 heq.2] at q
          rw [heq.1] at x0
          rw [heq.2] at x1
          replace q := Lib.hid q
          clear heq hl hans
          go_wp2_with fail
          go_ret
          exact ⟨ret_bool (by rw [q.out]; simp), hs.below⟩
        · have q := hans.out
          rw [aheadC_other' heq, hl] at q
          replace q := Lib.hid q
          by_cases q1 : c.key = d.key
          · have q2 : (c.seq == d.seq) = false := by simpa using fun e => heq ⟨q1, e⟩
            rw [q1] at x0
            clear heq hl hans q1
            go_wp2_with fail
            go_ret
            exact ⟨ret_bool q.out.symm, hs.below⟩
          · have q1' : (c.key == d.key) = false := by simpa using q1
            clear heq hl hans q1
            go_wp2_with fail
            go_ret
            exact ⟨ret_bool q.out.symm, hs.below⟩
      · rw [hl] at hL
        have q := hans.out
        have : aheadC c d i j = true := by simp [aheadC, hl]
        rw [this] at q
        replace q := Lib.hid q
        refine (hL _).mono ?_
        rintro e w3 ⟨rfl, hb⟩
        go_wp2_with fail
        go_ret
        exact ⟨ret_bool q.out.symm, (hs3.later hb).below⟩
end
end Go.Proofs.Ytdipahkgfkoamaa
