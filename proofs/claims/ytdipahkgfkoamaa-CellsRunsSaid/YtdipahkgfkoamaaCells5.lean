/- What the cells' Ahead returns. -/
import Derived.Test.YtdipahkgfkoamaaCells4
namespace Go.Proofs.Ytdipahkgfkoamaa
open Go.RowKit Go.Sort

theorem aheadC_same {c d : CellD} (h1 : c.key = d.key) (h2 : c.seq = d.seq) (a b : Int) : aheadC c d a b = decide (a < b) := by simp [aheadC, h1, h2, lessB_self]
theorem aheadC_other {c d : CellD} (h : ¬ (c.key = d.key ∧ c.seq = d.seq)) (a b : Int) : aheadC c d a b = lessB c.key c.seq d.key d.seq := by
  have : (c.key == d.key && c.seq == d.seq) = false := by
    rw [Bool.and_eq_false_iff]
    by_cases e : c.key = d.key
    · exact Or.inr (by simpa using fun e2 => h ⟨e, e2⟩)
    · exact Or.inl (by simpa using e)
  simp [aheadC, this]
/-- How many steps were counted, behind it. -/
def aheadS (W : WS) (s : Int) (a b : Int) : Int := if inW W a && inW W b then addI s 1 else s

section
variable {w : World} {p : Nat} {W : WS} {s : Int} {F : Nat → Prop}
theorem ahead_cl (a b : Int) (h : (Ob.cells p W s).holds w F) : Calls Try.prog 24 #[.pointer (some ⟨p, 0, none⟩), .int .i64 a, .int .i64 b] w fun e w' => e = .returned (.bool (aheadW W a b)) ∧ ∃ F', (Ob.cells p W (aheadS W s a b)).holds w' F' ∧ Moved F F' w w' := by
  have hF := (Ob.cells p W s).lt h
  have h' := h
  obtain ⟨N, raw, pn, v, bm, hR, rfl, hr, hg⟩ := h'
  have hs := Ob.group.open hg
  have hA := at_st hs hR.cap a
  have hB := fun w' (hb : Below w.heap.size w w') => at_st (hs.later hb) hR.cap b
  have ia := abs_in hR a
  have ib := abs_in hR b
  have hD := fun w => held_any (rawAt raw a) w
  have hE := fun w => held_any (rawAt raw b) w
  rw [← ia] at hD
  rw [← ib] at hE
  have hce : aheadC (cellW (absW N raw) a) (cellW (absW N raw) b) a b = aheadC (rawAt raw a) (rawAt raw b) a b := by rw [abs_cell hR, abs_cell hR]; rfl
  have hL := fun w => less_any (rawAt raw a).key (rawAt raw a).seq (rawAt raw b).key (rawAt raw b).seq w
  simp only [cellV] at hA hB hD hE
  clear ia ib
  generalize rawAt raw a = c at *
  generalize rawAt raw b = d at *
  cases ca : inW (absW N raw) a
  · have e1 : aheadW (absW N raw) a b = false := by simp [aheadW, ca]
    have e2 : aheadS (absW N raw) s a b = s := by simp [aheadS, ca]
    rw [ca] at hD
    rw [e1, e2]
    clear hce hL hE e1 e2
    go_enter Try.func24, Try.ntmps24
    go_wp2_with fail
    refine hA.mono ?_
    rintro e w1 ⟨rfl, hb1⟩
    go_wp2_with fail
    refine (hB _ hb1).mono ?_
    rintro e w2 ⟨rfl, hb2⟩
    have hb3 := below_chain hb1 hb2
    replace hs := hs.later hb3
    clear hA hB
    obtain ⟨V, hV, hb4, hs4⟩ : ∃ V, (w2.alloc (.cells #[.int .i64 c.home, .int .i64 c.key, .int .u64 c.seq] 72)).alloc (.cells #[.int .i64 d.home, .int .i64 d.key, .int .u64 d.seq] 72) = V ∧ Below w.heap.size w V ∧ Stage F w ((_ ++ [_]) ++ [_]) V :=
      ⟨_, rfl, (hb3.alloc hb3.size _).alloc (by rw [size_alloc]; have := hb3.size; omega) _, (hs.alloc #[.int .i64 c.home, .int .i64 c.key, .int .u64 c.seq] 72).alloc' #[.int .i64 d.home, .int .i64 d.key, .int .u64 d.seq] 72 (b := w2.heap.size + 1) (size_alloc _ _)⟩
    have j0 := hs4.cell 4 rfl (o := 0) rfl
    have j1 := hs4.cell 4 rfl (o := 1) rfl
    have j2 := hs4.cell 4 rfl (o := 2) rfl
    have k0 := hs4.cell 5 rfl (o := 0) rfl
    have k1 := hs4.cell 5 rfl (o := 1) rfl
    have k2 := hs4.cell 5 rfl (o := 2) rfl
    go_wp2_with fail
    clear hV j0 j1 j2 k0 k1 k2
    refine (hD _).mono ?_
    rintro e w3 ⟨rfl, rfl⟩
    replace hb4 := hb4.alloc hb4.size (.cells #[.int .i64 c.home, .int .i64 c.key, .int .u64 c.seq] 72)
    replace hs4 := hs4.later ((Below.refl _ V).alloc (Nat.le_refl _) (.cells #[.int .i64 c.home, .int .i64 c.key, .int .u64 c.seq] 72))
    generalize World.alloc _ _ = V2 at *
    have j0 := hs4.cell 4 rfl (o := 0) rfl
    have j1 := hs4.cell 4 rfl (o := 1) rfl
    have j2 := hs4.cell 4 rfl (o := 2) rfl
    have k0 := hs4.cell 5 rfl (o := 0) rfl
    have k1 := hs4.cell 5 rfl (o := 1) rfl
    have k2 := hs4.cell 5 rfl (o := 2) rfl
    go_wp2_with fail
    go_ret
    exact ⟨rfl, cells_below h hb4⟩
  · rw [ca] at hD
    cases cb : inW (absW N raw) b
    · have e1 : aheadW (absW N raw) a b = false := by simp [aheadW, cb]
      have e2 : aheadS (absW N raw) s a b = s := by simp [aheadS, cb]
      rw [cb] at hE
      rw [e1, e2]
      clear hce hL e1 e2
      go_enter Try.func24, Try.ntmps24
      go_wp2_with fail
      refine hA.mono ?_
      rintro e w1 ⟨rfl, hb1⟩
      go_wp2_with fail
      refine (hB _ hb1).mono ?_
      rintro e w2 ⟨rfl, hb2⟩
      have hb3 := below_chain hb1 hb2
      replace hs := hs.later hb3
      clear hA hB
      obtain ⟨V, hV, hb4, hs4⟩ : ∃ V, (w2.alloc (.cells #[.int .i64 c.home, .int .i64 c.key, .int .u64 c.seq] 72)).alloc (.cells #[.int .i64 d.home, .int .i64 d.key, .int .u64 d.seq] 72) = V ∧ Below w.heap.size w V ∧ Stage F w ((_ ++ [_]) ++ [_]) V :=
        ⟨_, rfl, (hb3.alloc hb3.size _).alloc (by rw [size_alloc]; have := hb3.size; omega) _, (hs.alloc #[.int .i64 c.home, .int .i64 c.key, .int .u64 c.seq] 72).alloc' #[.int .i64 d.home, .int .i64 d.key, .int .u64 d.seq] 72 (b := w2.heap.size + 1) (size_alloc _ _)⟩
      have j0 := hs4.cell 4 rfl (o := 0) rfl
      have j1 := hs4.cell 4 rfl (o := 1) rfl
      have j2 := hs4.cell 4 rfl (o := 2) rfl
      have k0 := hs4.cell 5 rfl (o := 0) rfl
      have k1 := hs4.cell 5 rfl (o := 1) rfl
      have k2 := hs4.cell 5 rfl (o := 2) rfl
      go_wp2_with fail
      clear hV j0 j1 j2 k0 k1 k2
      refine (hD _).mono ?_
      rintro e w3 ⟨rfl, rfl⟩
      replace hb4 := hb4.alloc hb4.size (.cells #[.int .i64 c.home, .int .i64 c.key, .int .u64 c.seq] 72)
      replace hs4 := hs4.later ((Below.refl _ V).alloc (Nat.le_refl _) (.cells #[.int .i64 c.home, .int .i64 c.key, .int .u64 c.seq] 72))
      generalize World.alloc _ _ = V2 at *
      have j0 := hs4.cell 4 rfl (o := 0) rfl
      have j1 := hs4.cell 4 rfl (o := 1) rfl
      have j2 := hs4.cell 4 rfl (o := 2) rfl
      have k0 := hs4.cell 5 rfl (o := 0) rfl
      have k1 := hs4.cell 5 rfl (o := 1) rfl
      have k2 := hs4.cell 5 rfl (o := 2) rfl
      go_wp2_with fail
      refine (hE _).mono ?_
      rintro e w3 ⟨rfl, rfl⟩
      go_wp2_with fail
      go_ret
      exact ⟨rfl, cells_below h (hb4.alloc hb4.size _)⟩
    · have e1 : aheadW (absW N raw) a b = aheadC c d a b := by simp [aheadW, ca, cb, hce]
      have e2 : aheadS (absW N raw) s a b = addI s 1 := by simp [aheadS, ca, cb]
      rw [cb] at hE
      obtain ⟨ans, hans⟩ : ∃ ans, ans = aheadC c d a b := ⟨_, rfl⟩
      rw [e1, e2, ← hans]
      replace hans := Lib.hid hans
      clear hce e1 e2 ca cb
      go_enter Try.func24, Try.ntmps24
      go_wp2_with fail
      refine hA.mono ?_
      rintro e w1 ⟨rfl, hb1⟩
      go_wp2_with fail
      refine (hB _ hb1).mono ?_
      rintro e w2 ⟨rfl, hb2⟩
      have hb3 := below_chain hb1 hb2
      replace hs := hs.later hb3
      clear hA hB
      obtain ⟨V, hV, hb4, hs4⟩ : ∃ V, (w2.alloc (.cells #[.int .i64 c.home, .int .i64 c.key, .int .u64 c.seq] 72)).alloc (.cells #[.int .i64 d.home, .int .i64 d.key, .int .u64 d.seq] 72) = V ∧ Below w.heap.size w V ∧ Stage F w ((_ ++ [_]) ++ [_]) V :=
        ⟨_, rfl, (hb3.alloc hb3.size _).alloc (by rw [size_alloc]; have := hb3.size; omega) _, (hs.alloc #[.int .i64 c.home, .int .i64 c.key, .int .u64 c.seq] 72).alloc' #[.int .i64 d.home, .int .i64 d.key, .int .u64 d.seq] 72 (b := w2.heap.size + 1) (size_alloc _ _)⟩
      have j0 := hs4.cell 4 rfl (o := 0) rfl
      have j1 := hs4.cell 4 rfl (o := 1) rfl
      have j2 := hs4.cell 4 rfl (o := 2) rfl
      have k0 := hs4.cell 5 rfl (o := 0) rfl
      have k1 := hs4.cell 5 rfl (o := 1) rfl
      have k2 := hs4.cell 5 rfl (o := 2) rfl
      go_wp2_with fail
      clear hV j0 j1 j2 k0 k1 k2
      refine (hD _).mono ?_
      rintro e w3 ⟨rfl, rfl⟩
      replace hb4 := hb4.alloc hb4.size (.cells #[.int .i64 c.home, .int .i64 c.key, .int .u64 c.seq] 72)
      replace hs4 := hs4.later ((Below.refl _ V).alloc (Nat.le_refl _) (.cells #[.int .i64 c.home, .int .i64 c.key, .int .u64 c.seq] 72))
      generalize World.alloc _ _ = V2 at *
      have j0 := hs4.cell 4 rfl (o := 0) rfl
      have j1 := hs4.cell 4 rfl (o := 1) rfl
      have j2 := hs4.cell 4 rfl (o := 2) rfl
      have k0 := hs4.cell 5 rfl (o := 0) rfl
      have k1 := hs4.cell 5 rfl (o := 1) rfl
      have k2 := hs4.cell 5 rfl (o := 2) rfl
      go_wp2_with fail
      refine (hE _).mono ?_
      rintro e w3 ⟨rfl, rfl⟩
      replace hs4 := hs4.later ((Below.refl _ V2).alloc (Nat.le_refl _) (.cells #[.int .i64 d.home, .int .i64 d.key, .int .u64 d.seq] 72))
      clear j0 j1 j2 k0 k1 k2 hb4
      generalize World.alloc _ _ = V3 at *
      have hC := meter_count p 0 s 1 hr V3 (hs4.cell 0 rfl rfl) (hs4.free 0 rfl 0)
      clear hD hE
      go_wp2_with fail
      refine hC.mono ?_
      rintro e w4 ⟨rfl, hw⟩
      replace hs4 := hs4.wrote 0 rfl hw
      have hp : Stage F w (cellParts p N raw (addI s 1) pn v bm fun y => lenW (absW N raw) y) w4 := hs4.take 4
      have j0 := hs4.cell 4 rfl (o := 0) rfl
      have j1 := hs4.cell 4 rfl (o := 1) rfl
      have j2 := hs4.cell 4 rfl (o := 2) rfl
      have k0 := hs4.cell 5 rfl (o := 0) rfl
      have k1 := hs4.cell 5 rfl (o := 1) rfl
      have k2 := hs4.cell 5 rfl (o := 2) rfl
      clear hC hw hs4 h hg hs hb1 hb2 hb3
      have hr2 := add_range hr 1
      generalize w2.heap.size = b5 at *
      by_cases heq : c.key = d.key ∧ c.seq = d.seq
      · obtain ⟨q1, q2⟩ := heq
        replace hans := hans.out
        rw [aheadC_same q1 q2] at hans
        rw [q1] at j1
        rw [q2] at j2
        subst hans
        clear q1 q2 hL
        go_wp2_with fail
        go_ret
        exact ⟨rfl, cells_close hp hF hR rfl (fun _ => rfl) hr2⟩
      · replace hans := hans.out
        rw [aheadC_other heq] at hans
        replace hans := Lib.hid hans
        by_cases q1 : c.key = d.key
        · have q2 : (c.seq == d.seq) = false := by simpa using fun e => heq ⟨q1, e⟩
          have q1' : (c.key == d.key) = true := by simpa using q1
          replace q1 := Lib.hid q1
          clear heq
          go_wp2_with fail
          refine (hL _).mono ?_
          rintro e w5 ⟨rfl, hb5⟩
          go_wp2_with fail
          go_ret
          exact ⟨ret_bool hans.out.symm, cells_close (hp.later hb5) hF hR rfl (fun _ => rfl) hr2⟩
        · have q1' : (c.key == d.key) = false := by simpa using q1
          clear heq q1
          go_wp2_with fail
          refine (hL _).mono ?_
          rintro e w5 ⟨rfl, hb5⟩
          go_wp2_with fail
          go_ret
          exact ⟨ret_bool hans.out.symm, cells_close (hp.later hb5) hF hR rfl (fun _ => rfl) hr2⟩
end
end Go.Proofs.Ytdipahkgfkoamaa
