/- Merged of Cells4, Cells5, StageAppend, StageFrame, Meth. -/
import Derived.Test.YtcjjglaimfhofaaCells3
import Derived.Test.YtcjjglaimfhofaaStage
import Derived.Test.YtcjjglaimfhofaaProg
namespace Go.Proofs.Ytcjjglaimfhofaa
open Go.RowKit Go.Sort

/-- An entry of one slot is written. -/
theorem parts_put2 {F0 : Nat → Prop} {W0 w : World} {p : Nat} {N : NS} {raw : List CellD} {s : Int} {pn g c bm : Nat} {f : Int → Int} (hs : Stage F0 W0 (cellParts p N raw s pn (.slice (some ⟨g, 0, none⟩) raw.length c) bm f) w) (i : Nat) (hi : i < raw.length) (k q : Int) :
    Stage F0 W0 (cellParts p N (raw.set i ⟨(raw.getD i .off).home, k, q⟩) s pn (.slice (some ⟨g, 0, none⟩) (raw.set i ⟨(raw.getD i .off).home, k, q⟩).length c) bm f) ((w.setCell ⟨g, i * 3 + 1, none⟩ (.int .i64 k)).setCell ⟨g, i * 3 + 2, none⟩ (.int .u64 q)) := by
  have s1 := cellsBy_set cellC 3 cellC_len .off raw i 1 (.int .i64 k) ⟨(raw.getD i .off).home, k, (raw.getD i .off).seq⟩ hi (by omega) rfl
  have s2 := cellsBy_set cellC 3 cellC_len .off (raw.set i ⟨(raw.getD i .off).home, k, (raw.getD i .off).seq⟩) i 2 (.int .u64 q) ⟨(raw.getD i .off).home, k, q⟩ (by simpa using hi) (by omega) (by rw [getD_set' _ _ _ _ _ hi, if_pos rfl]; rfl)
  rw [List.set_set] at s2
  have h3 := (hs.storeRow 2 rfl (i * 3 + 1) (.int .i64 k) s1).storeRow 2 rfl (i * 3 + 2) (.int .u64 q) s2
  rw [List.length_set]
  unfold cellParts
  rw [List.length_set]
  exact h3

section
variable {w : World} {p : Nat} {W : WS} {s : Int} {F : Nat → Prop}
theorem join_cl (a b : Int) (h : (Ob.cells p W s).holds w F) : Calls Try.prog 127 #[.pointer (some ⟨p, 0, none⟩), .int .i64 a, .int .i64 b] w fun e w' => e = .returned (.bool (joinBW W a b)) ∧ ∃ F', (Ob.cells p (joinW W a b) s).holds w' F' ∧ Moved F F' w w' := by
  have hF := (Ob.cells p W s).lt h
  obtain ⟨N, raw, pn, v, bm, hR, rfl, hr, hg⟩ := h
  have hs := Ob.group.open hg
  have c1 := parts_c1 hs
  have hK := hs.call 1 rfl (O' := Ob.names 0 pn (afterJ N a b)) (fun _ ho => join_nm a b ho)
  rw [abs_joinB]
  cases hj : joinB N a b
  · have e1 : joinW (absW N raw) a b = absW N raw := by simp [joinW, abs_joinB, hj]
    have e2 : afterJ N a b = N := by simp [afterJ, hj]
    rw [e1]
    rw [hj, e2] at hK
    clear hg
    go_enter Try.func127, Try.ntmps127
    go_wp2_with fail
    refine hK.mono ?_
    rintro e w1 ⟨rfl, hs1⟩
    go_wp2_with fail
    go_ret
    exact ⟨rfl, cells_close hs1 hF hR rfl (fun _ => rfl) hr⟩
  · rw [hj] at hK
    obtain ⟨i, j, rfl, rfl, hij, hi, hj2, e2, hR2, hlen⟩ := abs_join hR hj
    have hl1 := len_le (absW N raw) i
    have hl2 := len_le (absW N raw) j
    rw [abs_len] at hl1 hl2
    have hj3 : j < 65537 := by have := hR.nfit.lenLe; omega
    have hcap := hR.cap
    have hNl := hR.nfit.lenLe
    clear hg
    go_enter Try.func127, Try.ntmps127
    go_wp2_with fail
    refine hK.mono ?_
    rintro e w1 ⟨rfl, hs1⟩
    replace hs1 : Stage F w (cellParts p (afterJ N i j) raw s pn v bm fun y => lenW (absW N raw) y) w1 := hs1
    have c3 := parts_c3 hs1
    have l0 := hs1.look 3 rfl Try.underlying37 Try.underlying3 Try.underlying3 (zero_int w1) j (by omega)
    obtain ⟨x, hx⟩ : ∃ x : Nat, x = lenW (absW N raw) j := ⟨_, rfl⟩
    rw [← hx] at hl2
    simp only [← hx] at l0
    replace hx := Lib.hid hx
    have e3 : IntKind.i64.wrap (-(x : Int)) = -(x : Int) := IntWalk.i64_in _ (by omega)
    clear hK hs c1
    obtain ⟨z, hz⟩ : ∃ z : Nat, z = lenW (absW N raw) i := ⟨_, rfl⟩
    obtain ⟨f0, hf0⟩ : ∃ f0 : Int → Int, f0 = fun y => (lenW (absW N raw) y : Int) := ⟨_, rfl⟩
    rw [← hf0] at hs1
    have q0 : f0 i = z := by rw [hf0, hz]
    rw [← hz] at hl1
    replace hf0 := Lib.hid hf0
    replace hz := Lib.hid hz
    have hG1 := grow_st hs1 i (by omega) z x (z + x) q0 rfl (by omega)
    go_wp2_with fail
    refine hG1.mono ?_
    rintro e w2 ⟨rfl, hs2⟩
    clear l0 c3
    obtain ⟨f1, hf1⟩ : ∃ f1, f1 = setI f0 i (z + x) := ⟨_, rfl⟩
    rw [← hf1] at hs2
    have q1 : f1 j = x := by rw [hf1]; unfold setI; rw [if_neg (by omega), hf0.out, hx.out]
    replace hf1 := Lib.hid hf1
    have hG := grow_st hs2 j (by omega) x (-x) 0 q1 (by omega) (by omega)
    go_wp2_with fail
    refine hG.mono ?_
    rintro e w3 ⟨rfl, hs3⟩
    clear hG hs2
    go_wp2_with fail
    go_ret
    exact ⟨rfl, cells_close hs3 hF hR2 e2 (fun y => by
      rw [hlen, hf1.out, hf0.out, hx.out, hz.out]
      unfold setI
      by_cases e1 : y = (j : Int)
      · rw [if_pos e1, if_neg (by omega), if_pos e1]
      · rw [if_neg e1]
        by_cases e2 : y = (i : Int)
        · rw [if_pos e2, if_pos e2]
        · rw [if_neg e2, if_neg e2, if_neg e1]) hr⟩
theorem lower_cl (x k q : Int) (h : (Ob.cells p W s).holds w F) : Calls Try.prog 125 #[.pointer (some ⟨p, 0, none⟩), .int .i64 x, .agg #[.int .i64 k, .int .u64 q]] w fun e w' => e = .returned (.bool (lowerB W x k q)) ∧ ∃ F', (Ob.cells p (lowerW W x k q) s).holds w' F' ∧ Moved F F' w w' := by
  have hF := (Ob.cells p W s).lt h
  have hb0 : Below w.heap.size w (w.alloc (.cells #[.int .i64 k, .int .u64 q] 63)) := (Below.refl _ _).alloc (Nat.le_refl _) _
  have hno : lowerB W x k q = false → lowerW W x k q = W := fun e => by simp [lowerW, e]
  have h' := h
  obtain ⟨N, raw, pn, v, bm, hR, rfl, hr, hg⟩ := h'
  have hs := (Ob.group.open hg).alloc #[.int .i64 k, .int .u64 q] 63
  have hA := at_st (hs.take 4) hR.cap x
  have hin := abs_in hR x
  have hD := fun w => held_any (rawAt raw x) w
  rw [← hin] at hD
  have hce : (cellW (absW N raw) x).key = (rawAt raw x).key ∧ (cellW (absW N raw) x).seq = (rawAt raw x).seq := by rw [abs_cell hR]; exact ⟨rfl, rfl⟩
  have hL := fun w => less_any (rawAt raw x).key (rawAt raw x).seq k q w
  cases c3 : inW (absW N raw) x
  · have e1 : lowerB (absW N raw) x k q = false := by simp [lowerB, c3]
    rw [c3] at hD
    rw [e1, hno e1]
    simp only [cellV] at hA hD
    clear hce hL hin
    generalize rawAt raw x = d at *
    go_enter Try.func125, Try.ntmps125
    go_wp2_with fail
    refine hA.mono ?_
    rintro e w1 ⟨rfl, hb1⟩
    have hb2 := below_chain hb0 hb1
    go_wp2_with fail
    refine (hD _).mono ?_
    rintro e w2 ⟨rfl, rfl⟩
    go_wp2_with fail
    go_ret
    exact ⟨rfl, cells_below h ((hb2.alloc hb2.size _).alloc (by rw [size_alloc]; have := hb2.size; omega) _)⟩
  · rw [c3] at hD
    rw [← hce.1, ← hce.2] at hL
    cases c4 : lessB (cellW (absW N raw) x).key (cellW (absW N raw) x).seq k q
    · have e1 : lowerB (absW N raw) x k q = true := by simp [lowerB, c3, c4]
      rw [e1]
      rw [hce.1, hce.2] at hL
      rw [hce.1, hce.2] at c4
      rw [c4] at hL
      obtain ⟨j, rfl, hj, e2, hR2, hlen⟩ := abs_lower hR e1
      clear hce hin hno c3 c4
      have hd : rawAt raw (j : Int) = raw.getD j .off := by
        have : slotR raw (j : Int) = true := by simp [slotR]; omega
        simp [rawAt, this]
      rw [hd] at hA hD hL
      simp only [cellV] at hA hD
      go_enter Try.func125, Try.ntmps125
      go_wp2_with fail
      refine hA.mono ?_
      rintro e w1 ⟨rfl, hb1⟩
      replace hs := hs.later hb1
      clear hb1 hA hg hd
      have hs2 := hs.alloc #[.int .i64 (raw.getD j .off).home, .int .i64 (raw.getD j .off).key, .int .u64 (raw.getD j .off).seq] 122
      have hput := fun (g c : Nat) (V : World) (h : Stage F w _ V) => parts_put2 (p := p) (N := N) (s := s) (pn := pn) (bm := bm) (f := fun y => lenW (absW N raw) y) (g := g) (c := c) h j hj k q
      generalize raw.getD j .off = d at *
      generalize hb5 : w.heap.size = b5 at *
      go_wp2_with fail
      refine (hD _).mono ?_
      rintro e w2 ⟨rfl, rfl⟩
      replace hs2 := hs2.alloc #[.int .i64 d.home, .int .i64 d.key, .int .u64 d.seq] 122
      generalize hb6 : w1.heap.size = b6 at *
      have k0 := hs2.cell 4 rfl (o := 0) rfl
      have k1 := hs2.cell 4 rfl (o := 1) rfl
      have m0 := hs2.cell 5 rfl (o := 0) rfl
      have m1 := hs2.cell 5 rfl (o := 1) rfl
      have m2 := hs2.cell 5 rfl (o := 2) rfl
      clear hD
      generalize World.alloc _ _ = V at *
      go_wp2_with fail
      refine (hL _).mono ?_
      rintro e w3 ⟨rfl, hb3⟩
      replace hs2 := hs2.later hb3
      replace k0 := later hb3 k0
      replace k1 := later hb3 k1
      have hp : Stage F w (cellParts p N raw s pn v bm fun y => lenW (absW N raw) y) w3 := hs2.take 4
      obtain ⟨g, c, rfl, hc1, hc2, hgp, hg, u0, u1, u2, hf⟩ := parts_row hp j hj
      have c2 := parts_c2 hp
      have hf1 := hf (j * 3 + 1)
      have hf2 := hf (j * 3 + 2)
      have hcap := hR.cap
      obtain ⟨V2, hV2, hp2⟩ : ∃ V2, ((w3.setCell ⟨g, j * 3 + 1, none⟩ (.int .i64 k)).setCell ⟨g, j * 3 + 2, none⟩ (.int .u64 q)).drew = V2 ∧ Stage F w _ V2 := ⟨_, rfl, (hput g c w3 hp).drew⟩
      clear hf hp hs hL hput hb3 m0 m1 m2 h hg hgp hb0 hs2
      generalize hn : raw.length = n at *
      go_wp2_with fail
      go_region
      clear hV2
      go_wp2_with fail
      go_ret
      exact ⟨rfl, cells_close hp2 (by rw [hb5]; exact hF) hR2 e2 (fun y => by rw [hlen]) hr⟩
    · have e1 : lowerB (absW N raw) x k q = false := by simp [lowerB, c3, c4]
      rw [c4] at hL
      rw [hce.1, hce.2] at hL
      rw [e1, hno e1]
      simp only [cellV] at hA hD
      clear hce hin hno c4
      generalize rawAt raw x = d at *
      go_enter Try.func125, Try.ntmps125
      go_wp2_with fail
      refine hA.mono ?_
      rintro e w1 ⟨rfl, hb1⟩
      have hb2 := below_chain hb0 hb1
      replace hb2 := (hb2.alloc hb2.size (.cells #[.int .i64 d.home, .int .i64 d.key, .int .u64 d.seq] 122)).alloc (by rw [size_alloc]; have := hb2.size; omega) (.cells #[.int .i64 d.home, .int .i64 d.key, .int .u64 d.seq] 122)
      replace hs := hs.later hb1
      have hs2 := hs.alloc #[.int .i64 d.home, .int .i64 d.key, .int .u64 d.seq] 122
      generalize hb5 : w.heap.size = b5 at *
      go_wp2_with fail
      refine (hD _).mono ?_
      rintro e w2 ⟨rfl, rfl⟩
      replace hs2 := hs2.alloc #[.int .i64 d.home, .int .i64 d.key, .int .u64 d.seq] 122
      generalize hb6 : w1.heap.size = b6 at *
      have k0 := hs2.cell 4 rfl (o := 0) rfl
      have k1 := hs2.cell 4 rfl (o := 1) rfl
      have m0 := hs2.cell 5 rfl (o := 0) rfl
      have m1 := hs2.cell 5 rfl (o := 1) rfl
      have m2 := hs2.cell 5 rfl (o := 2) rfl
      clear hD hb0 hb1
      generalize World.alloc _ _ = V at *
      go_wp2_with fail
      refine (hL _).mono ?_
      rintro e w3 ⟨rfl, hb3⟩
      rw [← hb5] at hb2
      go_wp2_with fail
      go_ret
      exact ⟨rfl, cells_below h (below_chain hb2 hb3)⟩
end
end Go.Proofs.Ytcjjglaimfhofaa

namespace Go.Proofs.Ytcjjglaimfhofaa
open Go.RowKit Go.Sort

theorem aheadC_same {c d : CellD} (h1 : c.key = d.key) (h2 : c.seq = d.seq) (a b : Int) : aheadC c d a b = decide (a < b) := by simp [aheadC, h1, h2, lessB_self]
theorem aheadC_other {c d : CellD} (h : ¬ (c.key = d.key ∧ c.seq = d.seq)) (a b : Int) : aheadC c d a b = lessB c.key c.seq d.key d.seq := by
  have : (c.key == d.key && c.seq == d.seq) = false := by
    rw [Bool.and_eq_false_iff]
    by_cases e : c.key = d.key
    · exact Or.inr (by simpa using fun e2 => h ⟨e, e2⟩)
    · exact Or.inl (by simpa using e)
  simp [aheadC, this]
/-- How many steps were counted, behind it. -/
def aheadS (W : WS) (s : Int) (a b : Int) : Int := if inW W a && inW W b then addI s 1 else s

section
variable {w : World} {p : Nat} {W : WS} {s : Int} {F : Nat → Prop}
theorem ahead_cl (a b : Int) (h : (Ob.cells p W s).holds w F) : Calls Try.prog 82 #[.pointer (some ⟨p, 0, none⟩), .int .i64 a, .int .i64 b] w fun e w' => e = .returned (.bool (aheadW W a b)) ∧ ∃ F', (Ob.cells p W (aheadS W s a b)).holds w' F' ∧ Moved F F' w w' := by
  have hF := (Ob.cells p W s).lt h
  have h' := h
  obtain ⟨N, raw, pn, v, bm, hR, rfl, hr, hg⟩ := h'
  have hs := Ob.group.open hg
  have hA := at_st hs hR.cap a
  have hB := fun w' (hb : Below w.heap.size w w') => at_st (hs.later hb) hR.cap b
  have ia := abs_in hR a
  have ib := abs_in hR b
  have hD := fun w => held_any (rawAt raw a) w
  have hE := fun w => held_any (rawAt raw b) w
  rw [← ia] at hD
  rw [← ib] at hE
  have hce : aheadC (cellW (absW N raw) a) (cellW (absW N raw) b) a b = aheadC (rawAt raw a) (rawAt raw b) a b := by rw [abs_cell hR, abs_cell hR]; rfl
  have hL := fun w => less_any (rawAt raw a).key (rawAt raw a).seq (rawAt raw b).key (rawAt raw b).seq w
  simp only [cellV] at hA hB hD hE
  clear ia ib
  generalize rawAt raw a = c at *
  generalize rawAt raw b = d at *
  cases ca : inW (absW N raw) a
  · have e1 : aheadW (absW N raw) a b = false := by simp [aheadW, ca]
    have e2 : aheadS (absW N raw) s a b = s := by simp [aheadS, ca]
    rw [ca] at hD
    rw [e1, e2]
    clear hce hL hE e1 e2
    go_enter Try.func82, Try.ntmps82
    go_wp2_with fail
    refine hA.mono ?_
    rintro e w1 ⟨rfl, hb1⟩
    go_wp2_with fail
    refine (hB _ hb1).mono ?_
    rintro e w2 ⟨rfl, hb2⟩
    have hb3 := below_chain hb1 hb2
    replace hs := hs.later hb3
    clear hA hB
    obtain ⟨V, hV, hb4, hs4⟩ : ∃ V, (w2.alloc (.cells #[.int .i64 c.home, .int .i64 c.key, .int .u64 c.seq] 122)).alloc (.cells #[.int .i64 d.home, .int .i64 d.key, .int .u64 d.seq] 122) = V ∧ Below w.heap.size w V ∧ Stage F w ((_ ++ [_]) ++ [_]) V :=
      ⟨_, rfl, (hb3.alloc hb3.size _).alloc (by rw [size_alloc]; have := hb3.size; omega) _, (hs.alloc #[.int .i64 c.home, .int .i64 c.key, .int .u64 c.seq] 122).alloc' #[.int .i64 d.home, .int .i64 d.key, .int .u64 d.seq] 122 (b := w2.heap.size + 1) (size_alloc _ _)⟩
    have j0 := hs4.cell 4 rfl (o := 0) rfl
    have j1 := hs4.cell 4 rfl (o := 1) rfl
    have j2 := hs4.cell 4 rfl (o := 2) rfl
    have k0 := hs4.cell 5 rfl (o := 0) rfl
    have k1 := hs4.cell 5 rfl (o := 1) rfl
    have k2 := hs4.cell 5 rfl (o := 2) rfl
    go_wp2_with fail
    clear hV j0 j1 j2 k0 k1 k2
    refine (hD _).mono ?_
    rintro e w3 ⟨rfl, rfl⟩
    replace hb4 := hb4.alloc hb4.size (.cells #[.int .i64 c.home, .int .i64 c.key, .int .u64 c.seq] 122)
    replace hs4 := hs4.later ((Below.refl _ V).alloc (Nat.le_refl _) (.cells #[.int .i64 c.home, .int .i64 c.key, .int .u64 c.seq] 122))
    generalize World.alloc _ _ = V2 at *
    have j0 := hs4.cell 4 rfl (o := 0) rfl
    have j1 := hs4.cell 4 rfl (o := 1) rfl
    have j2 := hs4.cell 4 rfl (o := 2) rfl
    have k0 := hs4.cell 5 rfl (o := 0) rfl
    have k1 := hs4.cell 5 rfl (o := 1) rfl
    have k2 := hs4.cell 5 rfl (o := 2) rfl
    go_wp2_with fail
    go_ret
    exact ⟨rfl, cells_below h hb4⟩
  · rw [ca] at hD
    cases cb : inW (absW N raw) b
    · have e1 : aheadW (absW N raw) a b = false := by simp [aheadW, cb]
      have e2 : aheadS (absW N raw) s a b = s := by simp [aheadS, cb]
      rw [cb] at hE
      rw [e1, e2]
      clear hce hL e1 e2
      go_enter Try.func82, Try.ntmps82
      go_wp2_with fail
      refine hA.mono ?_
      rintro e w1 ⟨rfl, hb1⟩
      go_wp2_with fail
      refine (hB _ hb1).mono ?_
      rintro e w2 ⟨rfl, hb2⟩
      have hb3 := below_chain hb1 hb2
      replace hs := hs.later hb3
      clear hA hB
      obtain ⟨V, hV, hb4, hs4⟩ : ∃ V, (w2.alloc (.cells #[.int .i64 c.home, .int .i64 c.key, .int .u64 c.seq] 122)).alloc (.cells #[.int .i64 d.home, .int .i64 d.key, .int .u64 d.seq] 122) = V ∧ Below w.heap.size w V ∧ Stage F w ((_ ++ [_]) ++ [_]) V :=
        ⟨_, rfl, (hb3.alloc hb3.size _).alloc (by rw [size_alloc]; have := hb3.size; omega) _, (hs.alloc #[.int .i64 c.home, .int .i64 c.key, .int .u64 c.seq] 122).alloc' #[.int .i64 d.home, .int .i64 d.key, .int .u64 d.seq] 122 (b := w2.heap.size + 1) (size_alloc _ _)⟩
      have j0 := hs4.cell 4 rfl (o := 0) rfl
      have j1 := hs4.cell 4 rfl (o := 1) rfl
      have j2 := hs4.cell 4 rfl (o := 2) rfl
      have k0 := hs4.cell 5 rfl (o := 0) rfl
      have k1 := hs4.cell 5 rfl (o := 1) rfl
      have k2 := hs4.cell 5 rfl (o := 2) rfl
      go_wp2_with fail
      clear hV j0 j1 j2 k0 k1 k2
      refine (hD _).mono ?_
      rintro e w3 ⟨rfl, rfl⟩
      replace hb4 := hb4.alloc hb4.size (.cells #[.int .i64 c.home, .int .i64 c.key, .int .u64 c.seq] 122)
      replace hs4 := hs4.later ((Below.refl _ V).alloc (Nat.le_refl _) (.cells #[.int .i64 c.home, .int .i64 c.key, .int .u64 c.seq] 122))
      generalize World.alloc _ _ = V2 at *
      have j0 := hs4.cell 4 rfl (o := 0) rfl
      have j1 := hs4.cell 4 rfl (o := 1) rfl
      have j2 := hs4.cell 4 rfl (o := 2) rfl
      have k0 := hs4.cell 5 rfl (o := 0) rfl
      have k1 := hs4.cell 5 rfl (o := 1) rfl
      have k2 := hs4.cell 5 rfl (o := 2) rfl
      go_wp2_with fail
      refine (hE _).mono ?_
      rintro e w3 ⟨rfl, rfl⟩
      go_wp2_with fail
      go_ret
      exact ⟨rfl, cells_below h (hb4.alloc hb4.size _)⟩
    · have e1 : aheadW (absW N raw) a b = aheadC c d a b := by simp [aheadW, ca, cb, hce]
      have e2 : aheadS (absW N raw) s a b = addI s 1 := by simp [aheadS, ca, cb]
      rw [cb] at hE
      obtain ⟨ans, hans⟩ : ∃ ans, ans = aheadC c d a b := ⟨_, rfl⟩
      rw [e1, e2, ← hans]
      replace hans := Lib.hid hans
      clear hce e1 e2 ca cb
      go_enter Try.func82, Try.ntmps82
      go_wp2_with fail
      refine hA.mono ?_
      rintro e w1 ⟨rfl, hb1⟩
      go_wp2_with fail
      refine (hB _ hb1).mono ?_
      rintro e w2 ⟨rfl, hb2⟩
      have hb3 := below_chain hb1 hb2
      replace hs := hs.later hb3
      clear hA hB
      obtain ⟨V, hV, hb4, hs4⟩ : ∃ V, (w2.alloc (.cells #[.int .i64 c.home, .int .i64 c.key, .int .u64 c.seq] 122)).alloc (.cells #[.int .i64 d.home, .int .i64 d.key, .int .u64 d.seq] 122) = V ∧ Below w.heap.size w V ∧ Stage F w ((_ ++ [_]) ++ [_]) V :=
        ⟨_, rfl, (hb3.alloc hb3.size _).alloc (by rw [size_alloc]; have := hb3.size; omega) _, (hs.alloc #[.int .i64 c.home, .int .i64 c.key, .int .u64 c.seq] 122).alloc' #[.int .i64 d.home, .int .i64 d.key, .int .u64 d.seq] 122 (b := w2.heap.size + 1) (size_alloc _ _)⟩
      have j0 := hs4.cell 4 rfl (o := 0) rfl
      have j1 := hs4.cell 4 rfl (o := 1) rfl
      have j2 := hs4.cell 4 rfl (o := 2) rfl
      have k0 := hs4.cell 5 rfl (o := 0) rfl
      have k1 := hs4.cell 5 rfl (o := 1) rfl
      have k2 := hs4.cell 5 rfl (o := 2) rfl
      go_wp2_with fail
      clear hV j0 j1 j2 k0 k1 k2
      refine (hD _).mono ?_
      rintro e w3 ⟨rfl, rfl⟩
      replace hb4 := hb4.alloc hb4.size (.cells #[.int .i64 c.home, .int .i64 c.key, .int .u64 c.seq] 122)
      replace hs4 := hs4.later ((Below.refl _ V).alloc (Nat.le_refl _) (.cells #[.int .i64 c.home, .int .i64 c.key, .int .u64 c.seq] 122))
      generalize World.alloc _ _ = V2 at *
      have j0 := hs4.cell 4 rfl (o := 0) rfl
      have j1 := hs4.cell 4 rfl (o := 1) rfl
      have j2 := hs4.cell 4 rfl (o := 2) rfl
      have k0 := hs4.cell 5 rfl (o := 0) rfl
      have k1 := hs4.cell 5 rfl (o := 1) rfl
      have k2 := hs4.cell 5 rfl (o := 2) rfl
      go_wp2_with fail
      refine (hE _).mono ?_
      rintro e w3 ⟨rfl, rfl⟩
      replace hs4 := hs4.later ((Below.refl _ V2).alloc (Nat.le_refl _) (.cells #[.int .i64 d.home, .int .i64 d.key, .int .u64 d.seq] 122))
      clear j0 j1 j2 k0 k1 k2 hb4
      generalize World.alloc _ _ = V3 at *
      have hC := meter_count p 0 s 1 hr V3 (hs4.cell 0 rfl rfl) (hs4.free 0 rfl 0)
      clear hD hE
      go_wp2_with fail
      refine hC.mono ?_
      rintro e w4 ⟨rfl, hw⟩
      replace hs4 := hs4.wrote 0 rfl hw
      have hp : Stage F w (cellParts p N raw (addI s 1) pn v bm fun y => lenW (absW N raw) y) w4 := hs4.take 4
      have j0 := hs4.cell 4 rfl (o := 0) rfl
      have j1 := hs4.cell 4 rfl (o := 1) rfl
      have j2 := hs4.cell 4 rfl (o := 2) rfl
      have k0 := hs4.cell 5 rfl (o := 0) rfl
      have k1 := hs4.cell 5 rfl (o := 1) rfl
      have k2 := hs4.cell 5 rfl (o := 2) rfl
      clear hC hw hs4 h hg hs hb1 hb2 hb3
      have hr2 := add_range hr 1
      generalize w2.heap.size = b5 at *
      by_cases heq : c.key = d.key ∧ c.seq = d.seq
      · obtain ⟨q1, q2⟩ := heq
        replace hans := hans.out
        rw [aheadC_same q1 q2] at hans
        rw [q1] at j1
        rw [q2] at j2
        subst hans
        clear q1 q2 hL
        go_wp2_with fail
        go_ret
        exact ⟨rfl, cells_close hp hF hR rfl (fun _ => rfl) hr2⟩
      · replace hans := hans.out
        rw [aheadC_other heq] at hans
        replace hans := Lib.hid hans
        by_cases q1 : c.key = d.key
        · have q2 : (c.seq == d.seq) = false := by simpa using fun e => heq ⟨q1, e⟩
          have q1' : (c.key == d.key) = true := by simpa using q1
          replace q1 := Lib.hid q1
          clear heq
          go_wp2_with fail
          refine (hL _).mono ?_
          rintro e w5 ⟨rfl, hb5⟩
          go_wp2_with fail
          go_ret
          exact ⟨ret_bool hans.out.symm, cells_close (hp.later hb5) hF hR rfl (fun _ => rfl) hr2⟩
        · have q1' : (c.key == d.key) = false := by simpa using q1
          clear heq q1
          go_wp2_with fail
          refine (hL _).mono ?_
          rintro e w5 ⟨rfl, hb5⟩
          go_wp2_with fail
          go_ret
          exact ⟨ret_bool hans.out.symm, cells_close (hp.later hb5) hF hR rfl (fun _ => rfl) hr2⟩
end
end Go.Proofs.Ytcjjglaimfhofaa

namespace Go.Proofs.Ytcjjglaimfhofaa
open Go.RowKit Go.Sort

theorem reads_box {w : World} {b : Nat} {c : Array Value} {t : TypeId} (h : Blk w b c t) (size m : Nat) (hs : c.size = m * size) : RowReads w size (.slice (some ⟨b, 0, none⟩) m m) m c.toList :=
  ⟨by simpa using hs, Or.inr ⟨_, m, rfl, fun j u hj => by rw [add_at, Nat.zero_add]; exact blk_cell h (by simpa using hj)⟩⟩
namespace Stage
variable {F0 : Nat → Prop} {W w : World} {l : List Ob} {P : Program} {B : Nat} {e : TypeId} {size n : Nat} {v : Value} {xs : List Value}
/-- Where only the draws' count is another one. -/
theorem same {w' : World} (h : Stage F0 W l w) (e1 : w'.heap = w.heap) (e2 : w'.os = w.os) (e3 : w'.tape = w.tape) (e4 : w'.output = w.output) : Stage F0 W l w' := h.later ⟨e2, e3, e4, by rw [e1]; exact Nat.le_refl _, fun k _ => by rw [e1]⟩
theorem newRow' (h : Stage F0 W l w) (e : TypeId) (size n : Nat) (c : Array Value) (hs : c.size = n * size) (hm : n ≤ maxLen) {b : Nat} (hb : w.heap.size = b) : Stage F0 W (l ++ [Ob.row 0 e size (.slice (some ⟨b, 0, none⟩) n n) n c.toList]) (w.alloc (.cells c e)) := by subst hb; exact h.newRow e size n c hs hm
theorem emptyRow' (h : Stage F0 W l w) (e : TypeId) (size : Nat) {b : Nat} (hb : w.heap.size = b) : Stage F0 W (l ++ [Ob.row 0 e size (.slice (some ⟨b, 0, none⟩) 0 0) 0 []]) (w.alloc (.cells #[] e)) := by subst hb; exact h.emptyRow e size
theorem run_append (hs : Stage F0 W l w) (i : Nat) (hi : l[i]? = some (Ob.row B e size v n xs)) (t ty : TypeId) (z : Value) (bytes : Nat) (ht : P.underlying t = some (.slice e)) (hinfo : (P.info? e).map (fun i => (i.zero, i.size, i.bytes)) = some (some z, size, bytes)) (hzs : z.cells.size = size) (hsz : 0 < size) (hB : B ≤ w.heap.size)
    (y : Value) (m : Nat) (news : List Value) (hr : RowReads w size y m news) (h1 : ∀ u ∈ news, u.oneCell' = true) (h63 : n + m ≤ maxLen) (hbytes : (n + m) * bytes ≤ 140737488355328) :
    ∃ v' w', (Builtin.append_ #[t, t] ty #[v, y]).run P w = .ok v' w' ∧ Stage F0 W (l.set i (Ob.row B e size v' (n + m) (xs ++ news))) w' ∧ (∀ k, rowF v' k → rowF v k ∨ w.heap.size ≤ k) := by
  obtain ⟨i0, hi0, hzz⟩ := Option.map_eq_some_iff.1 hinfo
  simp only [Prod.mk.injEq] at hzz
  obtain ⟨hz, hs0, hb⟩ := hzz
  obtain ⟨v', w', h2, h3, h4, h5⟩ := run_append_any w B t ty e i0 z size bytes ht hi0 hz hs0 hb hzs hsz v n xs (hs.owns i hi) y m news hr h1 h63 hbytes hB
  exact ⟨v', w', h2, hs.grown i hi h3 h4 h5, fun k hk => (h5 k hk).imp id (fun e => Nat.le_of_eq e.symm)⟩
theorem wp_append {ops : Array Oper} {rest : List Oper} {o : Oper} {a : Act} {Q : Exit → Act → World → Prop} (hs : Stage F0 W l w) (i : Nat) (hi : l[i]? = some (Ob.row B e size v n xs)) (hgd : o.guard = none) (s x : Operand) (t : TypeId)
    (ho : o.op = .call { callee := .builtin .append, args := #[s, x], argTypes := #[t, t] }) (z : Value) (bytes : Nat) (ht : P.underlying t = some (.slice e)) (hinfo : (P.info? e).map (fun i => (i.zero, i.size, i.bytes)) = some (some z, size, bytes)) (hzs : z.cells.size = size) (hsz : 0 < size) (hB : B ≤ w.heap.size)
    (hv : a.eval s = v) (y : Value) (m : Nat) (news : List Value) (hx : a.eval x = y) (hr : RowReads w size y m news) (h1 : ∀ u ∈ news, u.oneCell' = true) (h63 : n + m ≤ maxLen) (hbytes : (n + m) * bytes ≤ 140737488355328)
    (hK : ∀ v' w', Stage F0 W (l.set i (Ob.row B e size v' (n + m) (xs ++ news))) w' → (∀ k, rowF v' k → rowF v k ∨ w.heap.size ≤ k) → wpList P ops Q rest (a.put o.dst v') w') : wpList P ops Q (o :: rest) a w := by
  refine wpList_plain hgd fun K hK' => ?_
  obtain ⟨v', w', hrun, h2, h3⟩ := hs.run_append (P := P) i hi t o.type z bytes ht hinfo hzs hsz hB y m news hr h1 h63 hbytes
  unfold Oper.wp execOp
  simp only [ho, resolve, invoke, builtin, Sem.run_bind, Sem.run_pure, Result.andThen_ok, List.map_toArray, List.map_cons, List.map_nil, hv, hx, hrun]
  exact hK' _ _ (hK v' w' h2 h3)
theorem step_append {ops : Array Oper} {o : Oper} {a : Act} {K : Act → World → Prop} {Q : Exit → Act → World → Prop} {E : Prop} (hs : Stage F0 W l w) (i : Nat) (hi : l[i]? = some (Ob.row B e size v n xs)) (hgd : o.guard = none) (s x : Operand) (t : TypeId)
    (ho : o.op = .call { callee := .builtin .append, args := #[s, x], argTypes := #[t, t] }) (z : Value) (bytes : Nat) (ht : P.underlying t = some (.slice e)) (hinfo : (P.info? e).map (fun i => (i.zero, i.size, i.bytes)) = some (some z, size, bytes)) (hzs : z.cells.size = size) (hsz : 0 < size) (hB : B ≤ w.heap.size)
    (hv : a.eval s = v) (y : Value) (m : Nat) (news : List Value) (hx : a.eval x = y) (hr : RowReads w size y m news) (h1 : ∀ u ∈ news, u.oneCell' = true) (h63 : n + m ≤ maxLen) (hbytes : (n + m) * bytes ≤ 140737488355328)
    (hK : ∀ v' w', Stage F0 W (l.set i (Ob.row B e size v' (n + m) (xs ++ news))) w' → (∀ k, rowF v' k → rowF v k ∨ w.heap.size ≤ k) → K (a.put o.dst v') w') :
    if Region.wanted o (yielded ops a.tmps) = true then Oper.wp P o a w K Q else E := by
  have hw : Region.wanted o (yielded ops a.tmps) = true := by simp [Region.wanted, hgd]
  rw [if_pos hw]
  obtain ⟨v', w', hrun, h2, h3⟩ := hs.run_append (P := P) i hi t o.type z bytes ht hinfo hzs hsz hB y m news hr h1 h63 hbytes
  unfold Oper.wp execOp
  simp only [ho, resolve, invoke, builtin, Sem.run_bind, Sem.run_pure, Result.andThen_ok, List.map_toArray, List.map_cons, List.map_nil, hv, hx, hrun]
  exact hK v' w' h2 h3
end Stage
end Go.Proofs.Ytcjjglaimfhofaa

namespace Go.Proofs.Ytcjjglaimfhofaa
open Go.RowKit Go.Sort
namespace Stage
variable {F0 : Nat → Prop} {W w w' : World} {l : List Ob} {P : Program} {f : FuncId} {args : Array Value} {v : Value}
/-- A call that knows the first things alone: the others are as they were. -/
theorem frameEx {α : Type} {r : List Ob} {Post : α → Ending → Prop} {l' : α → List Ob} (h : Stage F0 W (l ++ r) w) (hc : ∀ F : Nat → Prop, (∀ b, F b → b < w.heap.size) → Stage F w l w → Calls P f args w fun e w' => ∃ x, Post x e ∧ Stage F w (l' x) w') :
    Calls P f args w fun e w' => ∃ x, Post x e ∧ Stage F0 W (l' x ++ r) w' := by
  obtain ⟨hk, G, h1, h2, h3⟩ := h
  have hW := hk.size
  refine (hc (fun b => ∃ i, i < l.length ∧ G i b) (fun b ⟨i, _, hb⟩ => (h3 i b hb).2) ⟨Keeps.refl _ _, fun i b => i < l.length ∧ G i b, fun i O hi => ?_, fun i j b hij hb hb' => h2 i j b hij hb.2 hb'.2, fun i b hb => ⟨Or.inl ⟨i, hb⟩, (h3 i b hb.2).2⟩⟩).mono ?_
  · have hl := Scene.idx hi
    have e : (fun b => i < l.length ∧ G i b) = G i := by funext b; simp [hl]
    show O.holds w (fun b => i < l.length ∧ G i b)
    rw [e]
    exact h1 i O (by rw [List.getElem?_append_left hl]; exact hi)
  · rintro e w' ⟨x, hp, hk', G', g1, g2, g3⟩
    refine ⟨x, hp, ⟨hk'.os.trans hk.os, hk'.tape.trans hk.tape, hk'.output.trans hk.output, Nat.le_trans hW hk'.size, fun k hk1 hn => (hk'.block k (Nat.lt_of_lt_of_le hk1 hW) (fun ⟨i, _, hb⟩ => ?_)).trans (hk.block k hk1 hn)⟩,
      fun i => if i < (l' x).length then G' i else G (l.length + (i - (l' x).length)), fun i O hi => ?_, fun i j b hij hb hb' => ?_, fun i b hb => ?_⟩
    · rcases (h3 i k hb).1 with h | h
      · exact hn h
      · omega
    · by_cases hi' : i < (l' x).length
      · simp only [if_pos hi']
        rw [List.getElem?_append_left hi'] at hi
        exact g1 i O hi
      · simp only [if_neg hi']
        rw [List.getElem?_append_right (by omega)] at hi
        refine O.keeps (h1 (l.length + (i - (l' x).length)) O ?_) hk' (fun b hb ⟨j, hj, hb'⟩ => h2 _ j b (by omega) hb hb')
        rw [List.getElem?_append_right (by omega), Nat.add_sub_cancel_left]
        exact hi
    · simp only at hb hb'
      split at hb
      · split at hb'
        · exact g2 i j b hij hb hb'
        · rcases (g3 i b hb).1 with ⟨k, hk1, hk2⟩ | h
          · exact h2 k _ b (by omega) hk2 hb'
          · have := (h3 _ b hb').2; omega
      · split at hb'
        · rcases (g3 j b hb').1 with ⟨k, hk1, hk2⟩ | h
          · exact h2 k _ b (by omega) hk2 hb
          · have := (h3 _ b hb).2; omega
        · exact h2 _ _ b (by omega) hb hb'
    · simp only at hb
      split at hb
      · refine ⟨?_, (g3 i b hb).2⟩
        rcases (g3 i b hb).1 with ⟨k, _, hk2⟩ | h
        · exact (h3 k b hk2).1
        · exact Or.inr (by omega)
      · exact ⟨(h3 _ b hb).1, Nat.lt_of_lt_of_le (h3 _ b hb).2 hk'.size⟩
theorem frame {r l' : List Ob} (h : Stage F0 W (l ++ r) w) (hc : ∀ F : Nat → Prop, (∀ b, F b → b < w.heap.size) → Stage F w l w → Calls P f args w fun e w' => e = .returned v ∧ Stage F w l' w') :
    Calls P f args w fun e w' => e = .returned v ∧ Stage F0 W (l' ++ r) w' :=
  (h.frameEx (α := Unit) (Post := fun _ e => e = .returned v) (l' := fun _ => l') fun F hF hs => (hc F hF hs).mono fun _ _ ⟨h1, h2⟩ => ⟨(), h1, h2⟩).mono fun _ _ ⟨_, h1, h2⟩ => ⟨h1, h2⟩

end Stage
end Go.Proofs.Ytcjjglaimfhofaa

namespace Go.Proofs.Ytcjjglaimfhofaa
open Go.RowKit Go.Sort

/-- A function that a call by a name enters, and the receiver that it is handed. -/
structure Fn where
  id : FuncId
  rv : Value
/-- By the name n the value v of type T is called by f, in each world in which H holds. -/
structure Meth (H : World → Prop) (T : TypeId) (v : Value) (n : String) (f : Fn) : Prop where
  find : ∀ w, H w → (method 272 T v n).run Try.prog w = .ok (f.id, f.rv) w
  enter : ∀ args w, (callFunc f.id args).run Try.prog w = .ok (.enter f.id args) w
def inInt (y : Int) : Prop := -9223372036854775808 ≤ y ∧ y ≤ 9223372036854775807
abbrev ptrV (p : Nat) : Value := .pointer (some ⟨p, 0, none⟩)
namespace Stage
variable {F0 : Nat → Prop} {W w w' : World} {l : List Ob} {P : Program} {f : FuncId} {args : Array Value} {O : Ob} {v : Value}
/-- A call on one thing, which it turns into one of some things. -/
theorem callEx {α : Type} {Q : α → Prop} {O' : α → Ob} (h : Stage F0 W l w) (i : Nat) (hi : l[i]? = some O) (hc : ∀ F, O.holds w F → Calls P f args w fun e w' => e = .returned v ∧ ∃ a, Q a ∧ ∃ F', (O' a).holds w' F' ∧ Moved F F' w w') :
    Calls P f args w fun e w' => e = .returned v ∧ ∃ a, Q a ∧ Stage F0 W (l.set i (O' a)) w' := by
  obtain ⟨hbl, F, h1, h2, h3⟩ := h
  exact (hc (F i) (h1 i O hi)).mono fun e w' ⟨he, a, hq, F', ho, m⟩ => ⟨he, a, hq, swap hbl h1 h2 h3 (Scene.idx hi) ho m⟩
end Stage
end Go.Proofs.Ytcjjglaimfhofaa
