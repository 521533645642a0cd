/- Merged of Cells4, Cells5. -/
import Derived.Test.YtmoolbmbdnkooaaGreatCells3
namespace Go.Proofs.YtmoolbmbdnkooaaGreat
open Go.RowKit Go.Sort

/-- An entry of one slot is written. -/
theorem parts_put2 {F0 : Nat → Prop} {W0 w : World} {p : Nat} {N : NS} {raw : List CellD} {s : Int} {pn g c bm : Nat} {f : Int → Int} (hs : Stage F0 W0 (cellParts p N raw s pn (.slice (some ⟨g, 0, none⟩) raw.length c) bm f) w) (i : Nat) (hi : i < raw.length) (k q : Int) :
    Stage F0 W0 (cellParts p N (raw.set i ⟨(raw.getD i .off).home, k, q⟩) s pn (.slice (some ⟨g, 0, none⟩) (raw.set i ⟨(raw.getD i .off).home, k, q⟩).length c) bm f) ((w.setCell ⟨g, i * 3 + 1, none⟩ (.int .i64 k)).setCell ⟨g, i * 3 + 2, none⟩ (.int .u64 q)) := by
  have s1 := cellsBy_set cellC 3 cellC_len .off raw i 1 (.int .i64 k) ⟨(raw.getD i .off).home, k, (raw.getD i .off).seq⟩ hi (by omega) rfl
  have s2 := cellsBy_set cellC 3 cellC_len .off (raw.set i ⟨(raw.getD i .off).home, k, (raw.getD i .off).seq⟩) i 2 (.int .u64 q) ⟨(raw.getD i .off).home, k, q⟩ (by simpa using hi) (by omega) (by rw [getD_set' _ _ _ _ _ hi, if_pos rfl]; rfl)
  rw [List.set_set] at s2
  have h3 := (hs.storeRow 2 rfl (i * 3 + 1) (.int .i64 k) s1).storeRow 2 rfl (i * 3 + 2) (.int .u64 q) s2
  rw [List.length_set]
  unfold cellParts
  rw [List.length_set]
  exact h3

section
variable {w : World} {p : Nat} {W : WS} {s : Int} {F : Nat → Prop}
theorem join_cl (a b : Int) (h : (Ob.cells p W s).holds w F) : Calls Tryz.prog 104 #[.pointer (some ⟨p, 0, none⟩), .int .i64 a, .int .i64 b] w fun e w' => e = .returned (.bool (joinBW W a b)) ∧ ∃ F', (Ob.cells p (joinW W a b) s).holds w' F' ∧ Moved F F' w w' := by
  have hF := (Ob.cells p W s).lt h
  obtain ⟨N, raw, pn, v, bm, hR, rfl, hr, hg⟩ := h
  have hs := Ob.group.open hg
  have c1 := parts_c1 hs
  have hK := hs.call 1 rfl (O' := Ob.names 0 pn (afterJ N a b)) (fun _ ho => join_nm a b ho)
  rw [abs_joinB]
  cases hj : joinB N a b
  · have e1 : joinW (absW N raw) a b = absW N raw := by simp [joinW, abs_joinB, hj]
    have e2 : afterJ N a b = N := by simp [afterJ, hj]
    rw [e1]
    rw [hj, e2] at hK
    clear hg
    go_enter Tryz.func104, Tryz.ntmps104
    go_wp2_with fail
    refine hK.mono ?_
    rintro e w1 ⟨rfl, hs1⟩
    go_wp2_with fail
    go_ret
    exact ⟨rfl, cells_close hs1 hF hR rfl (fun _ => rfl) hr⟩
  · rw [hj] at hK
    obtain ⟨i, j, rfl, rfl, hij, hi, hj2, e2, hR2, hlen⟩ := abs_join hR hj
    have hl1 := len_le (absW N raw) i
    have hl2 := len_le (absW N raw) j
    rw [abs_len] at hl1 hl2
    have hj3 : j < 65537 := by have := hR.nfit.lenLe; omega
    have hcap := hR.cap
    have hNl := hR.nfit.lenLe
    clear hg
    go_enter Tryz.func104, Tryz.ntmps104
    go_wp2_with fail
    refine hK.mono ?_
    rintro e w1 ⟨rfl, hs1⟩
    replace hs1 : Stage F w (cellParts p (afterJ N i j) raw s pn v bm fun y => lenW (absW N raw) y) w1 := hs1
    have c3 := parts_c3 hs1
    have l0 := hs1.look 3 rfl Tryz.underlying50 Tryz.underlying3 Tryz.underlying3 (zero_int w1) j (by omega)
    obtain ⟨x, hx⟩ : ∃ x : Nat, x = lenW (absW N raw) j := ⟨_, rfl⟩
    rw [← hx] at hl2
    simp only [← hx] at l0
    replace hx := Lib.hid hx
    have e3 : IntKind.i64.wrap (-(x : Int)) = -(x : Int) := IntWalk.i64_in _ (by omega)
    clear hK hs c1
    obtain ⟨z, hz⟩ : ∃ z : Nat, z = lenW (absW N raw) i := ⟨_, rfl⟩
    obtain ⟨f0, hf0⟩ : ∃ f0 : Int → Int, f0 = fun y => (lenW (absW N raw) y : Int) := ⟨_, rfl⟩
    rw [← hf0] at hs1
    have q0 : f0 i = z := by rw [hf0, hz]
    rw [← hz] at hl1
    replace hf0 := Lib.hid hf0
    replace hz := Lib.hid hz
    have hG1 := grow_st hs1 i (by omega) z x (z + x) q0 rfl (by omega)
    go_wp2_with fail
    refine hG1.mono ?_
    rintro e w2 ⟨rfl, hs2⟩
    clear l0 c3
    obtain ⟨f1, hf1⟩ : ∃ f1, f1 = setI f0 i (z + x) := ⟨_, rfl⟩
    rw [← hf1] at hs2
    have q1 : f1 j = x := by rw [hf1]; unfold setI; rw [if_neg (by omega), hf0.out, hx.out]
    replace hf1 := Lib.hid hf1
    have hG := grow_st hs2 j (by omega) x (-x) 0 q1 (by omega) (by omega)
    go_wp2_with fail
    refine hG.mono ?_
    rintro e w3 ⟨rfl, hs3⟩
    clear hG hs2
    go_wp2_with fail
    go_ret
    exact ⟨rfl, cells_close hs3 hF hR2 e2 (fun y => by
      rw [hlen, hf1.out, hf0.out, hx.out, hz.out]
      unfold setI
      by_cases e1 : y = (j : Int)
      · rw [if_pos e1, if_neg (by omega), if_pos e1]
      · rw [if_neg e1]
        by_cases e2 : y = (i : Int)
        · rw [if_pos e2, if_pos e2]
        · rw [if_neg e2, if_neg e2, if_neg e1]) hr⟩
theorem lower_cl (x k q : Int) (h : (Ob.cells p W s).holds w F) : Calls Tryz.prog 100 #[.pointer (some ⟨p, 0, none⟩), .int .i64 x, .agg #[.int .i64 k, .int .u64 q]] w fun e w' => e = .returned (.bool (lowerB W x k q)) ∧ ∃ F', (Ob.cells p (lowerW W x k q) s).holds w' F' ∧ Moved F F' w w' := by
  have hF := (Ob.cells p W s).lt h
  have hb0 : Below w.heap.size w (w.alloc (.cells #[.int .i64 k, .int .u64 q] 42)) := (Below.refl _ _).alloc (Nat.le_refl _) _
  have hno : lowerB W x k q = false → lowerW W x k q = W := fun e => by simp [lowerW, e]
  have h' := h
  obtain ⟨N, raw, pn, v, bm, hR, rfl, hr, hg⟩ := h'
  have hs := (Ob.group.open hg).alloc #[.int .i64 k, .int .u64 q] 42
  have hA := at_st (hs.take 4) hR.cap x
  have hin := abs_in hR x
  have hD := fun w => held_any (rawAt raw x) w
  rw [← hin] at hD
  have hce : (cellW (absW N raw) x).key = (rawAt raw x).key ∧ (cellW (absW N raw) x).seq = (rawAt raw x).seq := by rw [abs_cell hR]; exact ⟨rfl, rfl⟩
  have hL := fun w => less_any (rawAt raw x).key (rawAt raw x).seq k q w
  cases c3 : inW (absW N raw) x
  · have e1 : lowerB (absW N raw) x k q = false := by simp [lowerB, c3]
    rw [c3] at hD
    rw [e1, hno e1]
    simp only [cellV] at hA hD
    clear hce hL hin
    generalize rawAt raw x = d at *
    go_enter Tryz.func100, Tryz.ntmps100
    go_wp2_with fail
    refine hA.mono ?_
    rintro e w1 ⟨rfl, hb1⟩
    have hb2 := below_chain hb0 hb1
    go_wp2_with fail
    refine (hD _).mono ?_
    rintro e w2 ⟨rfl, rfl⟩
    go_wp2_with fail
    go_ret
    exact ⟨rfl, cells_below h ((hb2.alloc hb2.size _).alloc (by rw [size_alloc]; have := hb2.size; omega) _)⟩
  · rw [c3] at hD
    rw [← hce.1, ← hce.2] at hL
    cases c4 : lessB (cellW (absW N raw) x).key (cellW (absW N raw) x).seq k q
    · have e1 : lowerB (absW N raw) x k q = true := by simp [lowerB, c3, c4]
      rw [e1]
      rw [hce.1, hce.2] at hL
      rw [hce.1, hce.2] at c4
      rw [c4] at hL
      obtain ⟨j, rfl, hj, e2, hR2, hlen⟩ := abs_lower hR e1
      clear hce hin hno c3 c4
      have hd : rawAt raw (j : Int) = raw.getD j .off := by
        have : slotR raw (j : Int) = true := by simp [slotR]; omega
        simp [rawAt, this]
      rw [hd] at hA hD hL
      simp only [cellV] at hA hD
      go_enter Tryz.func100, Tryz.ntmps100
      go_wp2_with fail
      refine hA.mono ?_
      rintro e w1 ⟨rfl, hb1⟩
      replace hs := hs.later hb1
      clear hb1 hA hg hd
      have hs2 := hs.alloc #[.int .i64 (raw.getD j .off).home, .int .i64 (raw.getD j .off).key, .int .u64 (raw.getD j .off).seq] 90
      have hput := fun (g c : Nat) (V : World) (h : Stage F w _ V) => parts_put2 (p := p) (N := N) (s := s) (pn := pn) (bm := bm) (f := fun y => lenW (absW N raw) y) (g := g) (c := c) h j hj k q
      generalize raw.getD j .off = d at *
      generalize hb5 : w.heap.size = b5 at *
      go_wp2_with fail
      refine (hD _).mono ?_
      rintro e w2 ⟨rfl, rfl⟩
      replace hs2 := hs2.alloc #[.int .i64 d.home, .int .i64 d.key, .int .u64 d.seq] 90
      generalize hb6 : w1.heap.size = b6 at *
      have k0 := hs2.cell 4 rfl (o := 0) rfl
      have k1 := hs2.cell 4 rfl (o := 1) rfl
      have m0 := hs2.cell 5 rfl (o := 0) rfl
      have m1 := hs2.cell 5 rfl (o := 1) rfl
      have m2 := hs2.cell 5 rfl (o := 2) rfl
      clear hD
      generalize World.alloc _ _ = V at *
      go_wp2_with fail
      refine (hL _).mono ?_
      rintro e w3 ⟨rfl, hb3⟩
      replace hs2 := hs2.later hb3
      replace k0 := later hb3 k0
      replace k1 := later hb3 k1
      have hp : Stage F w (cellParts p N raw s pn v bm fun y => lenW (absW N raw) y) w3 := hs2.take 4
      obtain ⟨g, c, rfl, hc1, hc2, hgp, hg, u0, u1, u2, hf⟩ := parts_row hp j hj
      have c2 := parts_c2 hp
      have hf1 := hf (j * 3 + 1)
      have hf2 := hf (j * 3 + 2)
      have hcap := hR.cap
      obtain ⟨V2, hV2, hp2⟩ : ∃ V2, ((w3.setCell ⟨g, j * 3 + 1, none⟩ (.int .i64 k)).setCell ⟨g, j * 3 + 2, none⟩ (.int .u64 q)).drew = V2 ∧ Stage F w _ V2 := ⟨_, rfl, (hput g c w3 hp).drew⟩
      clear hf hp hs hL hput hb3 m0 m1 m2 h hg hgp hb0 hs2
      generalize hn : raw.length = n at *
      go_wp2_with fail
      go_region
      clear hV2
      go_wp2_with fail
      go_ret
      exact ⟨rfl, cells_close hp2 (by rw [hb5]; exact hF) hR2 e2 (fun y => by rw [hlen]) hr⟩
    · have e1 : lowerB (absW N raw) x k q = false := by simp [lowerB, c3, c4]
      rw [c4] at hL
      rw [hce.1, hce.2] at hL
      rw [e1, hno e1]
      simp only [cellV] at hA hD
      clear hce hin hno c4
      generalize rawAt raw x = d at *
      go_enter Tryz.func100, Tryz.ntmps100
      go_wp2_with fail
      refine hA.mono ?_
      rintro e w1 ⟨rfl, hb1⟩
      have hb2 := below_chain hb0 hb1
      replace hb2 := (hb2.alloc hb2.size (.cells #[.int .i64 d.home, .int .i64 d.key, .int .u64 d.seq] 90)).alloc (by rw [size_alloc]; have := hb2.size; omega) (.cells #[.int .i64 d.home, .int .i64 d.key, .int .u64 d.seq] 90)
      replace hs := hs.later hb1
      have hs2 := hs.alloc #[.int .i64 d.home, .int .i64 d.key, .int .u64 d.seq] 90
      generalize hb5 : w.heap.size = b5 at *
      go_wp2_with fail
      refine (hD _).mono ?_
      rintro e w2 ⟨rfl, rfl⟩
      replace hs2 := hs2.alloc #[.int .i64 d.home, .int .i64 d.key, .int .u64 d.seq] 90
      generalize hb6 : w1.heap.size = b6 at *
      have k0 := hs2.cell 4 rfl (o := 0) rfl
      have k1 := hs2.cell 4 rfl (o := 1) rfl
      have m0 := hs2.cell 5 rfl (o := 0) rfl
      have m1 := hs2.cell 5 rfl (o := 1) rfl
      have m2 := hs2.cell 5 rfl (o := 2) rfl
      clear hD hb0 hb1
      generalize World.alloc _ _ = V at *
      go_wp2_with fail
      refine (hL _).mono ?_
      rintro e w3 ⟨rfl, hb3⟩
      rw [← hb5] at hb2
      go_wp2_with fail
      go_ret
      exact ⟨rfl, cells_below h (below_chain hb2 hb3)⟩
end
end Go.Proofs.YtmoolbmbdnkooaaGreat

namespace Go.Proofs.YtmoolbmbdnkooaaGreat
open Go.RowKit Go.Sort

theorem aheadC_same {c d : CellD} (h1 : c.key = d.key) (h2 : c.seq = d.seq) (a b : Int) : aheadC c d a b = decide (a < b) := by simp [aheadC, h1, h2, lessB_self]
theorem aheadC_other {c d : CellD} (h : ¬ (c.key = d.key ∧ c.seq = d.seq)) (a b : Int) : aheadC c d a b = lessB c.key c.seq d.key d.seq := by
  have : (c.key == d.key && c.seq == d.seq) = false := by
    rw [Bool.and_eq_false_iff]
    by_cases e : c.key = d.key
    · exact Or.inr (by simpa using fun e2 => h ⟨e, e2⟩)
    · exact Or.inl (by simpa using e)
  simp [aheadC, this]
/-- How many steps were counted, behind it. -/
def aheadS (W : WS) (s : Int) (a b : Int) : Int := if inW W a && inW W b then addI s 1 else s

section
variable {w : World} {p : Nat} {W : WS} {s : Int} {F : Nat → Prop}
theorem ahead_cl (a b : Int) (h : (Ob.cells p W s).holds w F) : Calls Tryz.prog 91 #[.pointer (some ⟨p, 0, none⟩), .int .i64 a, .int .i64 b] w fun e w' => e = .returned (.bool (aheadW W a b)) ∧ ∃ F', (Ob.cells p W (aheadS W s a b)).holds w' F' ∧ Moved F F' w w' := by
  have hF := (Ob.cells p W s).lt h
  have h' := h
  obtain ⟨N, raw, pn, v, bm, hR, rfl, hr, hg⟩ := h'
  have hs := Ob.group.open hg
  have hA := at_st hs hR.cap a
  have hB := fun w' (hb : Below w.heap.size w w') => at_st (hs.later hb) hR.cap b
  have ia := abs_in hR a
  have ib := abs_in hR b
  have hD := fun w => held_any (rawAt raw a) w
  have hE := fun w => held_any (rawAt raw b) w
  rw [← ia] at hD
  rw [← ib] at hE
  have hce : aheadC (cellW (absW N raw) a) (cellW (absW N raw) b) a b = aheadC (rawAt raw a) (rawAt raw b) a b := by rw [abs_cell hR, abs_cell hR]; rfl
  have hL := fun w => less_any (rawAt raw a).key (rawAt raw a).seq (rawAt raw b).key (rawAt raw b).seq w
  simp only [cellV] at hA hB hD hE
  clear ia ib
  generalize rawAt raw a = c at *
  generalize rawAt raw b = d at *
  cases ca : inW (absW N raw) a
  · have e1 : aheadW (absW N raw) a b = false := by simp [aheadW, ca]
    have e2 : aheadS (absW N raw) s a b = s := by simp [aheadS, ca]
    rw [ca] at hD
    rw [e1, e2]
    clear hce hL hE e1 e2
    go_enter Tryz.func91, Tryz.ntmps91
    go_wp2_with fail
    refine hA.mono ?_
    rintro e w1 ⟨rfl, hb1⟩
    go_wp2_with fail
    refine (hB _ hb1).mono ?_
    rintro e w2 ⟨rfl, hb2⟩
    have hb3 := below_chain hb1 hb2
    replace hs := hs.later hb3
    clear hA hB
    obtain ⟨V, hV, hb4, hs4⟩ : ∃ V, (w2.alloc (.cells #[.int .i64 c.home, .int .i64 c.key, .int .u64 c.seq] 90)).alloc (.cells #[.int .i64 d.home, .int .i64 d.key, .int .u64 d.seq] 90) = V ∧ Below w.heap.size w V ∧ Stage F w ((_ ++ [_]) ++ [_]) V :=
      ⟨_, rfl, (hb3.alloc hb3.size _).alloc (by rw [size_alloc]; have := hb3.size; omega) _, (hs.alloc #[.int .i64 c.home, .int .i64 c.key, .int .u64 c.seq] 90).alloc' #[.int .i64 d.home, .int .i64 d.key, .int .u64 d.seq] 90 (b := w2.heap.size + 1) (size_alloc _ _)⟩
    have j0 := hs4.cell 4 rfl (o := 0) rfl
    have j1 := hs4.cell 4 rfl (o := 1) rfl
    have j2 := hs4.cell 4 rfl (o := 2) rfl
    have k0 := hs4.cell 5 rfl (o := 0) rfl
    have k1 := hs4.cell 5 rfl (o := 1) rfl
    have k2 := hs4.cell 5 rfl (o := 2) rfl
    go_wp2_with fail
    clear hV j0 j1 j2 k0 k1 k2
    refine (hD _).mono ?_
    rintro e w3 ⟨rfl, rfl⟩
    replace hb4 := hb4.alloc hb4.size (.cells #[.int .i64 c.home, .int .i64 c.key, .int .u64 c.seq] 90)
    replace hs4 := hs4.later ((Below.refl _ V).alloc (Nat.le_refl _) (.cells #[.int .i64 c.home, .int .i64 c.key, .int .u64 c.seq] 90))
    generalize World.alloc _ _ = V2 at *
    have j0 := hs4.cell 4 rfl (o := 0) rfl
    have j1 := hs4.cell 4 rfl (o := 1) rfl
    have j2 := hs4.cell 4 rfl (o := 2) rfl
    have k0 := hs4.cell 5 rfl (o := 0) rfl
    have k1 := hs4.cell 5 rfl (o := 1) rfl
    have k2 := hs4.cell 5 rfl (o := 2) rfl
    go_wp2_with fail
    go_ret
    exact ⟨rfl, cells_below h hb4⟩
  · rw [ca] at hD
    cases cb : inW (absW N raw) b
    · have e1 : aheadW (absW N raw) a b = false := by simp [aheadW, cb]
      have e2 : aheadS (absW N raw) s a b = s := by simp [aheadS, cb]
      rw [cb] at hE
      rw [e1, e2]
      clear hce hL e1 e2
      go_enter Tryz.func91, Tryz.ntmps91
      go_wp2_with fail
      refine hA.mono ?_
      rintro e w1 ⟨rfl, hb1⟩
      go_wp2_with fail
      refine (hB _ hb1).mono ?_
      rintro e w2 ⟨rfl, hb2⟩
      have hb3 := below_chain hb1 hb2
      replace hs := hs.later hb3
      clear hA hB
      obtain ⟨V, hV, hb4, hs4⟩ : ∃ V, (w2.alloc (.cells #[.int .i64 c.home, .int .i64 c.key, .int .u64 c.seq] 90)).alloc (.cells #[.int .i64 d.home, .int .i64 d.key, .int .u64 d.seq] 90) = V ∧ Below w.heap.size w V ∧ Stage F w ((_ ++ [_]) ++ [_]) V :=
        ⟨_, rfl, (hb3.alloc hb3.size _).alloc (by rw [size_alloc]; have := hb3.size; omega) _, (hs.alloc #[.int .i64 c.home, .int .i64 c.key, .int .u64 c.seq] 90).alloc' #[.int .i64 d.home, .int .i64 d.key, .int .u64 d.seq] 90 (b := w2.heap.size + 1) (size_alloc _ _)⟩
      have j0 := hs4.cell 4 rfl (o := 0) rfl
      have j1 := hs4.cell 4 rfl (o := 1) rfl
      have j2 := hs4.cell 4 rfl (o := 2) rfl
      have k0 := hs4.cell 5 rfl (o := 0) rfl
      have k1 := hs4.cell 5 rfl (o := 1) rfl
      have k2 := hs4.cell 5 rfl (o := 2) rfl
      go_wp2_with fail
      clear hV j0 j1 j2 k0 k1 k2
      refine (hD _).mono ?_
      rintro e w3 ⟨rfl, rfl⟩
      replace hb4 := hb4.alloc hb4.size (.cells #[.int .i64 c.home, .int .i64 c.key, .int .u64 c.seq] 90)
      replace hs4 := hs4.later ((Below.refl _ V).alloc (Nat.le_refl _) (.cells #[.int .i64 c.home, .int .i64 c.key, .int .u64 c.seq] 90))
      generalize World.alloc _ _ = V2 at *
      have j0 := hs4.cell 4 rfl (o := 0) rfl
      have j1 := hs4.cell 4 rfl (o := 1) rfl
      have j2 := hs4.cell 4 rfl (o := 2) rfl
      have k0 := hs4.cell 5 rfl (o := 0) rfl
      have k1 := hs4.cell 5 rfl (o := 1) rfl
      have k2 := hs4.cell 5 rfl (o := 2) rfl
      go_wp2_with fail
      refine (hE _).mono ?_
      rintro e w3 ⟨rfl, rfl⟩
      go_wp2_with fail
      go_ret
      exact ⟨rfl, cells_below h (hb4.alloc hb4.size _)⟩
    · have e1 : aheadW (absW N raw) a b = aheadC c d a b := by simp [aheadW, ca, cb, hce]
      have e2 : aheadS (absW N raw) s a b = addI s 1 := by simp [aheadS, ca, cb]
      rw [cb] at hE
      obtain ⟨ans, hans⟩ : ∃ ans, ans = aheadC c d a b := ⟨_, rfl⟩
      rw [e1, e2, ← hans]
      replace hans := Lib.hid hans
      clear hce e1 e2 ca cb
      go_enter Tryz.func91, Tryz.ntmps91
      go_wp2_with fail
      refine hA.mono ?_
      rintro e w1 ⟨rfl, hb1⟩
      go_wp2_with fail
      refine (hB _ hb1).mono ?_
      rintro e w2 ⟨rfl, hb2⟩
      have hb3 := below_chain hb1 hb2
      replace hs := hs.later hb3
      clear hA hB
      obtain ⟨V, hV, hb4, hs4⟩ : ∃ V, (w2.alloc (.cells #[.int .i64 c.home, .int .i64 c.key, .int .u64 c.seq] 90)).alloc (.cells #[.int .i64 d.home, .int .i64 d.key, .int .u64 d.seq] 90) = V ∧ Below w.heap.size w V ∧ Stage F w ((_ ++ [_]) ++ [_]) V :=
        ⟨_, rfl, (hb3.alloc hb3.size _).alloc (by rw [size_alloc]; have := hb3.size; omega) _, (hs.alloc #[.int .i64 c.home, .int .i64 c.key, .int .u64 c.seq] 90).alloc' #[.int .i64 d.home, .int .i64 d.key, .int .u64 d.seq] 90 (b := w2.heap.size + 1) (size_alloc _ _)⟩
      have j0 := hs4.cell 4 rfl (o := 0) rfl
      have j1 := hs4.cell 4 rfl (o := 1) rfl
      have j2 := hs4.cell 4 rfl (o := 2) rfl
      have k0 := hs4.cell 5 rfl (o := 0) rfl
      have k1 := hs4.cell 5 rfl (o := 1) rfl
      have k2 := hs4.cell 5 rfl (o := 2) rfl
      go_wp2_with fail
      clear hV j0 j1 j2 k0 k1 k2
      refine (hD _).mono ?_
      rintro e w3 ⟨rfl, rfl⟩
      replace hb4 := hb4.alloc hb4.size (.cells #[.int .i64 c.home, .int .i64 c.key, .int .u64 c.seq] 90)
      replace hs4 := hs4.later ((Below.refl _ V).alloc (Nat.le_refl _) (.cells #[.int .i64 c.home, .int .i64 c.key, .int .u64 c.seq] 90))
      generalize World.alloc _ _ = V2 at *
      have j0 := hs4.cell 4 rfl (o := 0) rfl
      have j1 := hs4.cell 4 rfl (o := 1) rfl
      have j2 := hs4.cell 4 rfl (o := 2) rfl
      have k0 := hs4.cell 5 rfl (o := 0) rfl
      have k1 := hs4.cell 5 rfl (o := 1) rfl
      have k2 := hs4.cell 5 rfl (o := 2) rfl
      go_wp2_with fail
      refine (hE _).mono ?_
      rintro e w3 ⟨rfl, rfl⟩
      replace hs4 := hs4.later ((Below.refl _ V2).alloc (Nat.le_refl _) (.cells #[.int .i64 d.home, .int .i64 d.key, .int .u64 d.seq] 90))
      clear j0 j1 j2 k0 k1 k2 hb4
      generalize World.alloc _ _ = V3 at *
      have hC := meter_count p 0 s 1 hr V3 (hs4.cell 0 rfl rfl) (hs4.free 0 rfl 0)
      clear hD hE
      go_wp2_with fail
      refine hC.mono ?_
      rintro e w4 ⟨rfl, hw⟩
      replace hs4 := hs4.wrote 0 rfl hw
      have hp : Stage F w (cellParts p N raw (addI s 1) pn v bm fun y => lenW (absW N raw) y) w4 := hs4.take 4
      have j0 := hs4.cell 4 rfl (o := 0) rfl
      have j1 := hs4.cell 4 rfl (o := 1) rfl
      have j2 := hs4.cell 4 rfl (o := 2) rfl
      have k0 := hs4.cell 5 rfl (o := 0) rfl
      have k1 := hs4.cell 5 rfl (o := 1) rfl
      have k2 := hs4.cell 5 rfl (o := 2) rfl
      clear hC hw hs4 h hg hs hb1 hb2 hb3
      have hr2 := add_range hr 1
      generalize w2.heap.size = b5 at *
      by_cases heq : c.key = d.key ∧ c.seq = d.seq
      · obtain ⟨q1, q2⟩ := heq
        replace hans := hans.out
        rw [aheadC_same q1 q2] at hans
        rw [q1] at j1
        rw [q2] at j2
        subst hans
        clear q1 q2 hL
        go_wp2_with fail
        go_ret
        exact ⟨rfl, cells_close hp hF hR rfl (fun _ => rfl) hr2⟩
      · replace hans := hans.out
        rw [aheadC_other heq] at hans
        replace hans := Lib.hid hans
        by_cases q1 : c.key = d.key
        · have q2 : (c.seq == d.seq) = false := by simpa using fun e => heq ⟨q1, e⟩
          have q1' : (c.key == d.key) = true := by simpa using q1
          replace q1 := Lib.hid q1
          clear heq
          go_wp2_with fail
          refine (hL _).mono ?_
          rintro e w5 ⟨rfl, hb5⟩
          go_wp2_with fail
          go_ret
          exact ⟨ret_bool hans.out.symm, cells_close (hp.later hb5) hF hR rfl (fun _ => rfl) hr2⟩
        · have q1' : (c.key == d.key) = false := by simpa using q1
          clear heq q1
          go_wp2_with fail
          refine (hL _).mono ?_
          rintro e w5 ⟨rfl, hb5⟩
          go_wp2_with fail
          go_ret
          exact ⟨ret_bool hans.out.symm, cells_close (hp.later hb5) hF hR rfl (fun _ => rfl) hr2⟩
end
end Go.Proofs.YtmoolbmbdnkooaaGreat
