/- Merged of Cells3, Cells4. -/
import Derived.Test.YtmoolbmbdnkooaaCells2
namespace Go.Proofs.Ytmoolbmbdnkooaa
open Go.RowKit Go.Sort

theorem cellC_put (raw : List CellD) (i : Nat) (hi : i < raw.length) (c : CellD) : (((cellsBy cellC raw).set (i * 3) (.int .i64 c.home)).set (i * 3 + 1) (.int .i64 c.key)).set (i * 3 + 2) (.int .u64 c.seq) = cellsBy cellC (raw.set i c) := by
  obtain ⟨h, k, q⟩ := c
  have s0 := cellsBy_set cellC 3 cellC_len .off raw i 0 (.int .i64 h) ⟨h, (raw.getD i .off).key, (raw.getD i .off).seq⟩ hi (by omega) rfl
  rw [Nat.add_zero] at s0
  rw [s0]
  have s1 := cellsBy_set cellC 3 cellC_len .off (raw.set i ⟨h, (raw.getD i .off).key, (raw.getD i .off).seq⟩) i 1 (.int .i64 k) ⟨h, k, (raw.getD i .off).seq⟩ (by simpa using hi) (by omega) (by rw [getD_set' _ _ _ _ _ hi, if_pos rfl]; rfl)
  rw [s1, List.set_set]
  have s2 := cellsBy_set cellC 3 cellC_len .off (raw.set i ⟨h, k, (raw.getD i .off).seq⟩) i 2 (.int .u64 q) ⟨h, k, q⟩ (by simpa using hi) (by omega) (by rw [getD_set' _ _ _ _ _ hi, if_pos rfl]; rfl)
  rw [s2, List.set_set]
theorem cells_below {p : Nat} {W : WS} {s : Int} {w w' : World} {F : Nat → Prop} (h : (Ob.cells p W s).holds w F) (hb : Below w.heap.size w w') : ∃ F', (Ob.cells p W s).holds w' F' ∧ Moved F F' w w' :=
  ⟨F, (Ob.cells p W s).keeps h (Keeps.of_below_all hb (fun _ => False)) (fun _ _ x => x), Moved.of_below hb⟩
/-- All three cells of one slot are written. -/
theorem parts_put {F0 : Nat → Prop} {W0 w : World} {p : Nat} {N : NS} {raw : List CellD} {s : Int} {pn g c bm : Nat} {f : Int → Int} (hs : Stage F0 W0 (cellParts p N raw s pn (.slice (some ⟨g, 0, none⟩) raw.length c) bm f) w) (i : Nat) (hi : i < raw.length) (d : CellD) :
    Stage F0 W0 (cellParts p N (raw.set i d) s pn (.slice (some ⟨g, 0, none⟩) (raw.set i d).length c) bm f) (((w.setCell ⟨g, i * 3, none⟩ (.int .i64 d.home)).setCell ⟨g, i * 3 + 1, none⟩ (.int .i64 d.key)).setCell ⟨g, i * 3 + 2, none⟩ (.int .u64 d.seq)) := by
  have h3 := ((hs.storeRow 2 rfl (i * 3) (.int .i64 d.home) rfl).storeRow 2 rfl (i * 3 + 1) (.int .i64 d.key) rfl).storeRow 2 rfl (i * 3 + 2) (.int .u64 d.seq) (cellC_put raw i hi d)
  rw [List.length_set]
  unfold cellParts
  rw [List.length_set]
  exact h3
def NewPostC (w : World) (n : Nat) (e : Ending) (w' : World) : Prop :=
  ∃ p, e = .returned (.tuple #[.pointer (some ⟨p, 0, none⟩), .int .i64 0]) ∧ ∃ F', (Ob.cells p (newW n) 0).holds w' F' ∧ (∀ k, F' k → w.heap.size ≤ k) ∧ Below w.heap.size w w'
theorem info_cell : (Try.prog.info? 113).map (fun i => (i.zero, i.size, i.bytes)) = some (some (.agg #[.int .i64 0, .int .i64 0, .int .u64 0]), 3, 24) := by kernel_rfl
theorem new_cl (n : Nat) (hn : n ≤ 65536) (w : World) : Calls Try.prog 25 #[.int .i64 n] w (NewPostC w n) := by
  have hmk := run_make_rows (P := Try.prog) 36 113 _ 3 24 Try.underlying36 info_cell n (by omega) (by omega)
  have hmm := @run_makeMap Try.prog
  have hN := new_nm 0 65536 w (Nat.le_refl _) (Nat.zero_le _)
  go_enter Try.func25, Try.ntmps25
  go_wp2_with fail
  refine hN.mono ?_
  rintro e w1 ⟨rfl, F1, hn1, hF1, hb1⟩
  have hs : Stage (fun _ => False) w [Ob.names 0 (w.heap.size + 1) (newN 65536)] w1 := (Stage.start w).add hb1 hn1 hF1
  generalize w.heap.size + 1 = pn at *
  go_wp2_with fail
  go_ret2
  have hs2 := ((hs.newRow 113 3 n (madeCells #[.int .i64 0, .int .i64 0, .int .u64 0] (n * 3)) (size_madeCells _ _) (by unfold maxLen; omega)).newMap Try.prog 3 3 65537 (b := w1.heap.size + 1) (size_alloc _ _)).alloc' #[.int .i64 0, .pointer (some ⟨pn, 0, none⟩), .slice (some ⟨w1.heap.size, 0, none⟩) n n, .map (some (w1.heap.size + 1))] 39 (b := w1.heap.size + 1 + 1) (by rw [size_alloc, size_alloc])
  rw [made_rows cellC_len (by decide) .off #[.int .i64 0, .int .i64 0, .int .u64 0] rfl n] at hs2
  have hs3 := hs2.select [3, 0, 1, 2] (by decide) rfl
  have hl : (List.replicate n CellD.off).length = n := List.length_replicate
  have hs4 : ∀ w', Stage (fun _ => False) w [_, _, _, _] w' → Stage (fun _ => False) w (cellParts (w1.heap.size + 1 + 1) (newN 65536) (List.replicate n .off) 0 pn (.slice (some ⟨w1.heap.size, 0, none⟩) n n) (w1.heap.size + 1) (fun _ => 0)) w' := fun w' h => by
    unfold cellParts
    rw [hl]
    exact h
  obtain ⟨F', h1, h2, h3⟩ := (hs4 _ hs3).closeNew
  have hf : (fun _ => 0) = fun y : Int => (lenW (newW n) y : Int) := by
    funext y
    have : lenW (newW n) y = 0 := by
      unfold lenW
      split
      · rename_i hy
        rw [List.countP_eq_zero]
        intro c hc
        have : c = .off := List.eq_of_mem_replicate hc
        subst this
        have : ¬ ((0 : Int) = y) := by omega
        simpa [CellD.off] using this
      · rfl
    rw [this]; rfl
  rw [hf] at h1
  exact ⟨_, rfl, F', ⟨_, _, _, _, _, new_rfit hn, abs_new.symm, by decide, h1⟩, h2, h3⟩
theorem new_no (n : Int) (w : World) (hn : ¬ (0 ≤ n ∧ n ≤ 65536)) :
    Calls Try.prog 25 #[.int .i64 n] w fun e w' => e = .returned (.tuple #[.pointer none, .int .i64 31]) ∧ w = w' := by
  go_enter Try.func25, Try.ntmps25
  go_wp2
  all_goals first
  | (go_ret2; exact ⟨rfl, rfl⟩)
  | (exfalso; apply hn; simp_all; try omega)

section
variable {w : World} {p : Nat} {W : WS} {s : Int} {F : Nat → Prop}
theorem make_cl (h : (Ob.cells p W s).holds w F) : Calls Try.prog 23 #[.pointer (some ⟨p, 0, none⟩)] w fun e w' => e = .returned (.int .i64 (madeW W)) ∧ ∃ F', (Ob.cells p (makeW W) s).holds w' F' ∧ Moved F F' w w' := by
  have hF := (Ob.cells p W s).lt h
  obtain ⟨N, raw, pn, v, bm, hR, rfl, hr, h⟩ := h
  have hs := Ob.group.open h
  have c1 := parts_c1 hs
  obtain ⟨e1, e2⟩ := abs_make hR
  have hl : ∀ y, lenW (makeW (absW N raw)) y = lenW (absW N raw) y := fun y => by unfold makeW; split <;> rfl
  have hK := hs.call 1 rfl (O' := Ob.names 0 pn (afterM N)) (fun _ ho => make_nm ho)
  rw [abs_made hR]
  clear h
  go_enter Try.func23, Try.ntmps23
  go_wp2_with fail
  refine hK.mono ?_
  rintro e w1 ⟨rfl, hs1⟩
  go_wp2_with fail
  go_ret
  exact ⟨rfl, cells_close hs1 hF e2 e1.symm (fun y => by rw [hl]) hr⟩
theorem put_cl (y x k q : Int) (h : (Ob.cells p W s).holds w F) : Calls Try.prog 40 #[.pointer (some ⟨p, 0, none⟩), .int .i64 y, .int .i64 x, .agg #[.int .i64 k, .int .u64 q]] w fun e w' => e = .returned (.bool (putB W y x)) ∧ ∃ F', (Ob.cells p (putW W y x k q) s).holds w' F' ∧ Moved F F' w w' := by
  have hF := (Ob.cells p W s).lt h
  have hb0 : Below w.heap.size w (w.alloc (.cells #[.int .i64 k, .int .u64 q] 59)) := (Below.refl _ _).alloc (Nat.le_refl _) _
  obtain ⟨F0, h0, m0⟩ := cells_below h hb0
  have hH := has_cl y h0
  have hno : putB W y x = false → putW W y x k q = W := fun e => by simp [putW, e]
  cases c1 : hasW W y
  · have e1 : putB W y x = false := by simp [putB, c1]
    rw [c1] at hH
    rw [e1, hno e1]
    go_enter Try.func40, Try.ntmps40
    go_wp2_with fail
    refine hH.mono ?_
    rintro e w1 ⟨rfl, rfl⟩
    go_wp2_with fail
    go_ret
    exact ⟨rfl, F0, h0, m0⟩
  · rw [c1] at hH
    have h' := h
    obtain ⟨N, raw, pn, v, bm, hR, rfl, hr, hg⟩ := h'
    have hs := (Ob.group.open hg).alloc #[.int .i64 k, .int .u64 q] 59
    have hS := has_st (hs.take 4) hR.cap x
    have hA := at_st (hs.take 4) hR.cap x
    cases c2 : slotR raw x
    · have e1 : putB (absW N raw) y x = false := by simp [putB, abs_slot, c2]
      rw [c2] at hS
      rw [e1, hno e1]
      clear hA hg
      go_enter Try.func40, Try.ntmps40
      go_wp2_with fail
      refine hH.mono ?_
      rintro e w1 ⟨rfl, rfl⟩
      go_wp2_with fail
      refine hS.mono ?_
      rintro e w1 ⟨rfl, rfl⟩
      go_wp2_with fail
      go_ret
      exact ⟨rfl, F0, h0, m0⟩
    · rw [c2] at hS
      have hin := abs_in hR x
      have hD := fun w => held_any (rawAt raw x) w
      rw [← hin] at hD
      cases c3 : inW (absW N raw) x
      · have e1 : putB (absW N raw) y x = true := by simp [putB, abs_slot, c1, c2, c3]
        rw [c3] at hD
        clear hin c1 c2 c3 hno h0 m0
        obtain ⟨i, j, rfl, rfl, i1, i2, hj, e2, hR2, hlen⟩ := abs_put (k := k) (s := q) hR e1
        rw [e1]
        simp only [cellV] at hA hD
        generalize rawAt raw (j : Int) = d at *
        go_enter Try.func40, Try.ntmps40
        go_wp2_with fail
        refine hH.mono ?_
        rintro e w1 ⟨rfl, rfl⟩
        go_wp2_with fail
        refine hS.mono ?_
        rintro e w1 ⟨rfl, rfl⟩
        go_wp2_with fail
        refine hA.mono ?_
        rintro e w1 ⟨rfl, hb1⟩
        go_wp2_with fail
        refine (hD _).mono ?_
        rintro e w2 ⟨rfl, rfl⟩
        replace hs := (hs.later hb1).later ((Below.refl _ _).alloc (Nat.le_refl _) (.cells #[.int .i64 d.home, .int .i64 d.key, .int .u64 d.seq] 113))
        generalize hb5 : w.heap.size = b5 at *
        generalize w1.alloc _ = V at *
        have hp : Stage F w (cellParts p N raw s pn v bm fun y => lenW (absW N raw) y) V := hs.take 4
        obtain ⟨g, c, rfl, hc1, hc2, hgp, hg, u0, u1, u2, hf⟩ := parts_row hp j hj
        have c2 := parts_c2 hp
        have k0 : V.cell? ⟨b5, 0, none⟩ = some (.int .i64 k) := hs.cell 4 rfl rfl
        have k1 : V.cell? ⟨b5, 1, none⟩ = some (.int .u64 q) := hs.cell 4 rfl rfl
        have hf0 := hf (j * 3)
        have hf1 := hf (j * 3 + 1)
        have hf2 := hf (j * 3 + 2)
        obtain ⟨V2, hV2, hp2⟩ : ∃ V2, (((V.setCell ⟨g, j * 3, none⟩ (.int .i64 i)).setCell ⟨g, j * 3 + 1, none⟩ (.int .i64 k)).setCell ⟨g, j * 3 + 2, none⟩ (.int .u64 q)).drew = V2 ∧ Stage F w (cellParts p N (raw.set j ⟨i, k, q⟩) s pn (.slice (some ⟨g, 0, none⟩) (raw.set j ⟨i, k, q⟩).length c) bm fun y => lenW (absW N raw) y) V2 := ⟨_, rfl, (parts_put hp j hj ⟨i, k, q⟩).drew⟩
        have hcap := hR.cap
        have hlp := len_le (absW N raw) i
        rw [abs_len] at hlp
        have hNl := hR.nfit.lenLe
        clear hf hp hs hA hS hH hD hb1 h hg hgp
        generalize hn : raw.length = n at *
        go_wp2_with fail
        go_region
        clear hV2
        go_wp2_with fail
        refine (grow_st hp2 i (by omega) (lenW (absW N raw) i) 1 (lenW (absW N raw) i + 1) rfl rfl (by omega)).mono ?_
        rintro e w3 ⟨rfl, hs3⟩
        go_wp2_with fail
        go_ret
        exact ⟨rfl, cells_close hs3 (by rw [hb5]; exact hF) hR2 e2 (fun y => by rw [hlen]; rfl) hr⟩
      · have e1 : putB (absW N raw) y x = false := by simp [putB, abs_slot, c1, c2, c3]
        rw [c3] at hD
        rw [e1, hno e1]
        simp only [cellV] at hA hD
        generalize rawAt raw x = d at *
        go_enter Try.func40, Try.ntmps40
        go_wp2_with fail
        refine hH.mono ?_
        rintro e w1 ⟨rfl, rfl⟩
        go_wp2_with fail
        refine hS.mono ?_
        rintro e w1 ⟨rfl, rfl⟩
        go_wp2_with fail
        refine hA.mono ?_
        rintro e w1 ⟨rfl, hb1⟩
        go_wp2_with fail
        refine (hD _).mono ?_
        rintro e w2 ⟨rfl, rfl⟩
        have hb2 := below_chain hb0 hb1
        go_wp2_with fail
        go_ret
        exact ⟨rfl, cells_below h (hb2.alloc hb2.size _)⟩
theorem drop_cl (x : Int) (h : (Ob.cells p W s).holds w F) : Calls Try.prog 101 #[.pointer (some ⟨p, 0, none⟩), .int .i64 x] w fun e w' => e = .returned (.bool (inW W x)) ∧ ∃ F', (Ob.cells p (dropW W x) s).holds w' F' ∧ Moved F F' w w' := by
  have hH := home_cl x h
  cases c1 : inW W x
  · have e1 : dropW W x = W := by simp [dropW, c1]
    rw [c1] at hH
    rw [e1]
    go_enter Try.func101, Try.ntmps101
    go_wp2_with fail
    refine hH.mono ?_
    rintro e w1 ⟨rfl, hm⟩
    go_wp2_with fail
    go_ret
    exact ⟨rfl, hm⟩
  · rw [c1] at hH
    go_enter Try.func101, Try.ntmps101
    go_wp2_with fail
    refine hH.mono ?_
    rintro e w1 ⟨rfl, F1, h1, m1⟩
    have hF := (Ob.cells p W s).lt h1
    obtain ⟨N, raw, pn, v, bm, hR, rfl, hr, hg⟩ := h1
    obtain ⟨j, r, rfl, hj, r1, r2, er, e2, hR2, hlen⟩ := abs_drop hR c1
    have hp := Ob.group.open hg
    obtain ⟨g, c, rfl, hc1, hc2, hgp, hg, u0, u1, u2, hf⟩ := parts_row hp j hj
    have c2 := parts_c2 hp
    have hf0 := hf (j * 3)
    have hf1 := hf (j * 3 + 1)
    have hf2 := hf (j * 3 + 2)
    obtain ⟨V2, hV2, hp2⟩ : ∃ V2, ((w1.setCell ⟨g, j * 3, none⟩ (.int .i64 0)).setCell ⟨g, j * 3 + 1, none⟩ (.int .i64 0)).setCell ⟨g, j * 3 + 2, none⟩ (.int .u64 0) = V2 ∧ Stage F1 w1 (cellParts p N (raw.set j .off) s pn (.slice (some ⟨g, 0, none⟩) (raw.set j .off).length c) bm fun y => lenW (absW N raw) y) V2 := ⟨_, rfl, parts_put hp j hj .off⟩
    have hcap := hR.cap
    have hlp := len_le (absW N raw) r
    rw [abs_len] at hlp
    have hNl := hR.nfit.lenLe
    rw [← er]
    clear hf hp hH h hgp er
    generalize hn : raw.length = n at *
    go_wp2_with fail
    refine (grow_st hp2 r (by omega) (lenW (absW N raw) r) (-1) (lenW (absW N raw) r - 1) rfl (by omega) (by omega)).mono ?_
    rintro e w3 ⟨rfl, hs3⟩
    go_wp2_with fail
    go_ret
    obtain ⟨F2, h2, m2⟩ := cells_close hs3 hF hR2 e2 (fun y => by rw [hlen]; rfl) hr
    exact ⟨rfl, F2, h2, m1.trans m2⟩
end
end Go.Proofs.Ytmoolbmbdnkooaa

namespace Go.Proofs.Ytmoolbmbdnkooaa
open Go.RowKit Go.Sort

/-- An entry of one slot is written. -/
theorem parts_put2 {F0 : Nat → Prop} {W0 w : World} {p : Nat} {N : NS} {raw : List CellD} {s : Int} {pn g c bm : Nat} {f : Int → Int} (hs : Stage F0 W0 (cellParts p N raw s pn (.slice (some ⟨g, 0, none⟩) raw.length c) bm f) w) (i : Nat) (hi : i < raw.length) (k q : Int) :
    Stage F0 W0 (cellParts p N (raw.set i ⟨(raw.getD i .off).home, k, q⟩) s pn (.slice (some ⟨g, 0, none⟩) (raw.set i ⟨(raw.getD i .off).home, k, q⟩).length c) bm f) ((w.setCell ⟨g, i * 3 + 1, none⟩ (.int .i64 k)).setCell ⟨g, i * 3 + 2, none⟩ (.int .u64 q)) := by
  have s1 := cellsBy_set cellC 3 cellC_len .off raw i 1 (.int .i64 k) ⟨(raw.getD i .off).home, k, (raw.getD i .off).seq⟩ hi (by omega) rfl
  have s2 := cellsBy_set cellC 3 cellC_len .off (raw.set i ⟨(raw.getD i .off).home, k, (raw.getD i .off).seq⟩) i 2 (.int .u64 q) ⟨(raw.getD i .off).home, k, q⟩ (by simpa using hi) (by omega) (by rw [getD_set' _ _ _ _ _ hi, if_pos rfl]; rfl)
  rw [List.set_set] at s2
  have h3 := (hs.storeRow 2 rfl (i * 3 + 1) (.int .i64 k) s1).storeRow 2 rfl (i * 3 + 2) (.int .u64 q) s2
  rw [List.length_set]
  unfold cellParts
  rw [List.length_set]
  exact h3

section
variable {w : World} {p : Nat} {W : WS} {s : Int} {F : Nat → Prop}
theorem join_cl (a b : Int) (h : (Ob.cells p W s).holds w F) : Calls Try.prog 103 #[.pointer (some ⟨p, 0, none⟩), .int .i64 a, .int .i64 b] w fun e w' => e = .returned (.bool (joinBW W a b)) ∧ ∃ F', (Ob.cells p (joinW W a b) s).holds w' F' ∧ Moved F F' w w' := by
  have hF := (Ob.cells p W s).lt h
  obtain ⟨N, raw, pn, v, bm, hR, rfl, hr, hg⟩ := h
  have hs := Ob.group.open hg
  have c1 := parts_c1 hs
  have hK := hs.call 1 rfl (O' := Ob.names 0 pn (afterJ N a b)) (fun _ ho => join_nm a b ho)
  rw [abs_joinB]
  cases hj : joinB N a b
  · have e1 : joinW (absW N raw) a b = absW N raw := by simp [joinW, abs_joinB, hj]
    have e2 : afterJ N a b = N := by simp [afterJ, hj]
    rw [e1]
    rw [hj, e2] at hK
    clear hg
    go_enter Try.func103, Try.ntmps103
    go_wp2_with fail
    refine hK.mono ?_
    rintro e w1 ⟨rfl, hs1⟩
    go_wp2_with fail
    go_ret
    exact ⟨rfl, cells_close hs1 hF hR rfl (fun _ => rfl) hr⟩
  · rw [hj] at hK
    obtain ⟨i, j, rfl, rfl, hij, hi, hj2, e2, hR2, hlen⟩ := abs_join hR hj
    have hl1 := len_le (absW N raw) i
    have hl2 := len_le (absW N raw) j
    rw [abs_len] at hl1 hl2
    have hj3 : j < 65537 := by have := hR.nfit.lenLe; omega
    have hcap := hR.cap
    have hNl := hR.nfit.lenLe
    clear hg
    go_enter Try.func103, Try.ntmps103
    go_wp2_with fail
    refine hK.mono ?_
    rintro e w1 ⟨rfl, hs1⟩
    replace hs1 : Stage F w (cellParts p (afterJ N i j) raw s pn v bm fun y => lenW (absW N raw) y) w1 := hs1
    have c3 := parts_c3 hs1
    have l0 := hs1.look 3 rfl Try.underlying37 Try.underlying3 Try.underlying3 (zero_int w1) j (by omega)
    obtain ⟨x, hx⟩ : ∃ x : Nat, x = lenW (absW N raw) j := ⟨_, rfl⟩
    rw [← hx] at hl2
    simp only [← hx] at l0
    replace hx := Lib.hid hx
    have e3 : IntKind.i64.wrap (-(x : Int)) = -(x : Int) := IntWalk.i64_in _ (by omega)
    clear hK hs c1
    obtain ⟨z, hz⟩ : ∃ z : Nat, z = lenW (absW N raw) i := ⟨_, rfl⟩
    obtain ⟨f0, hf0⟩ : ∃ f0 : Int → Int, f0 = fun y => (lenW (absW N raw) y : Int) := ⟨_, rfl⟩
    rw [← hf0] at hs1
    have q0 : f0 i = z := by rw [hf0, hz]
    rw [← hz] at hl1
    replace hf0 := Lib.hid hf0
    replace hz := Lib.hid hz
    have hG1 := grow_st hs1 i (by omega) z x (z + x) q0 rfl (by omega)
    go_wp2_with fail
    refine hG1.mono ?_
    rintro e w2 ⟨rfl, hs2⟩
    clear l0 c3
    obtain ⟨f1, hf1⟩ : ∃ f1, f1 = setI f0 i (z + x) := ⟨_, rfl⟩
    rw [← hf1] at hs2
    have q1 : f1 j = x := by rw [hf1]; unfold setI; rw [if_neg (by omega), hf0.out, hx.out]
    replace hf1 := Lib.hid hf1
    have hG := grow_st hs2 j (by omega) x (-x) 0 q1 (by omega) (by omega)
    go_wp2_with fail
    refine hG.mono ?_
    rintro e w3 ⟨rfl, hs3⟩
    clear hG hs2
    go_wp2_with fail
    go_ret
    exact ⟨rfl, cells_close hs3 hF hR2 e2 (fun y => by
      rw [hlen, hf1.out, hf0.out, hx.out, hz.out]
      unfold setI
      by_cases e1 : y = (j : Int)
      · rw [if_pos e1, if_neg (by omega), if_pos e1]
      · rw [if_neg e1]
        by_cases e2 : y = (i : Int)
        · rw [if_pos e2, if_pos e2]
        · rw [if_neg e2, if_neg e2, if_neg e1]) hr⟩
theorem lower_cl (x k q : Int) (h : (Ob.cells p W s).holds w F) : Calls Try.prog 98 #[.pointer (some ⟨p, 0, none⟩), .int .i64 x, .agg #[.int .i64 k, .int .u64 q]] w fun e w' => e = .returned (.bool (lowerB W x k q)) ∧ ∃ F', (Ob.cells p (lowerW W x k q) s).holds w' F' ∧ Moved F F' w w' := by
  have hF := (Ob.cells p W s).lt h
  have hb0 : Below w.heap.size w (w.alloc (.cells #[.int .i64 k, .int .u64 q] 59)) := (Below.refl _ _).alloc (Nat.le_refl _) _
  have hno : lowerB W x k q = false → lowerW W x k q = W := fun e => by simp [lowerW, e]
  have h' := h
  obtain ⟨N, raw, pn, v, bm, hR, rfl, hr, hg⟩ := h'
  have hs := (Ob.group.open hg).alloc #[.int .i64 k, .int .u64 q] 59
  have hA := at_st (hs.take 4) hR.cap x
  have hin := abs_in hR x
  have hD := fun w => held_any (rawAt raw x) w
  rw [← hin] at hD
  have hce : (cellW (absW N raw) x).key = (rawAt raw x).key ∧ (cellW (absW N raw) x).seq = (rawAt raw x).seq := by rw [abs_cell hR]; exact ⟨rfl, rfl⟩
  have hL := fun w => less_any (rawAt raw x).key (rawAt raw x).seq k q w
  cases c3 : inW (absW N raw) x
  · have e1 : lowerB (absW N raw) x k q = false := by simp [lowerB, c3]
    rw [c3] at hD
    rw [e1, hno e1]
    simp only [cellV] at hA hD
    clear hce hL hin
    generalize rawAt raw x = d at *
    go_enter Try.func98, Try.ntmps98
    go_wp2_with fail
    refine hA.mono ?_
    rintro e w1 ⟨rfl, hb1⟩
    have hb2 := below_chain hb0 hb1
    go_wp2_with fail
    refine (hD _).mono ?_
    rintro e w2 ⟨rfl, rfl⟩
    go_wp2_with fail
    go_ret
    exact ⟨rfl, cells_below h ((hb2.alloc hb2.size _).alloc (by rw [size_alloc]; have := hb2.size; omega) _)⟩
  · rw [c3] at hD
    rw [← hce.1, ← hce.2] at hL
    cases c4 : lessB (cellW (absW N raw) x).key (cellW (absW N raw) x).seq k q
    · have e1 : lowerB (absW N raw) x k q = true := by simp [lowerB, c3, c4]
      rw [e1]
      rw [hce.1, hce.2] at hL
      rw [hce.1, hce.2] at c4
      rw [c4] at hL
      obtain ⟨j, rfl, hj, e2, hR2, hlen⟩ := abs_lower hR e1
      clear hce hin hno c3 c4
      have hd : rawAt raw (j : Int) = raw.getD j .off := by
        have : slotR raw (j : Int) = true := by simp [slotR]; omega
        simp [rawAt, this]
      rw [hd] at hA hD hL
      simp only [cellV] at hA hD
      go_enter Try.func98, Try.ntmps98
      go_wp2_with fail
      refine hA.mono ?_
      rintro e w1 ⟨rfl, hb1⟩
      replace hs := hs.later hb1
      clear hb1 hA hg hd
      have hs2 := hs.alloc #[.int .i64 (raw.getD j .off).home, .int .i64 (raw.getD j .off).key, .int .u64 (raw.getD j .off).seq] 113
      have hput := fun (g c : Nat) (V : World) (h : Stage F w _ V) => parts_put2 (p := p) (N := N) (s := s) (pn := pn) (bm := bm) (f := fun y => lenW (absW N raw) y) (g := g) (c := c) h j hj k q
      generalize raw.getD j .off = d at *
      generalize hb5 : w.heap.size = b5 at *
      go_wp2_with fail
      refine (hD _).mono ?_
      rintro e w2 ⟨rfl, rfl⟩
      replace hs2 := hs2.alloc #[.int .i64 d.home, .int .i64 d.key, .int .u64 d.seq] 113
      generalize hb6 : w1.heap.size = b6 at *
      have k0 := hs2.cell 4 rfl (o := 0) rfl
      have k1 := hs2.cell 4 rfl (o := 1) rfl
      have m0 := hs2.cell 5 rfl (o := 0) rfl
      have m1 := hs2.cell 5 rfl (o := 1) rfl
      have m2 := hs2.cell 5 rfl (o := 2) rfl
      clear hD
      generalize World.alloc _ _ = V at *
      go_wp2_with fail
      refine (hL _).mono ?_
      rintro e w3 ⟨rfl, hb3⟩
      replace hs2 := hs2.later hb3
      replace k0 := later hb3 k0
      replace k1 := later hb3 k1
      have hp : Stage F w (cellParts p N raw s pn v bm fun y => lenW (absW N raw) y) w3 := hs2.take 4
      obtain ⟨g, c, rfl, hc1, hc2, hgp, hg, u0, u1, u2, hf⟩ := parts_row hp j hj
      have c2 := parts_c2 hp
      have hf1 := hf (j * 3 + 1)
      have hf2 := hf (j * 3 + 2)
      have hcap := hR.cap
      obtain ⟨V2, hV2, hp2⟩ : ∃ V2, ((w3.setCell ⟨g, j * 3 + 1, none⟩ (.int .i64 k)).setCell ⟨g, j * 3 + 2, none⟩ (.int .u64 q)).drew = V2 ∧ Stage F w _ V2 := ⟨_, rfl, (hput g c w3 hp).drew⟩
      clear hf hp hs hL hput hb3 m0 m1 m2 h hg hgp hb0 hs2
      generalize hn : raw.length = n at *
      go_wp2_with fail
      go_region
      clear hV2
      go_wp2_with fail
      go_ret
      exact ⟨rfl, cells_close hp2 (by rw [hb5]; exact hF) hR2 e2 (fun y => by rw [hlen]) hr⟩
    · have e1 : lowerB (absW N raw) x k q = false := by simp [lowerB, c3, c4]
      rw [c4] at hL
      rw [hce.1, hce.2] at hL
      rw [e1, hno e1]
      simp only [cellV] at hA hD
      clear hce hin hno c4
      generalize rawAt raw x = d at *
      go_enter Try.func98, Try.ntmps98
      go_wp2_with fail
      refine hA.mono ?_
      rintro e w1 ⟨rfl, hb1⟩
      have hb2 := below_chain hb0 hb1
      replace hb2 := (hb2.alloc hb2.size (.cells #[.int .i64 d.home, .int .i64 d.key, .int .u64 d.seq] 113)).alloc (by rw [size_alloc]; have := hb2.size; omega) (.cells #[.int .i64 d.home, .int .i64 d.key, .int .u64 d.seq] 113)
      replace hs := hs.later hb1
      have hs2 := hs.alloc #[.int .i64 d.home, .int .i64 d.key, .int .u64 d.seq] 113
      generalize hb5 : w.heap.size = b5 at *
      go_wp2_with fail
      refine (hD _).mono ?_
      rintro e w2 ⟨rfl, rfl⟩
      replace hs2 := hs2.alloc #[.int .i64 d.home, .int .i64 d.key, .int .u64 d.seq] 113
      generalize hb6 : w1.heap.size = b6 at *
      have k0 := hs2.cell 4 rfl (o := 0) rfl
      have k1 := hs2.cell 4 rfl (o := 1) rfl
      have m0 := hs2.cell 5 rfl (o := 0) rfl
      have m1 := hs2.cell 5 rfl (o := 1) rfl
      have m2 := hs2.cell 5 rfl (o := 2) rfl
      clear hD hb0 hb1
      generalize World.alloc _ _ = V at *
      go_wp2_with fail
      refine (hL _).mono ?_
      rintro e w3 ⟨rfl, hb3⟩
      rw [← hb5] at hb2
      go_wp2_with fail
      go_ret
      exact ⟨rfl, cells_below h (below_chain hb2 hb3)⟩
end
end Go.Proofs.Ytmoolbmbdnkooaa
