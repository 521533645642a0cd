/- Merged of ShedList, ShedList2, ShedList3. -/
import Derived.Test.YtdfjgmellkmamaaShedHeapMath
import Derived.Test.YtdfjgmellkmamaaPMap
import Derived.Test.YtdfjgmellkmamaaStageAppend
import Derived.Test.YtdfjgmellkmamaaNestOrder
import Derived.BigRegion
import Derived.StillTailTactics
namespace Go.Proofs.Ytdfjgmellkmamaa
open Go.RowKit Go.Sort

/-- A nest, its cells, where its slots stand, and one of its lists. -/
def handL (p c bm : Nat) (vp : Value) (W : WS) (s : Int) (pl : List Nat) (q : Nat) (v : Value) (xs : List Nat) : List Ob :=
  [Ob.box p #[.pointer (some ⟨c, 0, none⟩), .map (some bm), vp] 32, Ob.cells c W s, Ob.row 0 3 1 vp pl.length (cellsBy natC pl),
   Ob.box q #[.pointer (some ⟨p, 0, none⟩), v] 103, Ob.row 0 3 1 v xs.length (cellsBy natC xs)]
section
variable {F0 : Nat → Prop} {W0 w : World} {p c bm : Nat} {vp : Value} {W : WS} {s : Int} {pl : List Nat} {q : Nat} {v : Value} {xs : List Nat} {r : List Ob}
theorem hand_form (h : Stage F0 W0 (handL p c bm vp W s pl q v xs ++ r) w) : ∃ a cp, v = .slice a xs.length cp ∧ xs.length ≤ cp ∧ cp ≤ 9223372036854775807 := by
  obtain ⟨a, cp, h1, h2, h3⟩ := owns_form (h.owns 4 rfl)
  exact ⟨a, cp, h1, h2, by unfold maxLen at h3; omega⟩
theorem hand_row (h : Stage F0 W0 (handL p c bm vp W s pl q v xs ++ r) w) (hn : 0 < xs.length) : ∃ g cp, v = .slice (some ⟨g, 0, none⟩) xs.length cp ∧ xs.length ≤ cp ∧ cp ≤ 9223372036854775807 ∧ g < w.heap.size ∧ (∀ i, i < xs.length → w.cell? ⟨g, i, none⟩ = some (.int .i64 (rat xs i))) ∧ ∀ o, w.frozen? ⟨g, o, none⟩ = false := by
  obtain ⟨g, cp, hv, h1, h2, _, h4, hc, hf⟩ := owns_at natC_len 0 (h.owns 4 rfl) rfl hn
  refine ⟨g, cp, hv, h1, by unfold maxLen at h2; omega, h4, fun i hi => ?_, hf⟩
  have := hc i 0 _ hi (by omega) rfl
  rw [Nat.mul_one, Nat.add_zero] at this
  exact this
theorem hand_places (h : Stage F0 W0 (handL p c bm vp W s pl q v xs ++ r) w) (hn : 0 < pl.length) : ∃ g cp, vp = .slice (some ⟨g, 0, none⟩) pl.length cp ∧ pl.length ≤ cp ∧ cp ≤ 9223372036854775807 ∧ g < w.heap.size ∧ (∀ i, i < pl.length → w.cell? ⟨g, i, none⟩ = some (.int .i64 (rat pl i))) ∧ ∀ o, w.frozen? ⟨g, o, none⟩ = false := by
  obtain ⟨g, cp, hv, h1, h2, _, h4, hc, hf⟩ := owns_at natC_len 0 (h.owns 2 rfl) rfl hn
  refine ⟨g, cp, hv, h1, by unfold maxLen at h2; omega, h4, fun i hi => ?_, hf⟩
  have := hc i 0 _ hi (by omega) rfl
  rw [Nat.mul_one, Nat.add_zero] at this
  exact this
theorem slen_st (h : Stage F0 W0 (handL p c bm vp W s pl q v xs ++ r) w) : Calls Try.prog 50 #[.pointer (some ⟨q, 0, none⟩)] w fun e w' => e = .returned (.int .i64 xs.length) ∧ w = w' := by
  obtain ⟨a, cp, rfl, _, _⟩ := hand_form h
  have k1 := h.cell 3 rfl (o := 1) rfl
  generalize xs.length = n at *
  go_enter Try.func50, Try.ntmps50
  go_wp2_with fail
  go_ret
  exact ⟨rfl, rfl⟩
set_option maxRecDepth 100000 in
theorem sless_st (h : Stage F0 W0 (handL p c bm vp W s pl q v xs ++ r) w) (i j : Nat) (hi : i < xs.length) (hj : j < xs.length) :
    Calls Try.prog 107 #[.pointer (some ⟨q, 0, none⟩), .int .i64 i, .int .i64 j] w fun e w' => e = .returned (.bool (ltW W (rat xs i) (rat xs j))) ∧ Stage F0 W0 (handL p c bm vp W (aheadS W s (rat xs i) (rat xs j)) pl q v xs ++ r) w' := by
  obtain ⟨g, cp, hv, hc1, hc2, hg, hcell, _⟩ := hand_row h (by omega)
  have q0 := h.cell 3 rfl (o := 0) rfl
  have q1 := h.cell 3 rfl (o := 1) rfl
  have p0 := h.cell 0 rfl (o := 0) rfl
  have u0 := hcell i hi
  have u1 := hcell j hj
  have hA := h.drew.call 1 rfl (fun _ ho => ahead_cl (rat xs i) (rat xs j) ho)
  replace hA : Calls Try.prog 111 #[.pointer (some ⟨c, 0, none⟩), .int .i64 (rat xs i), .int .i64 (rat xs j)] w.drew fun e w' => e = .returned (.bool (ltW W (rat xs i) (rat xs j))) ∧ Stage F0 W0 (handL p c bm vp W (aheadS W s (rat xs i) (rat xs j)) pl q v xs ++ r) w' := hA
  generalize aheadS W s (rat xs i) (rat xs j) = s' at *
  generalize ltW W (rat xs i) (rat xs j) = B at *
  generalize rat xs i = x at *
  generalize rat xs j = y at *
  subst hv
  have hii : (i : Int) < xs.length := by omega
  have hjj : (j : Int) < xs.length := by omega
  generalize hn : xs.length = n at *
  clear hcell h
  go_enter Try.func107, Try.ntmps107
  go_wp2_with fail
  go_still_tail 21, (by kernel_rfl)
  change wpList _ _ _ _ _ w.drew
  go_wp2_with fail
  refine hA.mono ?_
  rintro e w1 ⟨rfl, hs1⟩
  go_wp2_with fail
  go_ret
  exact ⟨rfl, hs1⟩
end
end Go.Proofs.Ytdfjgmellkmamaa

namespace Go.Proofs.Ytdfjgmellkmamaa
open Go.RowKit Go.Sort

theorem natC_set (l : List Nat) (i x : Nat) : (cellsBy natC l).set i (.int .i64 x) = cellsBy natC (l.set i x) := by
  have e : ∀ m : List Nat, cellsBy natC m = m.map fun x : Nat => Value.int .i64 x := fun m => by
    induction m with
    | nil => rfl
    | cons a r ih => rw [cellsBy_cons, ih]; rfl
  rw [e, e, List.map_set]
theorem natC_get (l : List Nat) (i : Nat) (h : i < l.length) : (cellsBy natC l)[i]? = some (.int .i64 (rat l i)) := by
  have := cellsBy_get natC 1 natC_len 0 l i 0 h (by omega)
  rw [Nat.mul_one, Nat.add_zero] at this
  exact this
theorem owns_short {w : World} {base : Nat} {e : TypeId} {size g n cap m : Nat} {xs : List Value} (h : w.ownsRow base e size (.slice (some ⟨g, 0, none⟩) n cap) n xs) (hm : m ≤ n) : w.ownsRow base e size (.slice (some ⟨g, 0, none⟩) m cap) m (xs.take (m * size)) := by
  obtain ⟨h1, ⟨h2, _⟩ | ⟨g', cap', cur, hv, hg, hh, hle, hmax, hs, hx⟩⟩ := h
  · cases h2
  · injection hv with e1 e2 e3
    injection e1 with e1
    injection e1 with e1
    subst e1 e3
    have hms : m * size ≤ n * size := Nat.mul_le_mul_right _ hm
    refine ⟨by rw [List.length_take, h1]; omega, Or.inr ⟨_, _, cur, rfl, hg, hh, Nat.le_trans hm hle, hmax, hs, ?_⟩⟩
    rw [← hx, List.take_take, Nat.min_eq_left hms]
section
variable {F0 : Nat → Prop} {W0 w : World} {p c bm : Nat} {vp : Value} {W : WS} {s : Int} {pl : List Nat} {q : Nat} {v : Value} {xs : List Nat} {r : List Ob}
set_option maxRecDepth 100000 in
set_option maxHeartbeats 1000000 in
theorem sswap_st (h : Stage F0 W0 (handL p c bm vp W s pl q v xs ++ r) w) (P : Placed xs pl) (i j : Nat) (hi : i < xs.length) (hj : j < xs.length) (hij : i ≠ j) :
    Calls Try.prog 110 #[.pointer (some ⟨q, 0, none⟩), .int .i64 i, .int .i64 j] w fun e w' => e = .returned (.tuple #[]) ∧ Stage F0 W0 (handL p c bm vp W s (swapP xs pl i j) q v (swapL xs i j) ++ r) w' := by
  obtain ⟨g, cp, rfl, hc1, hc2, hg, hcell, hfree⟩ := hand_row h (by omega)
  have pi := (P i hi).1
  have pj := (P j hj).1
  have q1 := h.cell 3 rfl (o := 1) rfl
  have u0 := hcell i hi
  have u1 := hcell j hj
  have f0 := hfree i
  have f1 := hfree j
  obtain ⟨w1, hw1, hs1⟩ : ∃ w1, ((w.setCell ⟨g, i, none⟩ (.int .i64 (rat xs j))).setCell ⟨g, j, none⟩ (.int .i64 (rat xs i))).drew = w1 ∧ Stage F0 W0 (handL p c bm vp W s pl q (.slice (some ⟨g, 0, none⟩) xs.length cp) (swapL xs i j) ++ r) w1 := by
    refine ⟨_, rfl, ?_⟩
    have hs := ((h.storeRow 4 rfl i (.int .i64 (rat xs j)) (natC_set xs i _)).storeRow 4 rfl j (.int .i64 (rat xs i)) (natC_set _ j _)).drew
    unfold handL
    rw [swap_len]
    exact hs
  have hii : (i : Int) < xs.length := by omega
  have hjj : (j : Int) < xs.length := by omega
  have hsl := swap_len xs i j
  have hr : ∀ k, rat (swapL xs i j) k = if k = j then rat xs i else if k = i then rat xs j else rat xs k := rat_swap hi hj
  have hri : rat (swapL xs i j) i = rat xs j := by
    rw [hr]
    rw [if_neg hij, if_pos rfl]
  have hrj : rat (swapL xs i j) j = rat xs i := by rw [hr, if_pos rfl]
  unfold swapP
  have hji : j ≠ i := fun e => hij e.symm
  clear h P hcell hfree hr
  generalize swapL xs i j = xs' at *
  generalize rat xs i = x at *
  generalize rat xs j = y at *
  generalize hn : xs.length = n at *
  clear hn
  obtain ⟨g2, cp2, hv2, _, _, hg2, hcell2, hfree2⟩ := hand_places hs1 (by omega)
  subst hv2
  obtain ⟨g3, cp3, hv3, hc3, _, hg3, hcell3, _⟩ := hand_row hs1 (by omega)
  rw [hsl] at hv3 hcell3
  cases hv3
  have q0b := hs1.cell 3 rfl (o := 0) rfl
  have q1b := hs1.cell 3 rfl (o := 1) rfl
  have p2b := hs1.cell 0 rfl (o := 2) rfl
  have u0b := hcell3 i hi
  rw [hri] at u0b
  have z0b := hcell2 y pj
  have f0b := hfree2 y
  have hpj : (y : Int) < pl.length := by omega
  obtain ⟨w2, hw2, hs2⟩ : ∃ w2, (w1.setCell ⟨g2, y, none⟩ (.int .i64 i)).drew = w2 ∧ Stage F0 W0 (handL p c bm (.slice (some ⟨g2, 0, none⟩) pl.length cp2) W s (pl.set y i) q (.slice (some ⟨g, 0, none⟩) n cp) xs' ++ r) w2 := by
    refine ⟨_, rfl, ?_⟩
    have hs := (hs1.storeRow 2 rfl y (.int .i64 i) (natC_set pl y _)).drew
    unfold handL
    rw [List.length_set]
    exact hs
  have hl2 : (pl.set y i).length = pl.length := List.length_set
  have hl3 : ((pl.set y i).set x j).length = pl.length := by rw [List.length_set, List.length_set]
  clear hs1 hcell2 hcell3 hfree2
  obtain ⟨g2', cp2', hv2, _, _, hg2, hcell2, hfree2⟩ := hand_places hs2 (by omega)
  rw [hl2] at hv2 hcell2
  cases hv2
  obtain ⟨g3', cp3', hv3, hc3, _, hg3, hcell3, _⟩ := hand_row hs2 (by omega)
  rw [hsl] at hv3 hcell3
  cases hv3
  have q0c := hs2.cell 3 rfl (o := 0) rfl
  have q1c := hs2.cell 3 rfl (o := 1) rfl
  have p2c := hs2.cell 0 rfl (o := 2) rfl
  have u0c := hcell3 j hj
  rw [hrj] at u0c
  have z0c := hcell2 x pi
  have f0c := hfree2 x
  have hpi : (x : Int) < pl.length := by omega
  obtain ⟨w3, hw3, hs3⟩ : ∃ w3, (w2.setCell ⟨g2, x, none⟩ (.int .i64 j)).drew = w3 ∧ Stage F0 W0 (handL p c bm (.slice (some ⟨g2, 0, none⟩) pl.length cp2) W s ((pl.set y i).set x j) q (.slice (some ⟨g, 0, none⟩) n cp) xs' ++ r) w3 := by
    refine ⟨_, rfl, ?_⟩
    unfold handL at hs2
    rw [hl2] at hs2
    have hs := (hs2.storeRow 2 rfl x (.int .i64 j) (natC_set _ x _)).drew
    unfold handL
    rw [hl3]
    exact hs
  clear hs2 hcell2 hcell3 hfree2 hl2 hl3 hsl hri hrj
  generalize (pl.set y i).set x j = pl' at *
  generalize pl.length = n2 at *
  go_enter Try.func110, Try.ntmps110
  go_wp2_with fail
  go_region
  try rw [hw1]
  clear hw1 u0 u1 f0 f1 q1
  go_wp2_with fail
  go_region
  try rw [hw2]
  clear hw2 u0b z0b f0b q0b q1b p2b
  go_wp2_with fail
  go_region
  try rw [hw3]
  clear hw3 u0c z0c f0c q0c q1c p2c
  go_wp2_with fail
  go_end0
  exact ⟨rfl, hs3⟩
end
end Go.Proofs.Ytdfjgmellkmamaa

namespace Go.Proofs.Ytdfjgmellkmamaa
open Go.RowKit Go.Sort

theorem assert_int (v : Value) (w : World) : (Instr.typeAssert (.iface 3 v) 20 3 false).run Try.prog w = .ok v w := by kernel_rfl
section
variable {F0 : Nat → Prop} {W0 w : World} {p c bm : Nat} {vp : Value} {W : WS} {s : Int} {pl : List Nat} {q : Nat} {v : Value} {xs : List Nat} {r : List Ob}
set_option maxRecDepth 100000 in
set_option maxHeartbeats 1000000 in
theorem spush_st (h : Stage F0 W0 (handL p c bm vp W s pl q v xs ++ r) w) (hx : xs.length ≤ 65536) (hpl : pl.length ≤ 65536) (x : Nat) (hxp : x < pl.length) :
    Calls Try.prog 109 #[.pointer (some ⟨q, 0, none⟩), .iface 3 (.int .i64 x)] w fun e w' => e = .returned (.tuple #[]) ∧ ∃ v', Stage F0 W0 (handL p c bm vp W s (pl.set x xs.length) q v' (xs ++ [x]) ++ r) w' := by
  obtain ⟨g2, cp2, hv2, _, _, hg2, hcell2, hfree2⟩ := hand_places h (by omega)
  subst hv2
  obtain ⟨a, cp, rfl, hc1, hc2⟩ := hand_form h
  have q0 := h.cell 3 rfl (o := 0) rfl
  have q1 := h.cell 3 rfl (o := 1) rfl
  have p2 := h.cell 0 rfl (o := 2) rfl
  have z0 := hcell2 x hxp
  have f0 := hfree2 x
  have hxi : (x : Int) < pl.length := by omega
  obtain ⟨w1, hw1, hs1⟩ : ∃ w1, (w.setCell ⟨g2, x, none⟩ (.int .i64 xs.length)).drew = w1 ∧ Stage F0 W0 (handL p c bm (.slice (some ⟨g2, 0, none⟩) pl.length cp2) W s (pl.set x xs.length) q (.slice a xs.length cp) xs ++ r) w1 := by
    refine ⟨_, rfl, ?_⟩
    have hs := (h.storeRow 2 rfl x (.int .i64 xs.length) (natC_set pl x _)).drew
    unfold handL
    rw [List.length_set]
    exact hs
  have hA := hs1.later (below_alloc1 (o := .cells #[.int .i64 x] 3) (Below.refl _ _))
  generalize hn : xs.length = n at *
  generalize hn2 : pl.length = n2 at *
  have hT := assert_int
  clear h hcell2 hfree2
  have q1b := hs1.cell 3 rfl (o := 1) rfl
  go_enter Try.func109, Try.ntmps109
  go_wp2_with fail
  go_region
  try rw [hw1]
  clear hw1 q0 q1 p2 z0 f0 hT
  go_wp2_with (at_builtin; refine hA.wp_append 4 (by rw [← hn]; rfl) rfl _ _ 30 rfl (.int .i64 0) 8 Try.underlying30 info_int rfl (by decide) (Nat.zero_le _) rfl _ 1 [.int .i64 x] rfl (reads_new w1 #[.int .i64 x] _ 1 1 _ rfl rfl) (by intro u hu; simp at hu; subst hu; rfl) (by unfold maxLen; omega) (by omega) ?_)
  intro v' w2 hs2 _
  obtain ⟨a', cp', hv', _, _⟩ := owns_form (hs2.owns 4 rfl)
  subst hv'
  have e1 : cellsBy natC xs ++ [.int .i64 (x : Int)] = cellsBy natC (xs ++ [x]) := by rw [cellsBy_append, cellsBy_one]; rfl
  rw [e1] at hs2
  have hs3 := hs2.store 3 rfl 1 (.slice a' (n + 1) cp')
  have f1 := hs2.free 3 rfl 1
  have k1 := hs2.cell 3 rfl (o := 1) rfl
  have l3 := hs2.lt 3 rfl
  have hs4 : Stage F0 W0 (handL p c bm (.slice (some ⟨g2, 0, none⟩) n2 cp2) W s (pl.set x n) q (.slice a' (n + 1) cp') (xs ++ [x]) ++ r) (w2.setCell ⟨q, 1, none⟩ (.slice a' (n + 1) cp')) := by
    unfold handL
    rw [List.length_append, hn]
    exact hs3
  clear hA hs1 hs2 hs3 q1b
  go_wp2_with fail
  go_end0
  exact ⟨rfl, _, hs4⟩
set_option maxRecDepth 100000 in
set_option maxHeartbeats 1000000 in
theorem spop_st (h : Stage F0 W0 (handL p c bm vp W s pl q v xs ++ r) w) (m : Nat) (hn : xs.length = m + 1) (hx : xs.length ≤ 65536) :
    Calls Try.prog 108 #[.pointer (some ⟨q, 0, none⟩)] w fun e w' => e = .returned (.iface 3 (.int .i64 (rat xs m))) ∧ ∃ v', Stage F0 W0 (handL p c bm vp W s pl q v' (xs.take m) ++ r) w' := by
  obtain ⟨g, cp, rfl, hc1, hc2, hg, hcell, hfree⟩ := hand_row h (by omega)
  have q1 := h.cell 3 rfl (o := 1) rfl
  have f1 := h.free 3 rfl 1
  have l3 := h.lt 3 rfl
  have u0 := hcell m (by omega)
  have hs1 : Stage F0 W0 (handL p c bm vp W s pl q (.slice (some ⟨g, 0, none⟩) m cp) (xs.take m) ++ r) (w.setCell ⟨q, 1, none⟩ (.slice (some ⟨g, 0, none⟩) m cp)) := by
    have h1 := h.weaken (i := 4) (O' := Ob.row 0 3 1 (.slice (some ⟨g, 0, none⟩) m cp) m (cellsBy natC (xs.take m))) rfl (fun F ⟨ho, hF⟩ => ⟨by
      have := owns_short ho (m := m) (by omega)
      rw [cellsBy_take natC 1 natC_len] at this
      exact this, by rw [hF]; rfl⟩)
    have h2 := h1.store 3 rfl 1 (.slice (some ⟨g, 0, none⟩) m cp)
    unfold handL
    rw [List.length_take, Nat.min_eq_left (by omega)]
    exact h2
  have e1 : IntKind.i64.wrap ((m : Int) + 1 - 1) = m := by rw [Int.add_sub_cancel]; exact IntWalk.i64_in _ (by omega)
  generalize hx0 : rat xs m = x at *
  rw [hn] at *
  have hi : (m : Int) < (m : Int) + 1 := by omega
  clear h hcell hfree
  go_enter Try.func108, Try.ntmps108
  go_wp2_with fail
  go_ret
  exact ⟨rfl, _, hs1⟩
end
end Go.Proofs.Ytdfjgmellkmamaa
