/- A row of things: two of them change places. -/
import Derived.Test.YtokpngmfmkfmeaaSiftRow
namespace Go.Proofs.Ytokpngmfmkfmeaa
open Go.RowKit Go.Sort

theorem intC_get (l : List Int) (i : Nat) (h : i < l.length) : (cellsBy intC l)[i]? = some (.int .i64 (rat l i)) := by
  have := cellsBy_get intC 1 intC_len 0 l i 0 h (by omega)
  rw [Nat.mul_one, Nat.add_zero] at this
  exact this
/-- What places are told to be, behind a swap. -/
def swapF (l : List Int) (f : Int → Option Int) (i j : Nat) : Int → Option Int := setZ (setZ f (rat l i) (some (j : Int))) (rat l j) (some (i : Int))
section
variable {F0 : Nat → Prop} {W0 w : World} {r bm : Nat} {v : Value} {d : Nat} {l : List Int} {f : Int → Option Int} {n : Nat} {q : List Ob}
set_option maxRecDepth 100000 in
set_option maxHeartbeats 1000000 in
theorem swap_st (h : Stage F0 W0 (rowP r bm v d l f n ++ q) w) (i j : Nat) (hi : i < l.length) (hj : j < l.length) (hin : n < maxLen) (hxi : inInt (rat l i)) (hxj : inInt (rat l j)) (hfi : (f (rat l i)).isSome = true) (hfj : (f (rat l j)).isSome = true) :
    Calls Try.prog 29 #[.pointer (some ⟨r, 0, none⟩), .int .i64 i, .int .i64 j] w fun e w' => e = .returned (.tuple #[]) ∧ Stage F0 W0 (rowP r bm v d (swapL l i j) (swapF l f i j) n ++ q) w' := by
  have h1 := at_st h i
  have h2 := at_st h j
  rw [atD_nat hi] at h1
  rw [atD_nat hj] at h2
  obtain ⟨g, cp, rfl, hc1, hc2, hg, hcell, hfree⟩ := rowP_row h (by omega)
  have k1 := h.cell 0 rfl (o := 1) rfl
  have u0 := hcell i hi
  have u1 := hcell j hj
  have f0 := hfree i
  have f1 := hfree j
  obtain ⟨w1, hw1, hs1⟩ : ∃ w1, ((w.setCell ⟨g, i, none⟩ (.int .i64 (rat l j))).setCell ⟨g, j, none⟩ (.int .i64 (rat l i))).drew = w1 ∧ Stage F0 W0 (rowP r bm (.slice (some ⟨g, 0, none⟩) l.length cp) d (swapL l i j) f n ++ q) w1 := by
    refine ⟨_, rfl, ?_⟩
    have hs := ((h.storeRow 1 rfl i (.int .i64 (rat l j)) (intC_set l i _)).storeRow 1 rfl j (.int .i64 (rat l i)) (intC_set _ j _)).drew
    unfold rowP
    rw [swap_len]
    exact hs
  obtain ⟨z, u2⟩ : ∃ z, (w.setCell ⟨g, i, none⟩ (.int .i64 (rat l j))).cell? ⟨g, j, none⟩ = some (.int .i64 z) := by
    have hs := h.storeRow 1 rfl i (.int .i64 (rat l j)) (intC_set l i _)
    have hl : (l.set i (rat l j)).length = l.length := List.length_set
    have hs' : Stage F0 W0 (rowP r bm (.slice (some ⟨g, 0, none⟩) l.length cp) d (l.set i (rat l j)) f n ++ q) (w.setCell ⟨g, i, none⟩ (.int .i64 (rat l j))) := by unfold rowP; rw [hl]; exact hs
    obtain ⟨g2, cp2, hv2, _, _, _, hcell2, _⟩ := rowP_row hs' (by omega)
    rw [hl] at hv2
    cases hv2
    exact ⟨_, hcell2 j (by omega)⟩
  have k2 := hs1.cell 0 rfl (o := 2) rfl
  have hjr : inInt (j : Int) := by unfold inInt; omega
  have hir : inInt (i : Int) := by unfold inInt; omega
  obtain ⟨va, sa, w2, e1, e2, hs2⟩ := hs1.drew.entryZ 2 rfl Try.underlying52 Try.underlying3 Try.underlying3 (zero_int _) hin (rat l i) j hxi hjr hfi
  have hfj' : (setZ f (rat l i) (some (j : Int)) (rat l j)).isSome = true := by
    unfold setZ; split
    · rfl
    · exact hfj
  obtain ⟨vb, sb, w3, e3, e4, hs3⟩ := hs2.entryZ 2 rfl Try.underlying52 Try.underlying3 Try.underlying3 (zero_int _) hin (rat l j) i hxj hir hfj'
  replace hs3 : Stage F0 W0 (rowP r bm (.slice (some ⟨g, 0, none⟩) l.length cp) d (swapL l i j) (swapF l f i j) n ++ q) w3 := hs3
  have hii : (i : Int) < l.length := by omega
  have hjj : (j : Int) < l.length := by omega
  generalize swapF l f i j = f' at *
  generalize swapL l i j = l' at *
  clear hcell hfree h hs1 hs2 hfi hfj hfj' hxi hxj
  generalize rat l i = x at *
  generalize rat l j = y at *
  generalize hn : l.length = m at *
  clear hn
  go_enter Try.func29, Try.ntmps29
  go_wp2_with fail
  refine h1.mono ?_
  rintro e w1 ⟨rfl, rfl⟩
  go_wp2_with fail
  refine h2.mono ?_
  rintro e w1 ⟨rfl, rfl⟩
  clear h1 h2
  go_wp2_with fail
  go_region
  try rw [hw1]
  clear hw1 u0 u1 u2 f0 f1 k1
  go_wp2_with fail
  go_region
  go_end0
  exact ⟨rfl, hs3⟩
end
end Go.Proofs.Ytokpngmfmkfmeaa
