/- Merged of BinForest, BinDelete. -/
import Derived.Test.YtmoolbmbdnkooaaBinTakeMath
import Derived.Lib.SliceRun
namespace Go.Proofs.Ytmoolbmbdnkooaa
open Go.RowKit Go.Sort

theorem ahead_range {W : WS} {a b s : Int} (h : 0 ≤ s ∧ s ≤ 4611686018427387904) : s ≤ aheadS W s a b ∧ aheadS W s a b ≤ s + 1 := by
  unfold aheadS addI
  repeat' split
  all_goals omega
section
variable {F0 F : Nat → Prop} {W0 w : World} {f c t n : Nat} {W : WS} {s : Int} {K : Int → List Int} {q : List Ob} {a : Option Addr} {ca : Nat} {l : List Int}
/-- The degrees of a row's roots. -/
def degsK (K : Int → List Int) (l : List Int) : List Int := l.map fun x => ((K x).length : Int)
theorem degs_set (K : Int → List Int) (l : List Int) (j : Nat) (hj : j < l.length) : ((degsK K l).take j ++ List.replicate (l.length - j) 0).set j ((K (l.getD j 0)).length : Int) = (degsK K l).take (j + 1) ++ List.replicate (l.length - (j + 1)) 0 := by
  apply List.ext_getElem
  · simp [degsK]; omega
  · intro i h1 h2
    have hl : ((degsK K l).take j).length = j := by simp [degsK]; omega
    have hl2 : ((degsK K l).take (j + 1)).length = j + 1 := by simp [degsK]; omega
    rw [List.getElem_set]
    by_cases e : j = i
    · subst e
      rw [if_pos rfl, List.getElem_append_left (by omega), List.getElem_take]
      simp [degsK, List.getD_eq_getElem?_getD, hj]
    · rw [if_neg e]
      by_cases e2 : i < j
      · rw [List.getElem_append_left (by omega), List.getElem_append_left (by omega), List.getElem_take, List.getElem_take]
      · rw [List.getElem_append_right (by omega), List.getElem_append_right (by omega)]
        simp
set_option maxRecDepth 100000 in
theorem degrees_one (hlen : l.length ≤ 65536) (hs : Stage F0 W0 (binF f c t n W s K ++ [Ob.ints (.slice a l.length ca) l]) w) :
    Calls Try.prog 38 #[.pointer (some ⟨f, 0, none⟩), .slice a l.length ca] w fun e w' => ∃ v, e = .returned v ∧ Stage F0 W0 (binF f c t n W s K ++ [Ob.ints (.slice a l.length ca) l, Ob.ints v (degsK K l)]) w' := by
  have hcv : l.length ≤ ca ∧ ca ≤ 9223372036854775807 := by
    obtain ⟨_, cv', ev, hcv1, hcv2⟩ := hs.intsForm 3 rfl
    injection ev with _ _ ev
    rw [ev]; exact ⟨hcv1, hcv2⟩
  have hmk := run_make_rows (P := Try.prog) 65 3 (.int .i64 0) 1 8 Try.underlying65 sinfo_int l.length (by omega) (by omega) w
  have hs1 : Stage F0 W0 (binF f c t n W s K ++ [Ob.ints (.slice a l.length ca) l, Ob.ints (.slice (some ⟨w.heap.size, 0, none⟩) l.length l.length) ((degsK K l).take 0 ++ List.replicate (l.length - 0) 0)]) (w.alloc (.cells (madeCells (Value.int .i64 0).cells (l.length * 1)) 3)) := by
    have h1 := hs.newRow 3 1 l.length (madeCells (Value.int .i64 0).cells (l.length * 1)) (by simp [madeCells]) (by unfold maxLen; omega)
    have e1 := made_rows intC_len (by omega) 0 (Value.int .i64 0).cells rfl l.length
    rw [e1] at h1
    have e2 : ((degsK K l).take 0 ++ List.replicate (l.length - 0) 0).length = l.length := by simp
    unfold Ob.ints
    rw [e2]
    exact h1
  have hgb : w.heap.size = w.heap.size := rfl
  generalize w.alloc (.cells (madeCells (Value.int .i64 0).cells (l.length * 1)) 3) = w1 at *
  generalize hgg : w.heap.size = gb at *
  clear hs hgb
  have hll : ∃ m, l.length = m := ⟨_, rfl⟩
  obtain ⟨m, hm⟩ := hll
  replace hm := Lib.hid hm
  go_enter Try.func38, Try.ntmps38
  go_wp2_with fail
  go_loopw [13] (fun i wr => ∃ j : Nat, i = .int .i64 j ∧ j ≤ l.length ∧ Stage F0 W0 (binF f c t n W s K ++ [Ob.ints (.slice a l.length ca) l, Ob.ints (.slice (some ⟨gb, 0, none⟩) l.length l.length) ((degsK K l).take j ++ List.replicate (l.length - j) 0)]) wr) (fun i _ => l.length - (intOf i).toNat)
  case atStart => exact ⟨0, rfl, Nat.zero_le _, hs1⟩
  case round =>
    clear hs1 hmk
    obtain ⟨j, rfl, hj, hs⟩ := hrel
    by_cases hjn : j < l.length
    · have hji : (j : Int) < l.length := by omega
      have f1 : wr.cell? ⟨f, 1, none⟩ = some (.pointer (some ⟨t, 0, none⟩)) := hs.cell 2 rfl rfl
      have hD := hs.ask 0 rfl (fun _ ho => deg_f ho (l.getD j 0))
      obtain ⟨g9, c9, e9, _, _, _, hc9, _⟩ := hs.intsAt 3 rfl (by omega)
      have hcj := hc9 j hjn
      cases e9
      have hL : ((degsK K l).take j ++ List.replicate (l.length - j) 0).length = l.length := by simp [degsK]; omega
      have hs2 : Stage F0 W0 (binF f c t n W s K ++ [Ob.ints (.slice (some ⟨g9, 0, none⟩) l.length ca) l, Ob.row 0 3 1 (.slice (some ⟨gb, 0, none⟩) l.length l.length) l.length (cellsBy intC ((degsK K l).take j ++ List.replicate (l.length - j) 0))]) wr := by
        have h1 := hs
        unfold Ob.ints at h1
        rw [hL] at h1
        exact h1
      have hst := hs2.storeRow 4 rfl j (.int .i64 ((K (l.getD j 0)).length : Int)) (intC_set _ j _)
      rw [degs_set K l j hjn] at hst
      have hfr := (hs2.owns 4 rfl).frozenAt j
      have hcd : ∃ u, wr.cell? ⟨gb, j, none⟩ = some u := by
        have h1 := hs
        rw [show Ob.ints (.slice (some ⟨gb, 0, none⟩) l.length l.length) ((degsK K l).take j ++ List.replicate (l.length - j) 0) = Ob.ints (.slice (some ⟨gb, 0, none⟩) ((degsK K l).take j ++ List.replicate (l.length - j) 0).length l.length) ((degsK K l).take j ++ List.replicate (l.length - j) 0) by rw [hL]] at h1
        obtain ⟨g8, c8, e8, _, _, _, hc8, _⟩ := h1.intsAt 4 rfl (by rw [hL]; omega)
        cases e8
        exact ⟨_, hc8 j (by rw [hL]; exact hjn)⟩
      obtain ⟨u, hcd⟩ := hcd
      have hfin : Stage F0 W0 (binF f c t n W s K ++ [Ob.ints (.slice (some ⟨g9, 0, none⟩) l.length ca) l, Ob.ints (.slice (some ⟨gb, 0, none⟩) l.length l.length) ((degsK K l).take (j + 1) ++ List.replicate (l.length - (j + 1)) 0)]) (wr.setCell ⟨gb, j, none⟩ (.int .i64 ((K (l.getD j 0)).length : Int))) := by
        have hL1 : ((degsK K l).take (j + 1) ++ List.replicate (l.length - (j + 1)) 0).length = l.length := by simp [degsK]; omega
        unfold Ob.ints
        rw [hL1]
        exact hst
      clear hs hs2 hst hc9 hL
      generalize hdg : ((K (l.getD j 0)).length : Int) = dg at *
      clear hdg
      generalize hy : l.getD j 0 = y at *
      clear hy
      go_wp2_with fail
      refine hD.mono ?_
      rintro e w2 ⟨rfl, rfl⟩
      clear hD
      go_wp2_with fail
      go_roundw
      case rel => exact ⟨j + 1, by go_num, by omega, hfin⟩
      case measure => simp [intOf]; omega
    · obtain rfl : j = l.length := by omega
      have hfin : Stage F0 W0 (binF f c t n W s K ++ [Ob.ints (.slice a l.length ca) l, Ob.ints (.slice (some ⟨gb, 0, none⟩) l.length l.length) (degsK K l)]) wr := by
        have h1 := hs
        rw [Nat.sub_self, List.replicate_zero, List.append_nil, List.take_of_length_le (by simp [degsK])] at h1
        exact h1
      clear hs
      go_wp2_with fail
      go_ret
      exact ⟨_, rfl, hfin⟩
/-- None is there. -/
theorem first_none (cv : Nat) : Calls Try.prog 104 #[.pointer (some ⟨f, 0, none⟩), .slice a 0 cv] w fun e w' => e = .returned (.tuple #[.int .i64 0, .bool false]) ∧ w = w' := by
  go_enter Try.func104, Try.ntmps104
  go_wp2_with fail
  exact bodyPost_ret (v := .tuple #[.int .i64 0, .bool false]) (by simp [results, Try.results104, go_sem]) rfl ⟨rfl, rfl⟩
set_option maxRecDepth 100000 in
set_option maxHeartbeats 1000000 in
/-- The root that is ahead of all. -/
theorem first_one (hl : l ≠ []) (hin : ∀ y ∈ l, inW W y = true) (hs : Stage F0 W0 (binF f c t n W s K ++ [Ob.ints (.slice a l.length ca) l]) w) :
    Calls Try.prog 104 #[.pointer (some ⟨f, 0, none⟩), .slice a l.length ca] w fun e w' => ∃ x s', e = .returned (.tuple #[.int .i64 x, .bool true]) ∧ BestOf W l x ∧ (s ≤ s' ∧ s' ≤ s + (l.length : Int) - 1) ∧ Stage F0 W0 (binF f c t n W s' K ++ [Ob.ints (.slice a l.length ca) l]) w' := by
  obtain ⟨m, hm⟩ : ∃ m, l.length = m + 1 := by
    cases l with
    | nil => exact absurd rfl hl
    | cons x r => exact ⟨r.length, rfl⟩
  obtain ⟨gb, cv, e9, hc1, hc2, _, hc9, _⟩ := hs.intsAt 3 rfl (by omega)
  cases e9
  have u0 := hc9 0 (by omega)
  have hb0 : BestOf W (l.take 1) (l.getD 0 0) := by
    cases l with
    | nil => exact absurd rfl hl
    | cons x r => exact best_one W x
  rw [hm] at hc1 hs ⊢
  clear hc9 hl
  by_cases hca : ca = 1
  · subst hca
    obtain rfl : m = 0 := by omega
    have hb1 : BestOf W l (l.getD 0 0) := by
      have h1 : l.take 1 = l := List.take_of_length_le (by omega)
      rwa [h1] at hb0
    clear hb0 hm
    go_enter Try.func104, Try.ntmps104
    generalize hy0 : l.getD 0 0 = y0 at *
    replace hy0 := Lib.hid hy0
    go_wp2_with fail
    go_loopw [6, 18] (fun b i wr => b = .int .i64 y0 ∧ i = .int .i64 0 ∧ Stage F0 W0 (binF f c t n W s K ++ [Ob.ints (.slice (some ⟨gb, 0, none⟩) 1 1) l]) wr) (fun _ i _ => 0)
    case atStart => exact ⟨rfl, rfl, hs⟩
    case round =>
      clear hs u0 hy0
      obtain ⟨rfl, rfl, hs⟩ := hrel
      go_wp2_with fail
      exact bodyPost_ret (v := .tuple #[.int .i64 y0, .bool true]) (by simp [results, Try.results104, go_sem]) rfl ⟨y0, s, rfl, hb1, ⟨Int.le_refl _, by omega⟩, hs⟩
  have hne : ((m : Int) + 1 == 0) = false := by rw [beq_eq_false_iff_ne]; omega
  go_enter Try.func104, Try.ntmps104
  generalize hy0 : l.getD 0 0 = y0 at *
  replace hy0 := Lib.hid hy0
  go_wp2_with fail
  go_loopw [6, 18] (fun b i wr => ∃ (j : Nat) (x s' : Int), b = .int .i64 x ∧ i = .int .i64 j ∧ j ≤ m ∧ BestOf W (l.take (j + 1)) x ∧ (s ≤ s' ∧ s' ≤ s + j) ∧ Stage F0 W0 (binF f c t n W s' K ++ [Ob.ints (.slice (some ⟨gb, 0, none⟩) (m + 1) ca) l]) wr) (fun _ i _ => m - (intOf i).toNat)
  case atStart => exact ⟨0, y0, s, rfl, rfl, Nat.zero_le _, hb0, ⟨Int.le_refl _, by omega⟩, hs⟩
  case round =>
    clear hs hb0 u0 hy0
    obtain ⟨j, x, s', rfl, rfl, hj, hb, hr, hs⟩ := hrel
    by_cases hjm : j < m
    · have hji : (j : Int) < m := by omega
      have f0 : wr.cell? ⟨f, 0, none⟩ = some (.pointer (some ⟨c, 0, none⟩)) := hs.cell 2 rfl rfl
      have hs' := hs
      rw [← hm] at hs'
      obtain ⟨g8, c8, e8, _, _, _, hc8, _⟩ := hs'.intsAt 3 rfl (by omega)
      cases e8
      have uj := hc8 (j + 1) (by omega)
      have hA := hs.call 1 rfl (fun _ ho => ahead_cl (l.getD (j + 1) 0) x ho)
      have hrg := ahead_range (W := W) (a := l.getD (j + 1) 0) (b := x) ((hs.get (i := 1) rfl).elim fun _ ho => Ob.cells.steps ho)
      have hyl : l.getD (j + 1) 0 ∈ l := mem_getD' l (j + 1) 0 (by omega)
      have htk : l.take (j + 1 + 1) = l.take (j + 1) ++ [l.getD (j + 1) 0] := by
        rw [List.take_succ_eq_append_getElem (by omega)]
        simp [List.getD_eq_getElem?_getD, show j + 1 < l.length by omega]
      have hnx := best_more (x := l.getD (j + 1) 0) (fun y hy => hin y (List.mem_of_mem_take hy)) (hin _ hyl) hb
      rw [← htk] at hnx
      clear hs hs' hc8 hyl htk hb
      rw [Nat.add_comm j 1] at uj
      generalize hyy : l.getD (j + 1) 0 = y at *
      rw [Nat.add_comm j 1] at hyy
      rw [hyy] at uj
      clear hyy
      generalize aheadS W s' y x = s2 at *
      cases hB : aheadW W y x
      · rw [hB] at hA hnx
        replace hnx : BestOf W (l.take (j + 1 + 1)) x := hnx
        clear hB
        go_wp2_with fail
        refine hA.mono ?_
        rintro e w2 ⟨rfl, h2⟩
        go_wp2_with fail
        go_roundw
        case rel => exact ⟨j + 1, x, s2, rfl, by go_num, by omega, hnx, ⟨by omega, by omega⟩, h2⟩
        case measure => simp [intOf]; omega
      · rw [hB] at hA hnx
        replace hnx : BestOf W (l.take (j + 1 + 1)) y := hnx
        clear hB
        go_wp2_with fail
        refine hA.mono ?_
        rintro e w2 ⟨rfl, h2⟩
        go_wp2_with fail
        go_roundw
        case rel => exact ⟨j + 1, y, s2, rfl, by go_num, by omega, hnx, ⟨by omega, by omega⟩, h2⟩
        case measure => simp [intOf]; omega
    · obtain rfl : j = m := by omega
      rw [← hm, List.take_length] at hb
      go_wp2_with fail
      exact bodyPost_ret (v := .tuple #[.int .i64 x, .bool true]) (by simp [results, Try.results104, go_sem]) rfl ⟨x, s', rfl, hb, ⟨hr.1, by omega⟩, hs⟩
end
end Go.Proofs.Ytmoolbmbdnkooaa

namespace Go.Proofs.Ytmoolbmbdnkooaa
open Go.RowKit Go.Sort

theorem erase_at : ∀ {l : List Int} {j : Nat} {x : Int}, l.Nodup → j < l.length → l.getD j 0 = x → l.eraseIdx j = l.erase x
  | [], j, x, _, h, _ => by simp at h
  | a :: l, 0, x, _, _, h => by
    have e : a = x := h
    rw [e, List.erase_cons_head]; rfl
  | a :: l, j + 1, x, hn, hj, h => by
    obtain ⟨h1, h2⟩ := List.nodup_cons.1 hn
    have hj2 : j < l.length := by simpa using hj
    have hx : l.getD j 0 = x := by simpa using h
    have hm : x ∈ l := by rw [← hx]; exact mem_getD' l j 0 hj2
    have hne : a ≠ x := fun e => h1 (e ▸ hm)
    rw [List.eraseIdx_cons_succ, List.erase_cons_tail (by simpa using hne), erase_at h2 hj2 hx]
/-- As far as the k-th the others have moved up. -/
def shiftL (l : List Int) (j0 k : Nat) : List Int := (l.eraseIdx j0).take k ++ l.drop k
section
variable {l : List Int} {j0 k m : Nat}
theorem shift_start (hj : j0 < l.length) : shiftL l j0 j0 = l := by
  unfold shiftL
  rw [List.eraseIdx_eq_take_drop_succ, List.take_append_of_le_length (by simp; omega), List.take_take, Nat.min_self, List.take_append_drop]
theorem shift_len (hj : j0 < l.length) (hk : k < l.length) : (shiftL l j0 k).length = l.length := by
  unfold shiftL
  rw [List.length_append, List.length_take, List.length_eraseIdx_of_lt hj, List.length_drop]
  omega
theorem shift_at (hj : j0 < l.length) (hk : k + 1 < l.length) : (shiftL l j0 k).getD (k + 1) 0 = l.getD (k + 1) 0 := by
  unfold shiftL
  have h1 : ((l.eraseIdx j0).take k).length = k := by rw [List.length_take, List.length_eraseIdx_of_lt hj]; omega
  simp only [List.getD_eq_getElem?_getD]
  rw [List.getElem?_append_right (by omega), h1, List.getElem?_drop]
  congr 2
  omega
theorem shift_set (hj : j0 < l.length) (hjk : j0 ≤ k) (hk : k + 1 < l.length) : (shiftL l j0 k).set k (l.getD (k + 1) 0) = shiftL l j0 (k + 1) := by
  have h1 : ((l.eraseIdx j0).take k).length = k := by rw [List.length_take, List.length_eraseIdx_of_lt hj]; omega
  have h2 : ((l.eraseIdx j0).take (k + 1)).length = k + 1 := by rw [List.length_take, List.length_eraseIdx_of_lt hj]; omega
  have e1 := shift_len (k := k) hj (by omega)
  have e2 := shift_len hj hk
  unfold shiftL at e1 e2 ⊢
  apply List.ext_getElem
  · rw [List.length_set, e1, e2]
  · intro i a b
    rw [List.getElem_set]
    by_cases e : k = i
    · subst e
      rw [if_pos rfl, List.getElem_append_left (by omega), List.getElem_take, List.getElem_eraseIdx_of_ge (by rw [List.length_eraseIdx_of_lt hj]; omega) hjk]
      simp [List.getD_eq_getElem?_getD, hk]
    · rw [if_neg e]
      by_cases e2 : i < k
      · rw [List.getElem_append_left (by omega), List.getElem_append_left (by omega), List.getElem_take, List.getElem_take]
      · rw [List.getElem_append_right (by omega), List.getElem_append_right (by omega), List.getElem_drop, List.getElem_drop]
        congr 1
        omega
theorem shift_end (hj : j0 < l.length) (hm : l.length = m + 1) : ((shiftL l j0 m).set m 0).take m = l.eraseIdx j0 := by
  rw [List.take_set_of_le (Nat.le_refl _)]
  unfold shiftL
  have h1 : (l.eraseIdx j0).length = m := by rw [List.length_eraseIdx_of_lt hj]; omega
  rw [List.take_append_of_le_length (by rw [List.length_take]; omega), List.take_take, Nat.min_self, List.take_of_length_le (by omega)]
end
section
variable {F0 : Nat → Prop} {W0 w : World} {q : List Ob} {gb cv m b : Nat} {l : List Int} {x : Int}
theorem same_slot (hb : w.cell? ⟨b, 0, none⟩ = some (.int .i64 x)) (y : Int) : Calls Try.prog 109 #[.int .i64 y, .pointer (some ⟨b, 0, none⟩)] w fun e w' => e = .returned (.bool (y == x)) ∧ w = w' := by
  go_enter Try.func109, Try.ntmps109
  go_wp2_with fail
  go_ret
  exact ⟨rfl, rfl⟩
theorem indexFunc_slot (a : Option Addr) (c : Nat) (hc : l.length ≤ c ∧ c ≤ 9223372036854775807) (hl : IntsAt w .i64 a l) (hb : w.cell? ⟨b, 0, none⟩ = some (.int .i64 x)) (hx : x ∈ l) :
    Calls Try.prog 70 #[.slice a l.length c, .func (Fn.func 109) #[] #[.pointer (some ⟨b, 0, none⟩)]] w fun e w' => ∃ j : Nat, e = .returned (.int .i64 j) ∧ j < l.length ∧ l.getD j 0 = x ∧ w = w' := by
  obtain ⟨hc1, hc2⟩ := hc
  have hS := fun y => same_slot hb y
  have hall : ¬ ∀ i, i < l.length → l.getD i 0 ≠ x := fun h => by
    obtain ⟨i, hi, e⟩ := List.getElem_of_mem hx
    exact h i hi (by simpa [List.getD_eq_getElem?_getD, hi] using e)
  clear hx
  go_enter Try.func70, Try.ntmps70
  go_wp2_with fail
  go_loopw [8] (fun i wr => ∃ j : Nat, i = .int .i64 j ∧ j ≤ l.length ∧ (∀ i, i < j → l.getD i 0 ≠ x) ∧ w = wr) (fun i _ => l.length - (intOf i).toNat)
  case atStart => exact ⟨0, rfl, Nat.zero_le _, fun i hi => absurd hi (Nat.not_lt_zero _), rfl⟩
  case round =>
    obtain ⟨j, rfl, hj, hno, rfl⟩ := hrel
    by_cases hjn : j < l.length
    · have hji : (j : Int) < l.length := by omega
      obtain ⟨gb, o, rfl, u0⟩ := hl j hjn
      have hSj := hS (l.getD j 0)
      by_cases e : l.getD j 0 = x
      · have hfin : ∃ j' : Nat, Ending.returned (.int .i64 (j : Int)) = .returned (.int .i64 j') ∧ j' < l.length ∧ l.getD j' 0 = x := ⟨j, rfl, hjn, e⟩
        have e2 : (l.getD j 0 == x) = true := by simpa using e
        rw [e2] at hSj
        clear e2 e
        clear hl hall hno hS
        generalize l.getD j 0 = y at *
        go_wp2_with fail
        refine hSj.mono ?_
        rintro e w1 ⟨rfl, rfl⟩
        go_wp2_with fail
        go_ret
        obtain ⟨j', h1, h2, h3⟩ := hfin
        exact ⟨j', h1, h2, h3, rfl⟩
      · have hno2 : ∀ i, i < j + 1 → l.getD i 0 ≠ x := fun i hi => by
          by_cases e2 : i = j
          · rw [e2]; exact e
          · exact hno i (by omega)
        have e2 : (l.getD j 0 == x) = false := by simpa using e
        rw [e2] at hSj
        clear hl hall hno hS e e2
        generalize l.getD j 0 = y at *
        go_wp2_with fail
        refine hSj.mono ?_
        rintro e w1 ⟨rfl, rfl⟩
        go_wp2_with fail
        go_roundw
        case rel => exact ⟨j + 1, by go_num, by omega, hno2, trivial⟩
        case measure => simp [intOf]; omega
    · obtain rfl : j = l.length := by omega
      exact absurd hno hall
set_option maxRecDepth 100000 in
set_option maxHeartbeats 2000000 in
theorem delete_row (hm : l.length = m + 1) (hx : x ∈ l) (hnd : l.Nodup) (hs : Stage F0 W0 (Ob.ints (.slice (some ⟨gb, 0, none⟩) (m + 1) cv) l :: Ob.box b #[.int .i64 x] 3 :: q) w) :
    Calls Try.prog 108 #[.slice (some ⟨gb, 0, none⟩) (m + 1) cv, .func (Fn.func 109) #[] #[.pointer (some ⟨b, 0, none⟩)]] w fun e w' => e = .returned (.slice (some ⟨gb, 0, none⟩) m cv) ∧ Stage F0 W0 (Ob.ints (.slice (some ⟨gb, 0, none⟩) m cv) (l.erase x) :: Ob.box b #[.int .i64 x] 3 :: q) w' := by
  have hb : w.cell? ⟨b, 0, none⟩ = some (.int .i64 x) := hs.cell 1 rfl rfl
  have hs0 := hs
  rw [← hm] at hs0
  obtain ⟨_, _, e9, hc1, hc2⟩ := hs0.intsForm 0 rfl
  cases e9
  have hI := indexFunc_slot (x := x) (b := b) _ _ ⟨hc1, hc2⟩ (hs0.intsAtI 0 rfl) hb hx
  rw [hm] at hI hc1
  clear hs0 hb hx
  go_enter Try.func108, Try.ntmps108
  go_wp2_with fail
  refine hI.mono ?_
  rintro e w1 ⟨j0, rfl, hj0, hat, rfl⟩
  rw [← hm] at hj0
  clear hI
  have hn1 : ((j0 : Int) == -1) = false := by rw [beq_eq_false_iff_ne]; omega
  have hn2 : IntKind.i64.wrap ((j0 : Int) + 1) = (j0 : Int) + 1 := IntWalk.i64_in _ (by omega)
  have hs1 : Stage F0 W0 (Ob.row 0 3 1 (.slice (some ⟨gb, 0, none⟩) (m + 1) cv) (m + 1) (cellsBy intC (shiftL l j0 j0)) :: Ob.box b #[.int .i64 x] 3 :: q) w := by
    rw [shift_start hj0]
    have h := hs
    unfold Ob.ints at h
    rw [hm] at h
    exact h
  clear hs
  go_wp2_with fail
  go_loopw [5, 6] (fun i j wr => ∃ k : Nat, i = .int .i64 k ∧ j = .int .i64 ((k : Int) + 1) ∧ j0 ≤ k ∧ k ≤ m ∧ Stage F0 W0 (Ob.row 0 3 1 (.slice (some ⟨gb, 0, none⟩) (m + 1) cv) (m + 1) (cellsBy intC (shiftL l j0 k)) :: Ob.box b #[.int .i64 x] 3 :: q) wr) (fun i _ _ => m - (intOf i).toNat)
  case atStart => exact ⟨j0, rfl, rfl, Nat.le_refl _, by omega, hs1⟩
  case round =>
    clear hs1
    obtain ⟨k, rfl, rfl, hjk, hkm, hs⟩ := hrel
    by_cases hlt : k < m
    · have hki : (k : Int) + 1 < (m : Int) + 1 := by omega
      have hsl := shift_len (k := k) hj0 (by omega)
      have hs2 : Stage F0 W0 (Ob.ints (.slice (some ⟨gb, 0, none⟩) (shiftL l j0 k).length cv) (shiftL l j0 k) :: Ob.box b #[.int .i64 x] 3 :: q) wr := by
        unfold Ob.ints
        rw [hsl, hm]
        exact hs
      obtain ⟨g8, c8, e8, _, _, _, hc8, hfr⟩ := hs2.intsAt 0 rfl (by rw [hsl]; omega)
      cases e8
      have u1 := hc8 (k + 1) (by rw [hsl]; omega)
      have u0 := hc8 k (by rw [hsl]; omega)
      rw [shift_at hj0 (by omega)] at u1
      have hS := same_slot (hs.cell 1 rfl rfl) (l.getD (k + 1) 0)
      have hne : (l.getD (k + 1) 0 == x) = false := by
        rw [beq_eq_false_iff_ne]
        intro e
        have h1 : l[k + 1]'(by omega) = l[j0] := by
          have e1 : l[k + 1]'(by omega) = x := by simpa [List.getD_eq_getElem?_getD, show k + 1 < l.length by omega] using e
          have e2 : l[j0] = x := by simpa [List.getD_eq_getElem?_getD, hj0] using hat
          rw [e1, e2]
        have := (List.getElem_inj hnd).1 h1
        omega
      rw [hne] at hS
      have hst := hs.storeRow 0 rfl k (.int .i64 (l.getD (k + 1) 0)) (intC_set _ k _)
      rw [shift_set hj0 hjk (by omega)] at hst
      replace hst : Stage F0 W0 (Ob.row 0 3 1 (.slice (some ⟨gb, 0, none⟩) (m + 1) cv) (m + 1) (cellsBy intC (shiftL l j0 (k + 1))) :: Ob.box b #[.int .i64 x] 3 :: q) (wr.setCell ⟨gb, k, none⟩ (.int .i64 (l.getD (k + 1) 0))) := hst
      have hw2 : IntKind.i64.wrap ((k : Int) + 1) = (k : Int) + 1 := IntWalk.i64_in _ (by omega)
      have hw3 : IntKind.i64.wrap ((k : Int) + 1 + 1) = (k : Int) + 1 + 1 := IntWalk.i64_in _ (by omega)
      have hfk := hfr k
      clear hs hs2 hc8 hne hsl hfr hat hj0 hm
      generalize (shiftL l j0 k).getD k 0 = y0 at *
      generalize l.getD (k + 1) 0 = y at *
      go_wp2_with fail
      refine hS.mono ?_
      rintro e w2 ⟨rfl, rfl⟩
      clear hS
      go_wp2_with fail
      go_roundw
      case rel => exact ⟨k + 1, by go_num, by go_num, by omega, by omega, hst⟩
      case measure => simp [intOf]; omega
    · obtain rfl : k = m := by omega
      have hcl : ∀ ty, (Builtin.clear_ #[65] ty #[.slice (some ⟨gb, k, none⟩) 1 (cv - k)]).run Try.prog wr = .ok (.tuple #[]) (wr.setCell ⟨gb, k, none⟩ (.int .i64 0)) := by
        intro ty
        have hsl := shift_len (k := k) hj0 (by omega)
        have hs2 : Stage F0 W0 (Ob.ints (.slice (some ⟨gb, 0, none⟩) (shiftL l j0 k).length cv) (shiftL l j0 k) :: Ob.box b #[.int .i64 x] 3 :: q) wr := by
          unfold Ob.ints
          rw [hsl, hm]
          exact hs
        obtain ⟨g8, c8, e8, _, _, _, hc8, hfr⟩ := hs2.intsAt 0 rfl (by rw [hsl]; omega)
        cases e8
        have h := Lib.run_clear_slice wr 65 3 ty (.int .i64 0) Try.underlying65 szero_int rfl rfl gb k 1 (cv - k) (by omega) (fun j hj => by rw [show k + j = k by omega, hc8 k (by rw [hsl]; omega)]; rfl) (fun j hj => hfr _)
        exact h
      have hst := hs.storeRow 0 rfl k (.int .i64 0) (intC_set _ k _)
      have hfin : Stage F0 W0 (Ob.ints (.slice (some ⟨gb, 0, none⟩) k cv) (l.erase x) :: Ob.box b #[.int .i64 x] 3 :: q) (wr.setCell ⟨gb, k, none⟩ (.int .i64 0)) := by
        have hel : (l.erase x).length = k := by rw [← erase_at hnd hj0 hat, List.length_eraseIdx_of_lt hj0]; omega
        have hwk := hst.weaken (i := 0) (O' := Ob.ints (.slice (some ⟨gb, 0, none⟩) k cv) (l.erase x)) rfl (fun F ⟨ho, hF⟩ => by
          have h1 := owns_short ho (m := k) (by omega)
          have h2 := cellsBy_take intC 1 intC_len ((shiftL l j0 k).set k 0) k
          rw [Nat.mul_one] at h2
          rw [Nat.mul_one, h2, shift_end hj0 hm, erase_at hnd hj0 hat] at h1
          refine ⟨?_, hF⟩
          rw [hel]
          exact h1)
        exact hwk
      have hcv : ¬ cv = k := by omega
      have hkc : k < k + 1 := by omega
      clear hs hst hat hj0 hm
      go_wp2_with fail
      go_ret
      exact ⟨rfl, hfin⟩
end
end Go.Proofs.Ytmoolbmbdnkooaa
