/- Merged of BinDelete, BinRemove. -/
import Derived.Test.YtmoolbmbdnkooaaGreatBinForest
import Derived.Deep.RegionHeld3
namespace Go.Proofs.YtmoolbmbdnkooaaGreat
open Go.RowKit Go.Sort

theorem erase_at : ∀ {l : List Int} {j : Nat} {x : Int}, l.Nodup → j < l.length → l.getD j 0 = x → l.eraseIdx j = l.erase x
  | [], j, x, _, h, _ => by simp at h
  | a :: l, 0, x, _, _, h => by
    have e : a = x := h
    rw [e, List.erase_cons_head]; rfl
  | a :: l, j + 1, x, hn, hj, h => by
    obtain ⟨h1, h2⟩ := List.nodup_cons.1 hn
    have hj2 : j < l.length := by simpa using hj
    have hx : l.getD j 0 = x := by simpa using h
    have hm : x ∈ l := by rw [← hx]; exact mem_getD' l j 0 hj2
    have hne : a ≠ x := fun e => h1 (e ▸ hm)
    rw [List.eraseIdx_cons_succ, List.erase_cons_tail (by simpa using hne), erase_at h2 hj2 hx]
/-- As far as the k-th the others have moved up. -/
def shiftL (l : List Int) (j0 k : Nat) : List Int := (l.eraseIdx j0).take k ++ l.drop k
section
variable {l : List Int} {j0 k m : Nat}
theorem shift_start (hj : j0 < l.length) : shiftL l j0 j0 = l := by
  unfold shiftL
  rw [List.eraseIdx_eq_take_drop_succ, List.take_append_of_le_length (by simp; omega), List.take_take, Nat.min_self, List.take_append_drop]
theorem shift_len (hj : j0 < l.length) (hk : k < l.length) : (shiftL l j0 k).length = l.length := by
  unfold shiftL
  rw [List.length_append, List.length_take, List.length_eraseIdx_of_lt hj, List.length_drop]
  omega
theorem shift_at (hj : j0 < l.length) (hk : k + 1 < l.length) : (shiftL l j0 k).getD (k + 1) 0 = l.getD (k + 1) 0 := by
  unfold shiftL
  have h1 : ((l.eraseIdx j0).take k).length = k := by rw [List.length_take, List.length_eraseIdx_of_lt hj]; omega
  simp only [List.getD_eq_getElem?_getD]
  rw [List.getElem?_append_right (by omega), h1, List.getElem?_drop]
  congr 2
  omega
theorem shift_set (hj : j0 < l.length) (hjk : j0 ≤ k) (hk : k + 1 < l.length) : (shiftL l j0 k).set k (l.getD (k + 1) 0) = shiftL l j0 (k + 1) := by
  have h1 : ((l.eraseIdx j0).take k).length = k := by rw [List.length_take, List.length_eraseIdx_of_lt hj]; omega
  have h2 : ((l.eraseIdx j0).take (k + 1)).length = k + 1 := by rw [List.length_take, List.length_eraseIdx_of_lt hj]; omega
  have e1 := shift_len (k := k) hj (by omega)
  have e2 := shift_len hj hk
  unfold shiftL at e1 e2 ⊢
  apply List.ext_getElem
  · rw [List.length_set, e1, e2]
  · intro i a b
    rw [List.getElem_set]
    by_cases e : k = i
    · subst e
      rw [if_pos rfl, List.getElem_append_left (by omega), List.getElem_take, List.getElem_eraseIdx_of_ge (by rw [List.length_eraseIdx_of_lt hj]; omega) hjk]
      simp [List.getD_eq_getElem?_getD, hk]
    · rw [if_neg e]
      by_cases e2 : i < k
      · rw [List.getElem_append_left (by omega), List.getElem_append_left (by omega), List.getElem_take, List.getElem_take]
      · rw [List.getElem_append_right (by omega), List.getElem_append_right (by omega), List.getElem_drop, List.getElem_drop]
        congr 1
        omega
theorem shift_end (hj : j0 < l.length) (hm : l.length = m + 1) : ((shiftL l j0 m).set m 0).take m = l.eraseIdx j0 := by
  rw [List.take_set_of_le (Nat.le_refl _)]
  unfold shiftL
  have h1 : (l.eraseIdx j0).length = m := by rw [List.length_eraseIdx_of_lt hj]; omega
  rw [List.take_append_of_le_length (by rw [List.length_take]; omega), List.take_take, Nat.min_self, List.take_of_length_le (by omega)]
end
section
variable {F0 : Nat → Prop} {W0 w : World} {q : List Ob} {gb cv m b : Nat} {l : List Int} {x : Int}
theorem same_slot (hb : w.cell? ⟨b, 0, none⟩ = some (.int .i64 x)) (y : Int) : Calls Tryz.prog 111 #[.int .i64 y, .pointer (some ⟨b, 0, none⟩)] w fun e w' => e = .returned (.bool (y == x)) ∧ w = w' := by
  go_enter Tryz.func111, Tryz.ntmps111
  go_wp2_with fail
  go_ret
  exact ⟨rfl, rfl⟩
theorem indexFunc_slot (a : Option Addr) (c : Nat) (hc : l.length ≤ c ∧ c ≤ 9223372036854775807) (hl : IntsAt w .i64 a l) (hb : w.cell? ⟨b, 0, none⟩ = some (.int .i64 x)) (hx : x ∈ l) :
    Calls Tryz.prog 74 #[.slice a l.length c, .func (Fn.func 111) #[] #[.pointer (some ⟨b, 0, none⟩)]] w fun e w' => ∃ j : Nat, e = .returned (.int .i64 j) ∧ j < l.length ∧ l.getD j 0 = x ∧ w = w' := by
  obtain ⟨hc1, hc2⟩ := hc
  have hS := fun y => same_slot hb y
  have hall : ¬ ∀ i, i < l.length → l.getD i 0 ≠ x := fun h => by
    obtain ⟨i, hi, e⟩ := List.getElem_of_mem hx
    exact h i hi (by simpa [List.getD_eq_getElem?_getD, hi] using e)
  clear hx
  go_enter Tryz.func74, Tryz.ntmps74
  go_wp2_with fail
  go_loopw [8] (fun i wr => ∃ j : Nat, i = .int .i64 j ∧ j ≤ l.length ∧ (∀ i, i < j → l.getD i 0 ≠ x) ∧ w = wr) (fun i _ => l.length - (intOf i).toNat)
  case atStart => exact ⟨0, rfl, Nat.zero_le _, fun i hi => absurd hi (Nat.not_lt_zero _), rfl⟩
  case round =>
    obtain ⟨j, rfl, hj, hno, rfl⟩ := hrel
    by_cases hjn : j < l.length
    · have hji : (j : Int) < l.length := by omega
      obtain ⟨gb, o, rfl, u0⟩ := hl j hjn
      have hSj := hS (l.getD j 0)
      by_cases e : l.getD j 0 = x
      · have hfin : ∃ j' : Nat, Ending.returned (.int .i64 (j : Int)) = .returned (.int .i64 j') ∧ j' < l.length ∧ l.getD j' 0 = x := ⟨j, rfl, hjn, e⟩
        have e2 : (l.getD j 0 == x) = true := by simpa using e
        rw [e2] at hSj
        clear e2 e
        clear hl hall hno hS
        generalize l.getD j 0 = y at *
        go_wp2_with fail
        refine hSj.mono ?_
        rintro e w1 ⟨rfl, rfl⟩
        go_wp2_with fail
        go_ret
        obtain ⟨j', h1, h2, h3⟩ := hfin
        exact ⟨j', h1, h2, h3, rfl⟩
      · have hno2 : ∀ i, i < j + 1 → l.getD i 0 ≠ x := fun i hi => by
          by_cases e2 : i = j
          · rw [e2]; exact e
          · exact hno i (by omega)
        have e2 : (l.getD j 0 == x) = false := by simpa using e
        rw [e2] at hSj
        clear hl hall hno hS e e2
        generalize l.getD j 0 = y at *
        go_wp2_with fail
        refine hSj.mono ?_
        rintro e w1 ⟨rfl, rfl⟩
        go_wp2_with fail
        go_roundw
        case rel => exact ⟨j + 1, by go_num, by omega, hno2, trivial⟩
        case measure => simp [intOf]; omega
    · obtain rfl : j = l.length := by omega
      exact absurd hno hall
set_option maxRecDepth 100000 in
set_option maxHeartbeats 2000000 in
theorem delete_row (hm : l.length = m + 1) (hx : x ∈ l) (hnd : l.Nodup) (hs : Stage F0 W0 (Ob.ints (.slice (some ⟨gb, 0, none⟩) (m + 1) cv) l :: Ob.box b #[.int .i64 x] 3 :: q) w) :
    Calls Tryz.prog 110 #[.slice (some ⟨gb, 0, none⟩) (m + 1) cv, .func (Fn.func 111) #[] #[.pointer (some ⟨b, 0, none⟩)]] w fun e w' => e = .returned (.slice (some ⟨gb, 0, none⟩) m cv) ∧ Stage F0 W0 (Ob.ints (.slice (some ⟨gb, 0, none⟩) m cv) (l.erase x) :: Ob.box b #[.int .i64 x] 3 :: q) w' := by
  have hb : w.cell? ⟨b, 0, none⟩ = some (.int .i64 x) := hs.cell 1 rfl rfl
  have hs0 := hs
  rw [← hm] at hs0
  obtain ⟨_, _, e9, hc1, hc2⟩ := hs0.intsForm 0 rfl
  cases e9
  have hI := indexFunc_slot (x := x) (b := b) _ _ ⟨hc1, hc2⟩ (hs0.intsAtI 0 rfl) hb hx
  rw [hm] at hI hc1
  clear hs0 hb hx
  go_enter Tryz.func110, Tryz.ntmps110
  go_wp2_with fail
  refine hI.mono ?_
  rintro e w1 ⟨j0, rfl, hj0, hat, rfl⟩
  rw [← hm] at hj0
  clear hI
  have hn1 : ((j0 : Int) == -1) = false := by rw [beq_eq_false_iff_ne]; omega
  have hn2 : IntKind.i64.wrap ((j0 : Int) + 1) = (j0 : Int) + 1 := IntWalk.i64_in _ (by omega)
  have hs1 : Stage F0 W0 (Ob.row 0 3 1 (.slice (some ⟨gb, 0, none⟩) (m + 1) cv) (m + 1) (cellsBy intC (shiftL l j0 j0)) :: Ob.box b #[.int .i64 x] 3 :: q) w := by
    rw [shift_start hj0]
    have h := hs
    unfold Ob.ints at h
    rw [hm] at h
    exact h
  clear hs
  go_wp2_with fail
  go_loopw [5, 6] (fun i j wr => ∃ k : Nat, i = .int .i64 k ∧ j = .int .i64 ((k : Int) + 1) ∧ j0 ≤ k ∧ k ≤ m ∧ Stage F0 W0 (Ob.row 0 3 1 (.slice (some ⟨gb, 0, none⟩) (m + 1) cv) (m + 1) (cellsBy intC (shiftL l j0 k)) :: Ob.box b #[.int .i64 x] 3 :: q) wr) (fun i _ _ => m - (intOf i).toNat)
  case atStart => exact ⟨j0, rfl, rfl, Nat.le_refl _, by omega, hs1⟩
  case round =>
    clear hs1
    obtain ⟨k, rfl, rfl, hjk, hkm, hs⟩ := hrel
    by_cases hlt : k < m
    · have hki : (k : Int) + 1 < (m : Int) + 1 := by omega
      have hsl := shift_len (k := k) hj0 (by omega)
      have hs2 : Stage F0 W0 (Ob.ints (.slice (some ⟨gb, 0, none⟩) (shiftL l j0 k).length cv) (shiftL l j0 k) :: Ob.box b #[.int .i64 x] 3 :: q) wr := by
        unfold Ob.ints
        rw [hsl, hm]
        exact hs
      obtain ⟨g8, c8, e8, _, _, _, hc8, hfr⟩ := hs2.intsAt 0 rfl (by rw [hsl]; omega)
      cases e8
      have u1 := hc8 (k + 1) (by rw [hsl]; omega)
      have u0 := hc8 k (by rw [hsl]; omega)
      rw [shift_at hj0 (by omega)] at u1
      have hS := same_slot (hs.cell 1 rfl rfl) (l.getD (k + 1) 0)
      have hne : (l.getD (k + 1) 0 == x) = false := by
        rw [beq_eq_false_iff_ne]
        intro e
        have h1 : l[k + 1]'(by omega) = l[j0] := by
          have e1 : l[k + 1]'(by omega) = x := by simpa [List.getD_eq_getElem?_getD, show k + 1 < l.length by omega] using e
          have e2 : l[j0] = x := by simpa [List.getD_eq_getElem?_getD, hj0] using hat
          rw [e1, e2]
        have := (List.getElem_inj hnd).1 h1
        omega
      rw [hne] at hS
      have hst := hs.storeRow 0 rfl k (.int .i64 (l.getD (k + 1) 0)) (intC_set _ k _)
      rw [shift_set hj0 hjk (by omega)] at hst
      replace hst : Stage F0 W0 (Ob.row 0 3 1 (.slice (some ⟨gb, 0, none⟩) (m + 1) cv) (m + 1) (cellsBy intC (shiftL l j0 (k + 1))) :: Ob.box b #[.int .i64 x] 3 :: q) (wr.setCell ⟨gb, k, none⟩ (.int .i64 (l.getD (k + 1) 0))) := hst
      have hw2 : IntKind.i64.wrap ((k : Int) + 1) = (k : Int) + 1 := IntWalk.i64_in _ (by omega)
      have hw3 : IntKind.i64.wrap ((k : Int) + 1 + 1) = (k : Int) + 1 + 1 := IntWalk.i64_in _ (by omega)
      have hfk := hfr k
      clear hs hs2 hc8 hne hsl hfr hat hj0 hm
      generalize (shiftL l j0 k).getD k 0 = y0 at *
      generalize l.getD (k + 1) 0 = y at *
      go_wp2_with fail
      refine hS.mono ?_
      rintro e w2 ⟨rfl, rfl⟩
      clear hS
      go_wp2_with fail
      go_roundw
      case rel => exact ⟨k + 1, by go_num, by go_num, by omega, by omega, hst⟩
      case measure => simp [intOf]; omega
    · obtain rfl : k = m := by omega
      have hcl : ∀ ty, (Builtin.clear_ #[44] ty #[.slice (some ⟨gb, k, none⟩) 1 (cv - k)]).run Tryz.prog wr = .ok (.tuple #[]) (wr.setCell ⟨gb, k, none⟩ (.int .i64 0)) := by
        intro ty
        have hsl := shift_len (k := k) hj0 (by omega)
        have hs2 : Stage F0 W0 (Ob.ints (.slice (some ⟨gb, 0, none⟩) (shiftL l j0 k).length cv) (shiftL l j0 k) :: Ob.box b #[.int .i64 x] 3 :: q) wr := by
          unfold Ob.ints
          rw [hsl, hm]
          exact hs
        obtain ⟨g8, c8, e8, _, _, _, hc8, hfr⟩ := hs2.intsAt 0 rfl (by rw [hsl]; omega)
        cases e8
        have h := Lib.run_clear_slice wr 44 3 ty (.int .i64 0) Tryz.underlying44 szero_int rfl rfl gb k 1 (cv - k) (by omega) (fun j hj => by rw [show k + j = k by omega, hc8 k (by rw [hsl]; omega)]; rfl) (fun j hj => hfr _)
        exact h
      have hst := hs.storeRow 0 rfl k (.int .i64 0) (intC_set _ k _)
      have hfin : Stage F0 W0 (Ob.ints (.slice (some ⟨gb, 0, none⟩) k cv) (l.erase x) :: Ob.box b #[.int .i64 x] 3 :: q) (wr.setCell ⟨gb, k, none⟩ (.int .i64 0)) := by
        have hel : (l.erase x).length = k := by rw [← erase_at hnd hj0 hat, List.length_eraseIdx_of_lt hj0]; omega
        have hwk := hst.weaken (i := 0) (O' := Ob.ints (.slice (some ⟨gb, 0, none⟩) k cv) (l.erase x)) rfl (fun F ⟨ho, hF⟩ => by
          have h1 := owns_short ho (m := k) (by omega)
          have h2 := cellsBy_take intC 1 intC_len ((shiftL l j0 k).set k 0) k
          rw [Nat.mul_one] at h2
          rw [Nat.mul_one, h2, shift_end hj0 hm, erase_at hnd hj0 hat] at h1
          refine ⟨?_, hF⟩
          rw [hel]
          exact h1)
        exact hwk
      have hcv : ¬ cv = k := by omega
      have hkc : k < k + 1 := by omega
      clear hs hst hat hj0 hm
      go_wp2_with fail
      go_ret
      exact ⟨rfl, hfin⟩
end
end Go.Proofs.YtmoolbmbdnkooaaGreat

namespace Go.Proofs.YtmoolbmbdnkooaaGreat
open Go.RowKit Go.Sort

section
variable {F0 F : Nat → Prop} {W0 w : World} {f c t n : Nat} {W : WS} {s : Int} {K : Int → List Int} {R : Nat → List Int} {h gb cv m b b' : Nat} {l A0 : List Int} {v : Value} {x : Int}
set_option maxRecDepth 100000 in
theorem raise1_st (p : Int) (hs : Stage F0 W0 (binF f c t n W s K ++ [Ob.ints v l, Ob.box b #[ptrV f] 35, Ob.box b' #[.int .i64 x] 3]) w) :
    Calls Tryz.prog 108 (#[.int .i64 p] ++ #[.pointer (some ⟨b, 0, none⟩), .pointer (some ⟨b', 0, none⟩)]) w fun e w' => e = .returned (.bool (aheadW W x p)) ∧ ∃ s', (s ≤ s' ∧ s' ≤ s + 1) ∧ Stage F0 W0 (binF f c t n W s' K ++ [Ob.ints v l, Ob.box b #[ptrV f] 35, Ob.box b' #[.int .i64 x] 3]) w' := by
  have f0 : w.cell? ⟨f, 0, none⟩ = some (.pointer (some ⟨c, 0, none⟩)) := hs.cell 2 rfl rfl
  have k0 : w.cell? ⟨b, 0, none⟩ = some (.pointer (some ⟨f, 0, none⟩)) := hs.cell 4 rfl rfl
  have k1 : w.cell? ⟨b', 0, none⟩ = some (.int .i64 x) := hs.cell 5 rfl rfl
  have hA := hs.drew.call 1 rfl (fun _ ho => ahead_cl x p ho)
  have hr := ahead_range (W := W) (a := x) (b := p) ((hs.get (i := 1) rfl).elim fun _ ho => Ob.cells.steps ho)
  clear hs
  generalize aheadW W x p = B at *
  generalize aheadS W s x p = s2 at *
  show Calls Tryz.prog 108 #[.int .i64 p, .pointer (some ⟨b, 0, none⟩), .pointer (some ⟨b', 0, none⟩)] w _
  go_enter Tryz.func108, Tryz.ntmps108
  go_wp2_with fail
  go_still_tail 6, (by kernel_rfl)
  change wpList _ _ _ _ _ w.drew
  go_wp2_with fail
  refine hA.mono ?_
  rintro e w1 ⟨rfl, h1⟩
  go_wp2_with fail
  go_ret
  exact ⟨rfl, s2, hr, h1⟩
theorem remove1_any (p : Int) (w : World) : Calls Tryz.prog 109 (#[.int .i64 p] ++ #[]) w fun e w' => e = .returned (.bool true) ∧ w = w' := by
  show Calls Tryz.prog 109 #[.int .i64 p] w _
  go_enter Tryz.func109, Tryz.ntmps109
  go_wp2_with fail
  go_ret
  exact ⟨rfl, rfl⟩
set_option maxRecDepth 100000 in
set_option maxHeartbeats 1000000 in
theorem raise_one (hn : n ≤ 65536) (hm : l.length = m) (J0 : LiftJ W n R h x A0 K l A0) (low : ∀ y ∈ K x, aheadW W y x = false) (hx : (cellW W x).home = h) (hs : Stage F w (binF f c t n W s K ++ [Ob.ints (.slice (some ⟨gb, 0, none⟩) m cv) l]) w) :
    Calls Tryz.prog 101 #[.pointer (some ⟨f, 0, none⟩), .slice (some ⟨gb, 0, none⟩) m cv, .int .i64 x] w fun e w' => e = .returned (.tuple #[]) ∧ ∃ K' l' s', BinAll W n K' (updI R h l') ∧ (s ≤ s' ∧ s' ≤ s + A0.length) ∧ l'.length = m ∧ Stage F w (binF f c t n W s' K' ++ [Ob.ints (.slice (some ⟨gb, 0, none⟩) m cv) l']) w' := by
  obtain ⟨w1, hw1, hs1⟩ : ∃ w1, (w.alloc (.cells #[.pointer (some ⟨f, 0, none⟩)] 35)).alloc (.cells #[.int .i64 x] 3) = w1 ∧
      Stage F w (binF f c t n W s K ++ (Ob.ints (.slice (some ⟨gb, 0, none⟩) m cv) l :: [Ob.box w.heap.size #[ptrV f] 35, Ob.box (w.heap.size + 1) #[.int .i64 x] 3])) w1 := ⟨_, rfl, (hs.alloc _ _).alloc' _ _ (size_alloc _ _)⟩
  have k0 : w1.cell? ⟨w.heap.size, 0, none⟩ = some (.pointer (some ⟨f, 0, none⟩)) := hs1.cell 4 rfl rfl
  have k1 : w1.cell? ⟨w.heap.size + 1, 0, none⟩ = some (.int .i64 x) := hs1.cell 5 rfl rfl
  have hL := lift_st (fid := 108) (caps := #[.pointer (some ⟨w.heap.size, 0, none⟩), .pointer (some ⟨w.heap.size + 1, 0, none⟩)]) (B := fun p => aheadW W x p) (Lw := fun K' => ∀ y ∈ K' x, aheadW W y x = false) x hn hx hm J0 low
    (fun K' l' p r J hl hB => by
      obtain ⟨hxp, e1, _⟩ := J.step hx
      rw [e1]
      exact low_lift J.inv J.home J.hole hxp hB)
    (fun _ _ => by kernel_rfl) (fun s' K' l' p w' _ h => raise1_st p h) hs1
  have hmf : ∀ (fn : Go.Fn) (first cap : Array Value) (w : World), (Instr.makeFunc fn first cap).run Tryz.prog w = .ok (.func fn first cap) w := fun _ _ _ _ => rfl
  clear hs hs1 J0 low
  go_enter Tryz.func101, Tryz.ntmps101
  go_wp2_with fail
  refine hL.mono ?_
  rintro e w2 ⟨rfl, K', l', A', s', J, hl, hr, hu, hm', h2⟩
  clear hL
  have h3 : Stage F w (binF f c t n W s' K' ++ [Ob.ints (.slice (some ⟨gb, 0, none⟩) m cv) l']) w2 := h2.take 4
  have hA := J.done hl hu
  clear h2 J hl hu
  go_wp2_with fail
  go_end0
  exact ⟨rfl, K', l', s', hA, hr, hm', h3⟩
theorem Stage.bmerge {q : List Ob} {a b : Option Addr} {ca cb : Nat} {la lb : List Int} (hs : Stage F0 W0 ((binF f c t n W s K ++ [Ob.ints (.slice a la.length ca) la, Ob.ints (.slice b lb.length cb) lb]) ++ q) w) (hRA : RowK n K la) (hRB : RowK n K lb) (hd : ¬ ∃ x ∈ la, x ∈ lb) (hin : ∀ x ∈ la ++ lb, inW W x = true) :
    Calls Tryz.prog 20 #[.pointer (some ⟨f, 0, none⟩), .slice a la.length ca, .slice b lb.length cb] w fun e w' => ∃ z m cz K' s' r, e = .returned (.slice z m cz) ∧ BinMerged n W K (la ++ lb) s K' r s' ∧ Stage F0 W0 ((binF f c t n W s' K' ++ [Ob.ints (.slice z m cz) r]) ++ q) w' :=
  (hs.frameEx (α := Option Addr × Nat × Nat × (Int → List Int) × Int × List Int)
    (Post := fun x e => e = .returned (.slice x.1 x.2.1 x.2.2.1) ∧ BinMerged n W K (la ++ lb) s x.2.2.2.1 x.2.2.2.2.2 x.2.2.2.2.1)
    (l' := fun x => binF f c t n W x.2.2.2.2.1 x.2.2.2.1 ++ [Ob.ints (.slice x.1 x.2.1 x.2.2.1) x.2.2.2.2.2])
    fun _ _ h => (bmerge_one h hRA hRB hd hin).mono fun _ _ ⟨z, m, cz, K', s', r, he, h1, h2⟩ => ⟨(z, m, cz, K', s', r), ⟨he, h1⟩, h2⟩).mono
  fun _ _ ⟨x, ⟨he, h1⟩, h2⟩ => ⟨x.1, x.2.1, x.2.2.1, x.2.2.2.1, x.2.2.2.2.1, x.2.2.2.2.2, he, h1, h2⟩
theorem bremove_merge {v4 : Value} {rest kids : List Int} (h5 : Stage F0 W0 ([Ob.forest t n K, Ob.ints v4 kids] ++ [Ob.cells c W s, Ob.box f #[ptrV c, ptrV t] 73, Ob.ints (.slice (some ⟨gb, 0, none⟩) m cv) rest, Ob.box b #[.int .i64 x] 3]) w) (hel : rest.length = m) (hRA : RowK n K rest) (hRB : RowK n K kids) (hd : ¬ ∃ x ∈ rest, x ∈ kids) (hin : ∀ x ∈ rest ++ kids, inW W x = true) :
    ∃ a4 c4, v4 = .slice a4 kids.length c4 ∧ Calls Tryz.prog 20 #[.pointer (some ⟨f, 0, none⟩), .slice (some ⟨gb, 0, none⟩) m cv, .slice a4 kids.length c4] w fun e w' => ∃ z m cz K' s' r, e = .returned (.slice z m cz) ∧ BinMerged n W K (rest ++ kids) s K' r s' ∧ Stage F0 W0 ((binF f c t n W s' K' ++ [Ob.ints (.slice z m cz) r]) ++ [Ob.box b #[.int .i64 x] 3]) w' := by
  have h6 : Stage F0 W0 ((binF f c t n W s K ++ [Ob.ints (.slice (some ⟨gb, 0, none⟩) m cv) rest, Ob.ints v4 kids]) ++ [Ob.box b #[.int .i64 x] 3]) w := h5.select [0, 2, 3, 4, 1, 5] (by decide) rfl
  obtain ⟨a4, c4, rfl, _, _⟩ := h5.intsForm 1 rfl
  rw [← hel] at h6
  have hM := Stage.bmerge h6 hRA hRB hd hin
  rw [hel] at hM
  exact ⟨a4, c4, rfl, hM⟩
set_option maxRecDepth 100000 in
set_option maxHeartbeats 2000000 in
theorem remove_one {kk : Nat} (hn : n ≤ 65536) (hm : l.length = m + 1) (J0 : LiftJ W n R h x A0 K l A0) (hx : (cellW W x).home = h) (hin : inW W x = true) (hh : 1 ≤ h) (hA0 : A0.length < kk) (hkk : lenW W h < 2 ^ kk) (hs : Stage F w (binF f c t n W s K ++ [Ob.ints (.slice (some ⟨gb, 0, none⟩) (m + 1) cv) l]) w) :
    Calls Tryz.prog 102 #[.pointer (some ⟨f, 0, none⟩), .slice (some ⟨gb, 0, none⟩) (m + 1) cv, .int .i64 x] w fun e w' => ∃ z mz cz K' r s', e = .returned (.slice z mz cz) ∧ BinAll (dropW W x) n K' (updI R h r) ∧ (s ≤ s' ∧ s' ≤ s + 3 * kk) ∧ Stage F w (binF f c t n W s' K' ++ [Ob.ints (.slice z mz cz) r]) w' := by
  obtain ⟨w1, hw1, hs1⟩ : ∃ w1, w.alloc (.cells #[.int .i64 x] 3) = w1 ∧
      Stage F w (binF f c t n W s K ++ (Ob.ints (.slice (some ⟨gb, 0, none⟩) (m + 1) cv) l :: [Ob.box w.heap.size #[.int .i64 x] 3])) w1 := ⟨_, rfl, hs.alloc _ _⟩
  have k0 : w1.cell? ⟨w.heap.size, 0, none⟩ = some (.int .i64 x) := hs1.cell 4 rfl rfl
  have hL := lift_st (fid := 109) (caps := #[]) (B := fun _ => true) (Lw := fun _ => True) x hn hx hm J0 trivial
    (fun _ _ _ _ _ _ _ => trivial) (fun _ _ => by kernel_rfl) (fun s' K' l' p w' _ h => (remove1_any p w').mono fun e w2 ⟨h1, h2⟩ => ⟨h1, s', ⟨Int.le_refl _, by omega⟩, by rw [← h2]; exact h⟩) hs1
  have hmf : ∀ (fn : Go.Fn) (first cap : Array Value) (w : World), (Instr.makeFunc fn first cap).run Tryz.prog w = .ok (.func fn first cap) w := fun _ _ _ _ => rfl
  clear hs hs1 J0 hm
  generalize hbb : w.heap.size = bx at *
  go_enter Tryz.func102, Tryz.ntmps102
  go_wp2_with fail
  refine hL.mono ?_
  rintro e w2 ⟨rfl, K1, l1, A', s1, J, _, hr, hu, hm1, h2⟩
  clear hL k0 hw1 hbb
  obtain rfl : A' = [] := by
    cases A' with
    | nil => rfl
    | cons p r => have := hu p r rfl; cases this
  obtain ⟨hxl, hrt, hRA, hRB, hd, hinL⟩ := J.top hin hx
  have hnd : l1.Nodup := by have := (J.rows h).roots.nodup; rwa [updI_at] at this
  have hD := delete_row (x := x) (b := bx) (q := binF f c t n W s1 K1) hm1 hxl hnd (h2.select [3, 4, 0, 1, 2] (by decide) rfl)
  have hlen : l1.length ≤ kk ∧ (K1 x).length < kk := by
    have h1 := J.home.rows J.inv hh (J.rows h) hkk
    rw [updI_at] at h1
    exact ⟨h1.1, h1.2.1 x hxl⟩
  have hsF : splitF n K1 x = splitK K1 x := by unfold splitF; rw [if_pos hrt]
  have hsL : splitL n K1 x = K1 x := by unfold splitL; rw [if_pos hrt]
  have hel : (l1.erase x).length = m := by rw [List.length_erase_of_mem hxl]; omega
  have hout := fun {k K' r' r} => J.out (k := k) (K' := K') (r' := r') (r := r) hin hx
  clear h2 J hu hnd hxl hrt hin
  go_wp2_with fail
  refine hD.mono ?_
  rintro e w3 ⟨rfl, h3⟩
  clear hD
  have h4 : Stage F w (binF f c t n W s1 K1 ++ [Ob.ints (.slice (some ⟨gb, 0, none⟩) m cv) (l1.erase x), Ob.box bx #[.int .i64 x] 3]) w3.drew := h3.drew.select [2, 3, 4, 0, 1] (by decide) rfl
  have f1 : w3.cell? ⟨f, 1, none⟩ = some (.pointer (some ⟨t, 0, none⟩)) := h3.cell 4 rfl rfl
  have k1 : w3.cell? ⟨bx, 0, none⟩ = some (.int .i64 x) := h3.cell 1 rfl rfl
  have hS := Stage.splitCall (q := [Ob.cells c W s1, Ob.box f #[ptrV c, ptrV t] 73, Ob.ints (.slice (some ⟨gb, 0, none⟩) m cv) (l1.erase x), Ob.box bx #[.int .i64 x] 3]) h4 x
  rw [hsF, hsL] at hS
  clear h3 h4 hsF hsL
  have hMM := fun (w4 : World) (v4 : Value) (h5 : Stage F w ([Ob.forest t n (splitK K1 x), Ob.ints v4 (K1 x)] ++ [Ob.cells c W s1, Ob.box f #[ptrV c, ptrV t] 73, Ob.ints (.slice (some ⟨gb, 0, none⟩) m cv) (l1.erase x), Ob.box bx #[.int .i64 x] 3]) w4) => bremove_merge h5 hel hRA hRB hd hinL
  clear hRA hRB hd hinL
  generalize hLL : l1.erase x ++ K1 x = LL at *
  have hLn : (LL.length : Int) ≤ m + (K1 x).length := by rw [← hLL, List.length_append, hel]; omega
  clear hLL hel
  go_wp2_with fail
  go_region_held3 (fun w' => w'.cell? ⟨f, 1, none⟩ = some (.pointer (some ⟨t, 0, none⟩)) ∧ w'.cell? ⟨bx, 0, none⟩ = some (.int .i64 x)) (first | exact ⟨f1, k1⟩ | exact ⟨f1p, k1p⟩ | exact ⟨f1q, k1q⟩ | simp [*])
    (first
    | (((with_reducible refine hS.mono ?_); rintro e w4 ⟨v4, rfl, h5⟩; obtain ⟨a4, c4, rfl, hM⟩ := hMM w4 v4 h5; have f1p : w4.cell? ⟨f, 1, none⟩ = some (.pointer (some ⟨t, 0, none⟩)) := h5.cell 3 rfl rfl; have k1p : w4.cell? ⟨bx, 0, none⟩ = some (.int .i64 x) := h5.cell 5 rfl rfl))
    | (((with_reducible refine hM.mono ?_); rintro e w5 ⟨z, mz, cz, K', s', r, rfl, ⟨k, ⟨r', hl1, hl2⟩, hr3, hs1, hs2, _⟩, h7⟩; have f1q : w5.cell? ⟨f, 1, none⟩ = some (.pointer (some ⟨t, 0, none⟩)) := h7.cell 2 rfl rfl; have k1q : w5.cell? ⟨bx, 0, none⟩ = some (.int .i64 x) := h7.cell 4 rfl rfl)))
  clear hM
  obtain ⟨hA, hk⟩ := hout hl1 hl2 hr3
  clear hout hl1 hl2 hr3
  have h8 : Stage F w (binF f c t n W s' K' ++ [Ob.ints (.slice z mz cz) r]) w5 := h7.take 4
  go_wp2_with fail
  go_ret
  exact ⟨_, _, _, K', r, s', rfl, hA, ⟨by omega, by omega⟩, h8⟩
end
end Go.Proofs.YtmoolbmbdnkooaaGreat
