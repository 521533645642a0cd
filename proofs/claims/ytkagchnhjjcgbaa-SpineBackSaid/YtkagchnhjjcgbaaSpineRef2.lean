/- What the document's functions return that only look: Above, Root, All, Spine, Same. -/
import Derived.Test.YtkagchnhjjcgbaaSpineRef
namespace Go.Proofs.Ytkagchnhjjcgbaa
open Go.RowKit Go.Sort

theorem above_find {n : Nat} {L : List Hg} (I : HInv n L) {x p : Int} (hp : inN n p) (h : aboveL L x p) : ∃ k, k ≤ n ∧ stepsL L k p = x := by
  obtain ⟨d, D⟩ := I.dep
  obtain ⟨h1, h2⟩ := D.above h
  have := D.lt I hp
  exact ⟨_, by omega, h2⟩
theorem all_mono (L : List Hg) : ∀ (k : Nat) (x : Int), (allL L k x).length ≤ (allL L (k + 1) x).length
  | 0, _ => Nat.zero_le _
  | k + 1, x => by
    have h : ∀ o : Option Int, (o.elim [] (allL L k)).length ≤ (o.elim [] (allL L (k + 1))).length := fun o => by
      cases o with
      | none => exact Nat.le_refl _
      | some c => exact all_mono L k c
    have h1 := h (kidL L x false)
    have h2 := h (kidL L x true)
    rw [allL, allL]
    simp only [List.length_cons, List.length_append]
    omega
theorem all_mono' (L : List Hg) (x : Int) (k j : Nat) (h : k ≤ j) : (allL L k x).length ≤ (allL L j x).length := by
  induction h with
  | refl => exact Nat.le_refl _
  | step _ ih => exact Nat.le_trans ih (all_mono L _ x)
def AbovePost (A : Prop) (w : World) (e : Ending) (w' : World) : Prop := ∃ b, e = .returned (.bool b) ∧ (b = true ↔ A) ∧ Below w.heap.size w w'
section
variable {w : World} {v : Value} {n : Nat} {L : List Hg}
theorem rabove_any (I : HInv n L) (hn : n ≤ 65536) (x p : Int) (h : DocAt w v L) : Calls Try.prog 26 #[.agg #[.int .i64 n, v], .int .i64 x, .int .i64 p] w (AbovePost (aboveL L x p) w) := by
  have hs := (Stage.start w).alloc #[.int .i64 n, v] docT
  have hU : ∀ wr, Below w.heap.size w wr → ∀ y, _ := fun wr hb y => rup_any n y (h.later hb)
  have hnot : (∀ k, k ≤ n → stepsL L k p ≠ x) → inN n p → ¬ aboveL L x p := fun h hp ha => by
    obtain ⟨k, h1, h2⟩ := above_find I hp ha
    exact h k h1 h2
  have hout : ¬ inN n p → upL L p = none := up_out I
  have hyes : ∀ k, stepsL L k p = x → aboveL L x p := fun k e => ⟨k, e⟩
  have htop : ∀ k, upL L (stepsL L k p) = none → (∀ i, i ≤ k → stepsL L i p ≠ x) → ¬ aboveL L x p := fun k e hno ⟨i, hi⟩ => by
    by_cases hik : i ≤ k
    · exact hno i hik hi
    · obtain ⟨j, rfl⟩ : ∃ j, i = k + j := ⟨i - k, by omega⟩
      rw [steps_add, steps_top e] at hi
      exact hno k (Nat.le_refl _) hi
  have hgo : ∀ j y, upL L (stepsL L j p) = some y → stepsL L (j + 1) p = y := fun j y e => by rw [steps_succ]; unfold stepL; rw [e]; rfl
  have hinp : ∀ y, upL L (stepsL L 0 p) = some y → inN n p := fun y e => (up_in I e).1
  have hz := Lib.hid (show stepsL L 0 p = p from rfl)
  clear I h
  generalize stepsL L = st at *
  generalize aboveL L x p = AB at *
  go_enter Try.func26, Try.ntmps26
  go_wp2_with fail
  go_loopw [2, 7] (fun y i wr => ∃ j : Nat, i = .int .i64 j ∧ j ≤ n + 1 ∧ y = .int .i64 (st j p) ∧ (∀ i, i < j → st i p ≠ x) ∧ (0 < j → inN n p) ∧ Stage (fun _ => False) w [Ob.box w.heap.size #[.int .i64 n, v] docT] wr) (fun _ i _ => n + 1 - (intOf i).toNat)
  case atStart => exact ⟨0, rfl, Nat.zero_le _, by rw [hz.out], fun i hi => absurd hi (Nat.not_lt_zero _), fun h => absurd h (Nat.lt_irrefl _), hs⟩
  case round =>
    clear hs hz
    obtain ⟨j, rfl, hj, rfl, hno, hpos, hs⟩ := hrel
    have k0 := hs.cell 0 rfl (o := 0) rfl
    have k1 := hs.cell 0 rfl (o := 1) rfl
    by_cases hjn : j ≤ n
    · have hji : (j : Int) ≤ n := by omega
      by_cases he : st j p = x
      · have hAB := hyes j he
        have he' := Lib.hid he
        clear hU hnot hout hyes htop hgo hinp hno
        rw [he]
        go_wp2_with fail
        go_ret
        exact ⟨true, rfl, ⟨fun _ => hAB, fun _ => rfl⟩, hs.below⟩
      · have he' : (x == st j p) = false := by
          rw [beq_eq_false_iff_ne]; exact fun e => he e.symm
        have hno2 : ∀ i, i ≤ j → st i p ≠ x := fun i hi => by
          by_cases e : i = j
          · rw [e]; exact he
          · exact hno i (by omega)
        have hUj := hU wr hs.below (st j p)
        cases hu : upL L (st j p) with
        | none =>
          rw [hu] at hUj
          have hR := htop j hu hno2
          clear hU hnot hout hyes htop hgo hinp hno hu hno2 he
          generalize st j p = y at *
          go_wp2_with fail
          refine hUj.mono ?_
          rintro e w1 ⟨rfl, hb⟩
          go_wp2_with fail
          go_ret
          exact ⟨false, rfl, ⟨fun h => (by cases h), fun h => absurd h hR⟩, (hs.later hb).below⟩
        | some b =>
          rw [hu] at hUj
          have hb := Lib.hid (hgo j b hu)
          have hip : inN n p := by
            by_cases h0 : 0 < j
            · exact hpos h0
            · obtain rfl : j = 0 := by omega
              exact hinp b hu
          clear hU hnot hout hyes htop hgo hinp hno hu he
          generalize st j p = y at *
          go_wp2_with fail
          refine hUj.mono ?_
          rintro e w1 ⟨rfl, hb1⟩
          have hs2 := hs.later hb1
          go_wp2_with fail
          go_roundw
          case rel => exact ⟨j + 1, by go_num, by omega, by rw [hb.out], fun i hi => hno2 i (by omega), fun _ => hip, hs2⟩
          case measure => simp [intOf]; omega
    · have hji : ¬ (j : Int) ≤ n := by omega
      have hR := Lib.hid (hnot (fun k hk => hno k (by omega)) (hpos (by omega)))
      clear hU hnot hout hyes htop hgo hinp hno
      generalize st j p = y at *
      go_wp2_with fail
      go_ret
      exact ⟨false, rfl, ⟨fun h => (by cases h), fun h => absurd h hR.out⟩, hs.below⟩
theorem rroot_any (hn : n ≤ 65536) (x : Int) (h : DocAt w v L) : Calls Try.prog 32 #[.agg #[.int .i64 n, v], .int .i64 x] w fun e w' => e = .returned (.tuple #[.int .i64 (rootI n L x), .bool (hasN n x)]) ∧ Below w.heap.size w w' := by
  have hs := (Stage.start w).alloc #[.int .i64 n, v] docT
  have hU : ∀ wr, Below w.heap.size w wr → ∀ y, _ := fun wr hb y => rup_any n y (h.later hb)
  have hH := rhas_any n x v (w.alloc (.cells #[.int .i64 n, v] docT))
  unfold rootI
  cases hx : hasN n x
  · rw [hx] at hH
    have hb0 := hs.below
    clear hU
    have k0 := hs.cell 0 rfl (o := 0) rfl
    have k1 := hs.cell 0 rfl (o := 1) rfl
    go_enter Try.func32, Try.ntmps32
    go_wp2_with fail
    refine hH.mono ?_
    rintro e w1 ⟨rfl, hb⟩
    have hb2 := (hs.later hb).below
    clear hs hH hb0 k0 k1
    go_wp2_with fail
    go_ret2
    exact ⟨rfl, hb2⟩
  · rw [hx] at hH
    rw [if_pos rfl]
    have hgo : ∀ j, stepsL L (j + 1) x = (upL L (stepsL L j x)).getD (stepsL L j x) := fun j => by rw [steps_succ]; rfl
    have hz := Lib.hid (show stepsL L 0 x = x from rfl)
    have hall := Lib.hid (show rootN L n x = stepsL L n x from rfl)
    generalize rootN L n x = R at *
    clear hx h
    generalize stepsL L = st at *
    go_enter Try.func32, Try.ntmps32
    go_wp2_with fail
    refine hH.mono ?_
    rintro e w1 ⟨rfl, hb⟩
    replace hs := hs.later hb
    replace hs : Stage (fun _ => False) w [Ob.box w.heap.size #[.int .i64 n, v] docT] w1 := hs
    clear hH hb
    go_wp2_with fail
    go_loopw [1, 6] (fun y i wr => ∃ j : Nat, i = .int .i64 j ∧ j ≤ n ∧ y = .int .i64 (st j x) ∧ Stage (fun _ => False) w [Ob.box w.heap.size #[.int .i64 n, v] docT] wr) (fun _ i _ => n - (intOf i).toNat)
    case atStart => exact ⟨0, rfl, Nat.zero_le _, by rw [hz.out], hs⟩
    case round =>
      clear hs hz
      obtain ⟨j, rfl, hj, rfl, hs⟩ := hrel
      have k0 := hs.cell 0 rfl (o := 0) rfl
      have k1 := hs.cell 0 rfl (o := 1) rfl
      by_cases hjn : j < n
      · have hji : (j : Int) < n := by omega
        have hUj := hU wr hs.below (st j x)
        have hst := hgo j
        cases hu : upL L (st j x) with
        | none =>
          rw [hu] at hUj hst
          replace hst := Lib.hid (show st (j + 1) x = st j x from hst)
          clear hU hgo hu hall
          generalize st j x = y at *
          go_wp2_with fail
          refine hUj.mono ?_
          rintro e w2 ⟨rfl, hb⟩
          have hs2 := hs.later hb
          go_wp2_with fail
          go_roundw
          case rel => exact ⟨j + 1, by go_num, by omega, by rw [hst.out], hs2⟩
          case measure => simp [intOf]; omega
        | some b =>
          rw [hu] at hUj hst
          replace hst := Lib.hid (show st (j + 1) x = b from hst)
          clear hU hgo hu hall
          generalize st j x = y at *
          go_wp2_with fail
          refine hUj.mono ?_
          rintro e w2 ⟨rfl, hb⟩
          have hs2 := hs.later hb
          go_wp2_with fail
          go_roundw
          case rel => exact ⟨j + 1, by go_num, by omega, by rw [hst.out], hs2⟩
          case measure => simp [intOf]; omega
      · have hji : ¬ (j : Int) < n := by omega
        obtain rfl : j = n := by omega
        clear hU hgo
        generalize st j x = y at *
        have hall2 := hall.out
        subst hall2
        go_wp2_with fail
        go_ret2
        exact ⟨rfl, hs.below⟩
/-- Are two rows one? -/
theorem same_any {F0 : Nat → Prop} {W0 : World} {l : List Ob} {va vb : Value} {la lb : List Int} (hs : Stage F0 W0 l w) (i j : Nat) (hi : l[i]? = some (Ob.ints va la)) (hj : l[j]? = some (Ob.ints vb lb)) :
    Calls Try.prog 17 #[va, vb] w fun e w' => e = .returned (.bool (decide (la = lb))) ∧ Below w.heap.size w w' := by
  obtain ⟨a1, c1, rfl, h11, h12⟩ := hs.intsForm i hi
  obtain ⟨a2, c2, rfl, h21, h22⟩ := hs.intsForm j hj
  by_cases hl : la.length = lb.length
  · have hA : ∀ wr, Below w.heap.size w wr → ∀ k, k < la.length → ∃ g g', a1 = some ⟨g, 0, none⟩ ∧ a2 = some ⟨g', 0, none⟩ ∧ wr.cell? ⟨g, k, none⟩ = some (.int .i64 (la.getD k 0)) ∧ wr.cell? ⟨g', k, none⟩ = some (.int .i64 (lb.getD k 0)) := fun wr hb k hk => by
      obtain ⟨g, c, e1, _, _, _, h5, _⟩ := (hs.later hb).intsAt i hi (by omega)
      obtain ⟨g', c', e2, _, _, _, h6, _⟩ := (hs.later hb).intsAt j hj (by omega)
      cases e1; cases e2
      exact ⟨g, g', rfl, rfl, h5 k hk, h6 k (by omega)⟩
    have hne : ∀ k, k < la.length → la.getD k 0 ≠ lb.getD k 0 → decide (la = lb) = false := fun k _ h => decide_eq_false (fun e => h (by rw [e]))
    have heq : (∀ k, k < la.length → la.getD k 0 = lb.getD k 0) → decide (la = lb) = true := fun h => decide_eq_true (by
      apply List.ext_getElem hl
      intro k h1 h2
      have := h k h1
      simpa [List.getD_eq_getElem?_getD, h1, h2] using this)
    rw [← hl] at h21 ⊢
    generalize decide (la = lb) = B at *
    clear hs
    generalize la.length = m at *
    go_enter Try.func17, Try.ntmps17
    go_wp2_with fail
    go_loopw [13] (fun i wr => ∃ k : Nat, i = .int .i64 k ∧ k ≤ m ∧ (∀ i, i < k → la.getD i 0 = lb.getD i 0) ∧ Below w.heap.size w wr) (fun i _ => m - (intOf i).toNat)
    case atStart => exact ⟨0, rfl, Nat.zero_le _, fun i hi => absurd hi (Nat.not_lt_zero _), Below.refl _ _⟩
    case round =>
      obtain ⟨k, rfl, hk, hall, hb⟩ := hrel
      by_cases hkm : k < m
      · have hki : (k : Int) < m := by omega
        obtain ⟨g, g', rfl, rfl, u1, u2⟩ := hA wr hb k hkm
        by_cases e : la.getD k 0 = lb.getD k 0
        · have hall2 : ∀ i, i < k + 1 → la.getD i 0 = lb.getD i 0 := fun i hi => by
            by_cases e2 : i = k
            · rw [e2]; exact e
            · exact hall i (by omega)
          rw [e] at u1
          generalize lb.getD k 0 = y at *
          clear hA hne heq hall e
          go_wp2_with fail
          go_quiet (fail)
          go_wp2_with fail
          go_roundw
          case rel => exact ⟨k + 1, by go_num, by omega, hall2, below_drewN hb _⟩
          case measure => simp [intOf]; omega
        · have hB := hne k hkm e
          subst hB
          have e1 : (la.getD k 0 == lb.getD k 0) = false := by simpa using e
          have e2 : (la.getD k 0 != lb.getD k 0) = true := by simpa using e
          clear hA hne heq hall e
          generalize la.getD k 0 = x at *
          generalize lb.getD k 0 = y at *
          go_wp2_with fail
          go_quiet (fail)
          go_wp2_with fail
          go_ret
          exact ⟨rfl, below_drewN hb _⟩
      · obtain rfl : k = m := by omega
        have hB := heq hall
        subst hB
        clear hA hne heq hall
        go_wp2_with fail
        go_ret
        exact ⟨rfl, hb⟩
  · rw [decide_eq_false (fun e => hl (by rw [e]))]
    have hl1 : ((la.length : Int) == lb.length) = false := by simp; omega
    have hl2 : ((la.length : Int) != lb.length) = true := by simp; omega
    clear hs
    generalize la.length = m at *
    generalize lb.length = m2 at *
    go_enter Try.func17, Try.ntmps17
    go_wp2_with fail
    go_ret
    exact ⟨rfl, Below.refl _ _⟩
set_option maxHeartbeats 1000000 in
/-- All of a tree, so many levels. -/
theorem rall_any (I : HInv n L) (hn : n ≤ 65536) : ∀ (k : Nat) (_ : k ≤ n) (x : Int) (w : World), inN n x → DocAt w v L → Calls Try.prog 18 #[.agg #[.int .i64 n, v], .int .i64 x, .int .i64 k] w (ListPost w (allL L k x)) := by
  intro k
  induction k with
  | zero =>
    intro _ x w hx h
    have hs := (Stage.start w).alloc #[.int .i64 n, v] docT
    have hH := rhas_any n x v (w.alloc (.cells #[.int .i64 n, v] docT))
    rw [has_in.2 hx] at hH
    have k0 := hs.cell 0 rfl (o := 0) rfl
    have k1 := hs.cell 0 rfl (o := 1) rfl
    have hl : ∀ w', Below (w.alloc (.cells #[.int .i64 n, v] docT)).heap.size (w.alloc (.cells #[.int .i64 n, v] docT)) w' → ListPost w [] (.returned (.slice none 0 0)) w' := fun w' hb => list_close ((((hs.later hb).nilRow 0 3 1).select [1] (by decide) rfl))
    clear hs
    show Calls _ _ _ _ (ListPost w [])
    go_enter Try.func18, Try.ntmps18
    go_wp2_with fail
    refine hH.mono ?_
    rintro e w1 ⟨rfl, hb⟩
    have hl1 := hl w1 hb
    clear hl hH k0 k1 hb
    go_wp2_with fail
    go_ret
    exact hl1
  | succ k ih =>
    intro hk x w hx h
    have hs := (Stage.start w).alloc #[.int .i64 n, v] docT
    have hH := rhas_any n x v (w.alloc (.cells #[.int .i64 n, v] docT))
    rw [has_in.2 hx] at hH
    have k0 := hs.cell 0 rfl (o := 0) rfl
    have k1 := hs.cell 0 rfl (o := 1) rfl
    have hK := fun wr (hb : Below w.heap.size w wr) r => rkid_any n x r (h.later hb)
    have hA := fun c r (e : kidL L x r = some c) wr (hb : Below w.heap.size w wr) => ih (by omega) c wr (kid_in I e).1 (h.later hb)
    have hlen := fun c r (e : kidL L x r = some c) => Nat.le_trans (all_mono' L c k n (by omega)) (all_le I (kid_in I e).1)
    have e1 : IntKind.i64.wrap ((k : Int) + 1 - 1) = k := by rw [Int.add_sub_cancel]; exact IntWalk.i64_in _ (by omega)
    have hk1 : ¬ ((k : Int) + 1 < 1) := by omega
    rw [show ((k + 1 : Nat) : Int) = (k : Int) + 1 by omega]
    rw [allL]
    clear ih I h
    generalize allL L k = al at *
    generalize ho1 : kidL L x false = o1 at *
    generalize ho2 : kidL L x true = o2 at *
    go_enter Try.func18, Try.ntmps18
    go_wp2_with fail
    refine hH.mono ?_
    rintro e w1 ⟨rfl, hb⟩
    replace hs := (hs.later hb).newRow 3 1 1 #[.int .i64 x] rfl (by decide)
    replace hs : Stage (fun _ => False) w [Ob.box w.heap.size #[.int .i64 n, v] docT, Ob.ints (.slice (some ⟨w1.heap.size, 0, none⟩) 1 1) [x]] _ := hs
    clear hb hH k0 k1
    have k0 := hs.cell 0 rfl (o := 0) rfl
    have k1 := hs.cell 0 rfl (o := 1) rfl
    have hK1 := hK _ hs.below false
    rw [ho1] at hK1
    go_wp2_with fail
    refine hK1.mono ?_
    rintro e w2 ⟨rfl, hb⟩
    replace hs := hs.later hb
    clear hb hK1 k0 k1
    cases o1 with
    | none =>
      have k0 := hs.cell 0 rfl (o := 0) rfl
      have k1 := hs.cell 0 rfl (o := 1) rfl
      have hK2 := hK _ hs.below true
      rw [ho2] at hK2
      go_wp2_with fail
      refine hK2.mono ?_
      rintro e w5 ⟨rfl, hb⟩
      replace hs := hs.later hb
      clear hb hK2 k0 k1 hK
      cases o2 with
      | none =>
        have hl := list_close (hs.select [1] (by decide) rfl)
        clear hs hA hlen
        go_wp2_with fail
        go_ret
        simpa using hl
      | some c2 =>
        have k0 := hs.cell 0 rfl (o := 0) rfl
        have k1 := hs.cell 0 rfl (o := 1) rfl
        have hA2 := hA c2 true ho2 w5 hs.below
        have hq2 := hlen c2 true ho2
        go_wp2_with fail
        refine hA2.mono ?_
        rintro e w6 ⟨v6, rfl, G6, g61, g62, hb⟩
        replace hs := hs.add hb g61 g62
        replace hs : Stage (fun _ => False) w [Ob.box w.heap.size #[.int .i64 n, v] docT, Ob.ints _ [x], Ob.ints v6 (al c2)] w6 := hs
        clear hA2 g61 g62 hb k0 k1 hA hlen
        go_wp2_with (at_builtin; refine hs.wp_appendInts 1 rfl 2 rfl rfl _ _ 29 rfl Try.underlying29 sinfo_int rfl rfl (by simp; omega) ?_)
        intro v7 w7 hs7
        have hl := list_close (hs7.select [1] (by decide) rfl)
        clear hs hs7
        go_wp2_with fail
        go_ret
        simpa using hl
    | some c1 =>
      have k0 := hs.cell 0 rfl (o := 0) rfl
      have k1 := hs.cell 0 rfl (o := 1) rfl
      have hA1 := hA c1 false ho1 w2 hs.below
      have hq1 := hlen c1 false ho1
      go_wp2_with fail
      refine hA1.mono ?_
      rintro e w3 ⟨v3, rfl, G3, g31, g32, hb⟩
      replace hs := hs.add hb g31 g32
      replace hs : Stage (fun _ => False) w [Ob.box w.heap.size #[.int .i64 n, v] docT, Ob.ints _ [x], Ob.ints v3 (al c1)] w3 := hs
      clear hA1 g31 g32 hb k0 k1
      go_wp2_with (at_builtin; refine hs.wp_appendInts 1 rfl 2 rfl rfl _ _ 29 rfl Try.underlying29 sinfo_int rfl rfl (by simp; omega) ?_)
      intro v4 w4 hs4
      replace hs : Stage (fun _ => False) w [Ob.box w.heap.size #[.int .i64 n, v] docT, Ob.ints v4 ([x] ++ al c1)] w4 := hs4.take 2
      clear hs4
      have k0 := hs.cell 0 rfl (o := 0) rfl
      have k1 := hs.cell 0 rfl (o := 1) rfl
      have hK2 := hK _ hs.below true
      rw [ho2] at hK2
      go_wp2_with fail
      refine hK2.mono ?_
      rintro e w5 ⟨rfl, hb⟩
      replace hs := hs.later hb
      clear hb hK2 k0 k1 hK
      cases o2 with
      | none =>
        have hl := list_close (hs.select [1] (by decide) rfl)
        clear hs hA hlen
        go_wp2_with fail
        go_ret
        simpa using hl
      | some c2 =>
        have k0 := hs.cell 0 rfl (o := 0) rfl
        have k1 := hs.cell 0 rfl (o := 1) rfl
        have hA2 := hA c2 true ho2 w5 hs.below
        have hq2 := hlen c2 true ho2
        go_wp2_with fail
        refine hA2.mono ?_
        rintro e w6 ⟨v6, rfl, G6, g61, g62, hb⟩
        replace hs := hs.add hb g61 g62
        replace hs : Stage (fun _ => False) w [Ob.box w.heap.size #[.int .i64 n, v] docT, Ob.ints _ ([x] ++ al c1), Ob.ints v6 (al c2)] w6 := hs
        clear hA2 g61 g62 hb k0 k1 hA hlen
        go_wp2_with (at_builtin; refine hs.wp_appendInts 1 rfl 2 rfl rfl _ _ 29 rfl Try.underlying29 sinfo_int rfl rfl (by simp; omega) ?_)
        intro v7 w7 hs7
        have hl := list_close (hs7.select [1] (by decide) rfl)
        clear hs hs7
        go_wp2_with fail
        go_ret
        simpa using hl
end
end Go.Proofs.Ytkagchnhjjcgbaa
