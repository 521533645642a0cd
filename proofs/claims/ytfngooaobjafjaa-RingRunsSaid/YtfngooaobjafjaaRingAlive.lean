/- The chapter's example; RingNew. -/
import Derived.Test.YtfngooaobjafjaaRingTurn
import Derived.Test.YtfngooaobjafjaaSameI
namespace Go.Proofs.Ytfngooaobjafjaa
open Go.RowKit Go.Sort

def exS1 : RSt := spliceS 3 (spliceS 3 (newS 3) 0 1) 0 2
def exS2 : RSt := partS 3 exS1 2
theorem ex_good1 : RGood 3 exS1 := ((good_new 3 (by decide)).splice 0 1).splice 0 2
theorem ex_good2 : RGood 3 exS2 := ex_good1.part 2
theorem ex_all1 : allR exS1.R 0 = [0, 2, 1] := by
  unfold exS1
  rw [splice_R ((good_new 3 (by decide)).splice 0 1), splice_R (good_new 3 (by decide))]; decide
theorem ex_all2 : allR exS2.R 0 = [0, 1] := by
  unfold exS2 exS1
  rw [part_R (((good_new 3 (by decide)).splice 0 1).splice 0 2), splice_R ((good_new 3 (by decide)).splice 0 1), splice_R (good_new 3 (by decide))]; decide
set_option maxHeartbeats 1000000 in
theorem alive_rg (w : World) : Calls Try.prog 7 #[] w fun e w' => e = .returned (.bool true) ∧ Below w.heap.size w w' := by
  have hN := (Stage.start w).newRing 3 (by decide)
  go_enter Try.func7, Try.ntmps7
  go_wp2_with fail
  refine hN.mono ?_
  rintro e w1 ⟨p, rfl, hs1⟩
  clear hN
  replace hs1 : Stage (fun _ => False) w [Ob.ring p 3 (newS 3)] w1 := hs1
  have hC := hs1.call 0 rfl (fun _ ho => rg_splice (good_new 3 (by decide)).back 0 1 ho)
  clear hs1
  replace hC : Calls Try.prog 17 #[.pointer (some ⟨p, 0, none⟩), .int .i64 0, .int .i64 1] w1 fun e w' => e = .returned (.bool true) ∧ Stage (fun _ => False) w [Ob.ring p 3 (spliceS 3 (newS 3) 0 1)] w' := hC
  go_wp2_with fail
  refine hC.mono ?_
  rintro e w2 ⟨rfl, hs2⟩
  clear hC
  have hC := hs2.call 0 rfl (fun _ ho => rg_splice ((good_new 3 (by decide)).splice 0 1).back 0 2 ho)
  clear hs2
  replace hC : Calls Try.prog 17 #[.pointer (some ⟨p, 0, none⟩), .int .i64 0, .int .i64 2] w2 fun e w' => e = .returned (.bool true) ∧ Stage (fun _ => False) w [Ob.ring p 3 exS1] w' := hC
  go_wp2_with fail
  refine hC.mono ?_
  rintro e w3 ⟨rfl, hs3⟩
  clear hC
  have hA := hs3.newInts ((hs3.get (i := 0) rfl).elim fun _ ho => rg_all ex_good1 0 ho)
  rw [ex_all1] at hA
  clear hs3
  go_wp2_with fail
  refine hA.mono ?_
  rintro e w4 ⟨v4, rfl, hs4⟩
  clear hA
  replace hs4 : Stage (fun _ => False) w [Ob.ring p 3 exS1, Ob.ints v4 [0, 2, 1]] w4 := hs4
  obtain ⟨a4, c4, rfl, c41, c42⟩ := hs4.intsForm 1 rfl
  have hC := hs4.call 0 rfl (fun _ ho => rg_part ex_good1 2 ho)
  clear hs4
  replace hC : Calls Try.prog 16 #[.pointer (some ⟨p, 0, none⟩), .int .i64 2] w4 fun e w' => e = .returned (.bool true) ∧ Stage (fun _ => False) w [Ob.ring p 3 exS2, Ob.ints (.slice a4 3 c4) [0, 2, 1]] w' := hC
  go_wp2_with fail
  refine hC.mono ?_
  rintro e w5 ⟨rfl, hs5⟩
  clear hC
  obtain ⟨w6, hw6, hs6⟩ : ∃ w6, w5.alloc (.cells #[.int .i64 0, .int .i64 2, .int .i64 1] 3) = w6 ∧ Stage (fun _ => False) w [Ob.ring p 3 exS2, Ob.ints (.slice a4 3 c4) [0, 2, 1], Ob.ints (.slice (some ⟨w5.heap.size, 0, none⟩) 3 3) [0, 2, 1]] w6 := ⟨_, rfl, hs5.newRow' 3 1 3 #[.int .i64 0, .int .i64 2, .int .i64 1] rfl (by decide) rfl⟩
  clear hs5
  have hS := same_at [0, 2, 1] [0, 2, 1] a4 (some ⟨w5.heap.size, 0, none⟩) c4 3 ⟨c41, c42⟩ (by decide) (hs6.intsAtI 1 rfl) (hs6.intsAtI 2 rfl)
  rw [decide_eq_true rfl] at hS
  replace hS : Calls Try.prog 15 #[.slice a4 3 c4, .slice (some ⟨w5.heap.size, 0, none⟩) 3 3] w6 _ := hS
  go_wp2_with fail
  try rw [hw6]
  clear hw6
  generalize w5.heap.size = o5 at *
  refine hS.mono ?_
  rintro e w7 ⟨rfl, hb⟩
  have hs7 := (hs6.later hb).take 1
  clear hS hb hs6
  replace hs7 : Stage (fun _ => False) w [Ob.ring p 3 exS2] w7 := hs7
  have hA := hs7.newInts ((hs7.get (i := 0) rfl).elim fun _ ho => rg_all ex_good2 0 ho)
  rw [ex_all2] at hA
  clear hs7
  go_wp2_with fail
  refine hA.mono ?_
  rintro e w8 ⟨v8, rfl, hs8⟩
  clear hA
  replace hs8 : Stage (fun _ => False) w [Ob.ring p 3 exS2, Ob.ints v8 [0, 1]] w8 := hs8
  obtain ⟨a8, c8, rfl, c81, c82⟩ := hs8.intsForm 1 rfl
  obtain ⟨w9, hw9, hs9⟩ : ∃ w9, w8.alloc (.cells #[.int .i64 0, .int .i64 1] 3) = w9 ∧ Stage (fun _ => False) w [Ob.ring p 3 exS2, Ob.ints (.slice a8 2 c8) [0, 1], Ob.ints (.slice (some ⟨w8.heap.size, 0, none⟩) 2 2) [0, 1]] w9 := ⟨_, rfl, hs8.newRow' 3 1 2 #[.int .i64 0, .int .i64 1] rfl (by decide) rfl⟩
  clear hs8
  have hS := same_at [0, 1] [0, 1] a8 (some ⟨w8.heap.size, 0, none⟩) c8 2 ⟨c81, c82⟩ (by decide) (hs9.intsAtI 1 rfl) (hs9.intsAtI 2 rfl)
  rw [decide_eq_true rfl] at hS
  replace hS : Calls Try.prog 15 #[.slice a8 2 c8, .slice (some ⟨w8.heap.size, 0, none⟩) 2 2] w9 _ := hS
  replace hs9 := hs9.below
  go_wp2_with fail
  try rw [hw9]
  clear hw9
  refine hS.mono ?_
  rintro e w10 ⟨rfl, hb⟩
  have hb9 := below_then hs9 hb hs9.size
  clear hS hb
  go_wp2_with fail
  go_ret
  exact ⟨rfl, hb9⟩
theorem new_next (n : Nat) (x : Int) : nextI n (newS n) x = if inR n x then x else 0 := rfl
theorem new_prev (n : Nat) (x : Int) : prevI n (newS n) x = if inR n x then x else 0 := rfl
theorem new_all {n : Nat} (hn : n ≤ 65536) {x : Int} (hx : inR n x = true) : allR (newS n).R x = [x] := by
  obtain ⟨s, h1, h2, h3, _⟩ := (good_new n hn).inv.all (inR_iff.1 hx)
  rw [h1, self_ring h2 h3 rfl]
set_option maxHeartbeats 1000000 in
theorem ringNew_walk (n x : Int) (W : World) : Calls Try.prog 3 #[.int .i64 n, .int .i64 x] W fun e w' => e = .returned (.bool true) ∧ Below W.heap.size W w' := by
  have hAl := alive_rg W
  by_cases hn : 0 ≤ n ∧ n ≤ 65536
  · obtain ⟨k, rfl⟩ : ∃ k : Nat, n = k := ⟨n.toNat, by omega⟩
    have hk : k ≤ 65536 := by omega
    have hN1 : ¬ ((k : Int) < 0) := by omega
    have hN2 : ¬ ((65536 : Int) < k) := by omega
    have G := good_new k hk
    clear hn
    go_enter Try.func3, Try.ntmps3
    go_wp2_with fail
    refine hAl.mono ?_
    rintro e w0 ⟨rfl, hb0⟩
    clear hAl
    have hs0 := (Stage.start W).later hb0
    have hN := hs0.newRing k hk
    clear hs0
    go_wp2_with fail
    refine hN.mono ?_
    rintro e w1 ⟨p, rfl, hs1⟩
    clear hN hb0
    replace hs1 : Stage (fun _ => False) W [Ob.ring p k (newS k)] w1 := hs1
    have hNx := hs1.ask 0 rfl (fun _ ho => rg_next x ho)
    have hPv := hs1.ask 0 rfl (fun _ ho => rg_prev x ho)
    have hSm := hs1.askB 0 rfl (fun _ ho => rg_same G x x ho)
    have hAx := fun w2 (h : Stage (fun _ => False) W [Ob.ring p k (newS k)] w2) => h.newInts ((h.get (i := 0) rfl).elim fun _ ho => rg_all G x ho)
    rw [new_next] at hNx
    rw [new_prev] at hPv
    cases hx : inR k x
    · have hno := G.none hx
      rw [hno] at hAx hSm
      rw [hx] at hNx hPv
      rw [if_neg (by decide)] at hNx hPv
      replace hSm : Calls Try.prog 11 #[.pointer (some ⟨p, 0, none⟩), .int .i64 x, .int .i64 x] w1 fun e w' => e = .returned (.bool false) ∧ _ := hSm
      have hc : ¬ 0 ≤ x ∨ (0 ≤ x ∧ ¬ x < (k : Int)) := by
        by_cases h : 0 ≤ x
        · refine Or.inr ⟨h, fun h2 => ?_⟩
          rw [inR_iff.2 ⟨h, h2⟩] at hx; cases hx
        · exact Or.inl h
      clear G hno hs1 hx
      rcases hc with h1 | ⟨h1, h2⟩
      all_goals
        go_wp2_with fail
        refine hNx.mono ?_
        rintro e w2 ⟨rfl, rfl⟩
        go_wp2_with fail
        refine hPv.mono ?_
        rintro e w2 ⟨rfl, rfl⟩
        clear hNx hPv
        go_wp2_with fail
        refine hSm.mono ?_
        rintro e w3 ⟨rfl, hs3⟩
        clear hSm
        replace hAx := hAx _ hs3
        clear hs3
        go_wp2_with fail
        refine hAx.mono ?_
        rintro e w4 ⟨v4, rfl, hs4⟩
        clear hAx
        replace hs4 : Stage (fun _ => False) W [Ob.ring p k (newS k), Ob.ints v4 []] w4 := hs4
        obtain ⟨a4, c4, rfl, _, _⟩ := hs4.intsForm 1 rfl
        replace hs4 := hs4.below
        go_wp2_with fail
        go_ret
        exact ⟨rfl, hs4⟩
    · have hall := new_all hk hx
      rw [hall] at hAx hSm
      rw [hx] at hNx hPv
      rw [if_pos rfl] at hNx hPv
      rw [show [x].contains x = true by simp] at hSm
      obtain ⟨h1, h2⟩ := inR_iff.1 hx
      clear G hall hs1 hx
      go_wp2_with fail
      refine hNx.mono ?_
      rintro e w2 ⟨rfl, rfl⟩
      go_wp2_with fail
      refine hPv.mono ?_
      rintro e w2 ⟨rfl, rfl⟩
      clear hNx hPv
      go_wp2_with fail
      refine hSm.mono ?_
      rintro e w3 ⟨rfl, hs3⟩
      clear hSm
      replace hAx := hAx _ hs3
      clear hs3
      go_wp2_with fail
      refine hAx.mono ?_
      rintro e w4 ⟨v4, rfl, hs4⟩
      clear hAx
      replace hs4 : Stage (fun _ => False) W [Ob.ring p k (newS k), Ob.ints v4 [x]] w4 := hs4
      obtain ⟨a4, c4, rfl, _, _⟩ := hs4.intsForm 1 rfl
      replace hs4 := hs4.below
      go_wp2_with fail
      go_ret
      exact ⟨rfl, hs4⟩
  · have hc : n < 0 ∨ (¬ n < 0 ∧ 65536 < n) := by omega
    have hNo := fun w => new_rg_no n w hn
    clear hn
    rcases hc with h1 | ⟨h1, h2⟩
    all_goals
      go_enter Try.func3, Try.ntmps3
      go_wp2_with fail
      refine hAl.mono ?_
      rintro e w0 ⟨rfl, hb0⟩
      clear hAl
      replace hNo := hNo w0
      go_wp2_with fail
      refine hNo.mono ?_
      rintro e w1 ⟨rfl, rfl⟩
      clear hNo
      go_wp2_with fail
      go_ret
      exact ⟨rfl, hb0⟩
end Go.Proofs.Ytfngooaobjafjaa
