/- What the statements' play returns: acts are done to rings and to the document's; they are answered alike. (Written by gen_play.py.) -/
import Derived.Test.YtfngooaobjafjaaRingDo
namespace Go.Proofs.Ytfngooaobjafjaa
open Go.RowKit Go.Sort

/-- Behind play: the document's rings are the rings. -/
def PlayPostR (W : World) (p n : Nat) (e : Ending) (w' : World) : Prop := ∃ v S, e = .returned (.tuple #[v, .bool true]) ∧ RGood n S ∧ S.R.length ≤ 65536 ∧ Stage (fun _ => False) W [Ob.ring p n S, Ob.docL v S.R] w'
set_option maxRecDepth 100000 in
set_option maxHeartbeats 8000000 in
theorem play_rg {W w : World} {p n : Nat} (hn : n ≤ 24) (a0 : Option Addr) (n0 cap : Nat) (hcap : n0 ≤ cap ∧ cap ≤ 9223372036854775807) (h60 : n0 ≤ 60) (hact : RActsAt W a0 n0) (hs : Stage (fun _ => False) W [Ob.ring p n (newS n)] w) :
    Calls Try.prog 13 #[.pointer (some ⟨p, 0, none⟩), .int .i64 n, .slice a0 n0 cap] w (PlayPostR W p n) := by
  obtain ⟨hcap1, hcap2⟩ := hcap
  have hN := hs.newDoc n (by omega)
  clear hs
  go_enter Try.func13, Try.ntmps13
  go_wp2_with fail
  refine hN.mono ?_
  rintro e w0 ⟨u0, rfl, hs0⟩
  clear hN
  replace hs0 : Stage (fun _ => False) W [Ob.ring p n (newS n), Ob.docL u0 (newS n).R] w0 := hs0
  go_wp2_with fail
  go_loopw [8, 25] (fun v i wr => ∃ (k : Nat) (S : RSt) (u : Value), v = u ∧ k ≤ n0 ∧ i = .int .i64 k ∧ RGood n S ∧ S.R.length ≤ n + 2 * k ∧ Stage (fun _ => False) W [Ob.ring p n S, Ob.docL u S.R] wr) (fun _ i _ => n0 - (intOf i).toNat)
  case atStart => exact ⟨0, _, _, rfl, Nat.zero_le _, rfl, good_new n (by omega), by simp [newS], hs0⟩
  case round =>
    clear hs0
    obtain ⟨k, S, u, rfl, hk, rfl, G, hl, hs⟩ := hrel
    by_cases hlt : k < n0
    · have hki : (k : Int) < n0 := by omega
      obtain ⟨ba, offa, x, y, z, rfl, q0, q1, q2⟩ := hact k hlt
      replace q0 := later hs.below q0
      replace q1 := later hs.below q1
      replace q2 := later hs.below q2
      obtain ⟨w1, hw1, hs1⟩ : ∃ w1, wr.alloc (.cells #[.int .i64 x, .int .i64 y, .int .i64 z] 42) = w1 ∧ Stage (fun _ => False) W [Ob.ring p n S, Ob.docL _ S.R, Ob.box wr.heap.size #[.int .i64 x, .int .i64 y, .int .i64 z] 42] w1 := ⟨_, rfl, hs.alloc _ _⟩
      have b0 := hs1.cell 2 rfl (o := 0) rfl
      have b1 := hs1.cell 2 rfl (o := 1) rfl
      have b2 := hs1.cell 2 rfl (o := 2) rfl
      clear hs hact
      by_cases h0 : x = 0
      · subst h0
        have hL := hs1.docSplice G (by omega) 1 rfl y z
        have hP := fun (wx : World) u' (h : Stage (fun _ => False) W [Ob.ring p n S, Ob.docL u' (spliceS n S y z).R, Ob.box wr.heap.size #[.int .i64 0, .int .i64 y, .int .i64 z] 42] wx) => h.call 0 rfl (fun _ ho => rg_splice G.back y z ho)
        have G2 := G.splice y z
        have hl2 : (spliceS n S y z).R.length ≤ n + 2 * (k + 1) := by rw [splice_R G]; have := splice_few S.R y z; omega
        have e1 : ((inR n y && inR n z) == (inR n y && inR n z)) = true := by simp
        generalize spliceS n S y z = S2 at *
        generalize (inR n y && inR n z) = B at *
        clear hs1 G hl
        go_wp2_with fail
        try rw [hw1]
        clear hw1 q0 q1 q2
        generalize wr.heap.size = bX at *
        refine hL.mono ?_
        rintro e w2 ⟨u2, rfl, hs2⟩
        replace hs2 : Stage (fun _ => False) W [Ob.ring p n S, Ob.docL u2 S2.R, Ob.box bX #[.int .i64 0, .int .i64 y, .int .i64 z] 42] w2 := hs2
        clear hL b0 b1 b2
        have b1 := hs2.cell 2 rfl (o := 1) rfl
        have b2 := hs2.cell 2 rfl (o := 2) rfl
        replace hP := hP w2 _ hs2
        clear hs2
        go_wp2_with fail
        refine hP.mono ?_
        rintro e w3 ⟨rfl, hs3⟩
        replace hs3 : Stage (fun _ => False) W [Ob.ring p n S2, Ob.docL u2 S2.R, Ob.box bX #[.int .i64 0, .int .i64 y, .int .i64 z] 42] w3 := hs3
        clear hP b1 b2
        have hD := hs3.docAll G2 1 rfl y
        have b1 := hs3.cell 2 rfl (o := 1) rfl
        clear hs3
        go_wp2_with fail
        refine hD.mono ?_
        rintro e w4 ⟨v4, rfl, hs4⟩
        clear hD b1
        replace hs4 : Stage (fun _ => False) W [Ob.ring p n S2, Ob.docL u2 S2.R, Ob.box bX #[.int .i64 0, .int .i64 y, .int .i64 z] 42, Ob.ints v4 (allR S2.R y)] w4 := hs4
        obtain ⟨a4, c4, rfl, c41, c42⟩ := hs4.intsForm 3 rfl
        have hA := hs4.ringAll G2 0 rfl y
        have b1 := hs4.cell 2 rfl (o := 1) rfl
        clear hs4
        go_wp2_with fail
        refine hA.mono ?_
        rintro e w5 ⟨v5, rfl, hs5⟩
        clear hA b1
        replace hs5 : Stage (fun _ => False) W [Ob.ring p n S2, Ob.docL u2 S2.R, Ob.box bX #[.int .i64 0, .int .i64 y, .int .i64 z] 42, Ob.ints (.slice a4 (allR S2.R y).length c4) (allR S2.R y), Ob.ints v5 (allR S2.R y)] w5 := hs5
        obtain ⟨a5, c5, rfl, _, _⟩ := hs5.intsForm 4 rfl
        have hE := hs5.sameInts 4 3 rfl rfl
        rw [decide_eq_true rfl] at hE
        go_wp2_with fail
        refine hE.mono ?_
        rintro e w6 ⟨rfl, hb⟩
        have hs6 := hs5.later hb
        clear hE hb hs5
        have hNx := hs6.ask 0 rfl (fun _ ho => rg_next y ho)
        have hPv := hs6.ask 0 rfl (fun _ ho => rg_prev y ho)
        have b1 := hs6.cell 2 rfl (o := 1) rfl
        have hs7 : Stage (fun _ => False) W [Ob.ring p n S2, Ob.docL u2 S2.R] w6 := hs6.take 2
        cases hy : inR n y
        · have hno := G2.none hy
          rw [hno] at *
          have e2 : nextI n S2 y = 0 := by unfold nextI; rw [hy]; rfl
          have e3 : prevI n S2 y = 0 := by unfold prevI; rw [hy]; rfl
          rw [hy, e2] at hNx
          rw [hy, e3] at hPv
          clear hs6 e2 e3
          simp only [List.length_nil] at *
          go_wp2_with fail
          refine hNx.mono ?_
          rintro e w7 ⟨rfl, rfl⟩
          go_wp2_with fail
          refine hPv.mono ?_
          rintro e w7 ⟨rfl, rfl⟩
          clear hNx hPv b1
          go_wp2_with fail
          go_roundw
          case rel => exact ⟨k + 1, _, _, rfl, by omega, by go_num, G2, hl2, hs7⟩
          case measure => simp [intOf]; omega
        · obtain ⟨m, j, hm, hm1, hm2, ht, hj, e2, e3⟩ := ring_looks G2 hy
          rw [hy] at hNx hPv
          obtain ⟨g4, cc, hv, _, _, _, hcl, _⟩ := hs6.intsAt 3 rfl (by omega)
          cases hv
          have f0 := hcl j (by omega)
          have f1 := hcl (m - 1) (by omega)
          rw [e2] at f0
          rw [e3] at f1
          rw [hm] at *
          generalize nextI n S2 y = nx at *
          generalize prevI n S2 y = pv at *
          have hmi : (0 : Int) < m := by omega
          have hji : (j : Int) < m := by omega
          have hm3 : ((m : Int) - 1) = ((m - 1 : Nat) : Int) := by omega
          obtain ⟨m', hm'⟩ : ∃ m', m - 1 = m' := ⟨_, rfl⟩
          rw [hm'] at hm3 f1
          have hm4 : (m' : Int) < m := by omega
          clear hs6 hcl e2 e3 hm'
          go_wp2_with fail
          refine hNx.mono ?_
          rintro e w7 ⟨rfl, rfl⟩
          go_wp2_with fail
          refine hPv.mono ?_
          rintro e w7 ⟨rfl, rfl⟩
          clear hNx hPv b1
          go_wp2_with fail
          go_roundw
          case rel => exact ⟨k + 1, _, _, rfl, by omega, by go_num, G2, hl2, hs7⟩
          case measure => simp [intOf]; omega
      have h0' : (x == 0) = false := by simpa using h0
      by_cases h1 : x = 1
      · subst h1
        have hL := hs1.docPart G (by omega) 1 rfl y
        have hP := fun (wx : World) u' (h : Stage (fun _ => False) W [Ob.ring p n S, Ob.docL u' (partS n S y).R, Ob.box wr.heap.size #[.int .i64 1, .int .i64 y, .int .i64 z] 42] wx) => h.call 0 rfl (fun _ ho => rg_part G y ho)
        have G2 := G.part y
        have hl2 : (partS n S y).R.length ≤ n + 2 * (k + 1) := by rw [part_R G]; have := part_few S.R y; omega
        have e1 : (inR n y == inR n y) = true := by simp
        generalize partS n S y = S2 at *
        generalize hB : inR n y = B at *
        clear hB hs1 G hl
        go_wp2_with fail
        try rw [hw1]
        clear hw1 q0 q1 q2
        generalize wr.heap.size = bX at *
        refine hL.mono ?_
        rintro e w2 ⟨u2, rfl, hs2⟩
        replace hs2 : Stage (fun _ => False) W [Ob.ring p n S, Ob.docL u2 S2.R, Ob.box bX #[.int .i64 1, .int .i64 y, .int .i64 z] 42] w2 := hs2
        clear hL b0 b1 b2
        have b1 := hs2.cell 2 rfl (o := 1) rfl
        replace hP := hP w2 _ hs2
        clear hs2
        go_wp2_with fail
        refine hP.mono ?_
        rintro e w3 ⟨rfl, hs3⟩
        replace hs3 : Stage (fun _ => False) W [Ob.ring p n S2, Ob.docL u2 S2.R, Ob.box bX #[.int .i64 1, .int .i64 y, .int .i64 z] 42] w3 := hs3
        clear hP b1
        have hD := hs3.docAll G2 1 rfl y
        have b1 := hs3.cell 2 rfl (o := 1) rfl
        clear hs3
        go_wp2_with fail
        refine hD.mono ?_
        rintro e w4 ⟨v4, rfl, hs4⟩
        clear hD b1
        replace hs4 : Stage (fun _ => False) W [Ob.ring p n S2, Ob.docL u2 S2.R, Ob.box bX #[.int .i64 1, .int .i64 y, .int .i64 z] 42, Ob.ints v4 (allR S2.R y)] w4 := hs4
        obtain ⟨a4, c4, rfl, c41, c42⟩ := hs4.intsForm 3 rfl
        have hA := hs4.ringAll G2 0 rfl y
        have b1 := hs4.cell 2 rfl (o := 1) rfl
        clear hs4
        go_wp2_with fail
        refine hA.mono ?_
        rintro e w5 ⟨v5, rfl, hs5⟩
        clear hA b1
        replace hs5 : Stage (fun _ => False) W [Ob.ring p n S2, Ob.docL u2 S2.R, Ob.box bX #[.int .i64 1, .int .i64 y, .int .i64 z] 42, Ob.ints (.slice a4 (allR S2.R y).length c4) (allR S2.R y), Ob.ints v5 (allR S2.R y)] w5 := hs5
        obtain ⟨a5, c5, rfl, _, _⟩ := hs5.intsForm 4 rfl
        have hE := hs5.sameInts 4 3 rfl rfl
        rw [decide_eq_true rfl] at hE
        go_wp2_with fail
        refine hE.mono ?_
        rintro e w6 ⟨rfl, hb⟩
        have hs6 := hs5.later hb
        clear hE hb hs5
        have hNx := hs6.ask 0 rfl (fun _ ho => rg_next y ho)
        have hPv := hs6.ask 0 rfl (fun _ ho => rg_prev y ho)
        have b1 := hs6.cell 2 rfl (o := 1) rfl
        have hs7 : Stage (fun _ => False) W [Ob.ring p n S2, Ob.docL u2 S2.R] w6 := hs6.take 2
        cases hy : inR n y
        · have hno := G2.none hy
          rw [hno] at *
          have e2 : nextI n S2 y = 0 := by unfold nextI; rw [hy]; rfl
          have e3 : prevI n S2 y = 0 := by unfold prevI; rw [hy]; rfl
          rw [hy, e2] at hNx
          rw [hy, e3] at hPv
          clear hs6 e2 e3
          simp only [List.length_nil] at *
          go_wp2_with fail
          refine hNx.mono ?_
          rintro e w7 ⟨rfl, rfl⟩
          go_wp2_with fail
          refine hPv.mono ?_
          rintro e w7 ⟨rfl, rfl⟩
          clear hNx hPv b1
          go_wp2_with fail
          go_roundw
          case rel => exact ⟨k + 1, _, _, rfl, by omega, by go_num, G2, hl2, hs7⟩
          case measure => simp [intOf]; omega
        · obtain ⟨m, j, hm, hm1, hm2, ht, hj, e2, e3⟩ := ring_looks G2 hy
          rw [hy] at hNx hPv
          obtain ⟨g4, cc, hv, _, _, _, hcl, _⟩ := hs6.intsAt 3 rfl (by omega)
          cases hv
          have f0 := hcl j (by omega)
          have f1 := hcl (m - 1) (by omega)
          rw [e2] at f0
          rw [e3] at f1
          rw [hm] at *
          generalize nextI n S2 y = nx at *
          generalize prevI n S2 y = pv at *
          have hmi : (0 : Int) < m := by omega
          have hji : (j : Int) < m := by omega
          have hm3 : ((m : Int) - 1) = ((m - 1 : Nat) : Int) := by omega
          obtain ⟨m', hm'⟩ : ∃ m', m - 1 = m' := ⟨_, rfl⟩
          rw [hm'] at hm3 f1
          have hm4 : (m' : Int) < m := by omega
          clear hs6 hcl e2 e3 hm'
          go_wp2_with fail
          refine hNx.mono ?_
          rintro e w7 ⟨rfl, rfl⟩
          go_wp2_with fail
          refine hPv.mono ?_
          rintro e w7 ⟨rfl, rfl⟩
          clear hNx hPv b1
          go_wp2_with fail
          go_roundw
          case rel => exact ⟨k + 1, _, _, rfl, by omega, by go_num, G2, hl2, hs7⟩
          case measure => simp [intOf]; omega
      have h1' : (x == 1) = false := by simpa using h1
      · obtain ⟨bX, hbX⟩ : ∃ b, wr.heap.size = b := ⟨_, rfl⟩
        rw [hbX] at hs1 b0 b1 b2
        have G2 := G
        have hl2 : S.R.length ≤ n + 2 * (k + 1) := by omega
        clear hl G
        have hs3 := hs1
        have hD := hs3.docAll G2 1 rfl y
        have b1 := hs3.cell 2 rfl (o := 1) rfl
        clear hs3
        go_wp2_with fail
        try rw [hw1]
        try rw [hbX]
        clear hw1 hbX q0 q1 q2 b0 b2
        refine hD.mono ?_
        rintro e w4 ⟨v4, rfl, hs4⟩
        clear hD b1
        replace hs4 : Stage (fun _ => False) W [Ob.ring p n S, Ob.docL _ S.R, Ob.box bX #[.int .i64 x, .int .i64 y, .int .i64 z] 42, Ob.ints v4 (allR S.R y)] w4 := hs4
        obtain ⟨a4, c4, rfl, c41, c42⟩ := hs4.intsForm 3 rfl
        have hA := hs4.ringAll G2 0 rfl y
        have b1 := hs4.cell 2 rfl (o := 1) rfl
        clear hs4
        go_wp2_with fail
        refine hA.mono ?_
        rintro e w5 ⟨v5, rfl, hs5⟩
        clear hA b1
        replace hs5 : Stage (fun _ => False) W [Ob.ring p n S, Ob.docL _ S.R, Ob.box bX #[.int .i64 x, .int .i64 y, .int .i64 z] 42, Ob.ints (.slice a4 (allR S.R y).length c4) (allR S.R y), Ob.ints v5 (allR S.R y)] w5 := hs5
        obtain ⟨a5, c5, rfl, _, _⟩ := hs5.intsForm 4 rfl
        have hE := hs5.sameInts 4 3 rfl rfl
        rw [decide_eq_true rfl] at hE
        go_wp2_with fail
        refine hE.mono ?_
        rintro e w6 ⟨rfl, hb⟩
        have hs6 := hs5.later hb
        clear hE hb hs5
        have hNx := hs6.ask 0 rfl (fun _ ho => rg_next y ho)
        have hPv := hs6.ask 0 rfl (fun _ ho => rg_prev y ho)
        have b1 := hs6.cell 2 rfl (o := 1) rfl
        have hs7 : Stage (fun _ => False) W [Ob.ring p n S, Ob.docL _ S.R] w6 := hs6.take 2
        cases hy : inR n y
        · have hno := G2.none hy
          rw [hno] at *
          have e2 : nextI n S y = 0 := by unfold nextI; rw [hy]; rfl
          have e3 : prevI n S y = 0 := by unfold prevI; rw [hy]; rfl
          rw [hy, e2] at hNx
          rw [hy, e3] at hPv
          clear hs6 e2 e3
          simp only [List.length_nil] at *
          go_wp2_with fail
          refine hNx.mono ?_
          rintro e w7 ⟨rfl, rfl⟩
          go_wp2_with fail
          refine hPv.mono ?_
          rintro e w7 ⟨rfl, rfl⟩
          clear hNx hPv b1
          go_wp2_with fail
          go_roundw
          case rel => exact ⟨k + 1, _, _, rfl, by omega, by go_num, G2, hl2, hs7⟩
          case measure => simp [intOf]; omega
        · obtain ⟨m, j, hm, hm1, hm2, ht, hj, e2, e3⟩ := ring_looks G2 hy
          rw [hy] at hNx hPv
          obtain ⟨g4, cc, hv, _, _, _, hcl, _⟩ := hs6.intsAt 3 rfl (by omega)
          cases hv
          have f0 := hcl j (by omega)
          have f1 := hcl (m - 1) (by omega)
          rw [e2] at f0
          rw [e3] at f1
          rw [hm] at *
          generalize nextI n S y = nx at *
          generalize prevI n S y = pv at *
          have hmi : (0 : Int) < m := by omega
          have hji : (j : Int) < m := by omega
          have hm3 : ((m : Int) - 1) = ((m - 1 : Nat) : Int) := by omega
          obtain ⟨m', hm'⟩ : ∃ m', m - 1 = m' := ⟨_, rfl⟩
          rw [hm'] at hm3 f1
          have hm4 : (m' : Int) < m := by omega
          clear hs6 hcl e2 e3 hm'
          go_wp2_with fail
          refine hNx.mono ?_
          rintro e w7 ⟨rfl, rfl⟩
          go_wp2_with fail
          refine hPv.mono ?_
          rintro e w7 ⟨rfl, rfl⟩
          clear hNx hPv b1
          go_wp2_with fail
          go_roundw
          case rel => exact ⟨k + 1, _, _, rfl, by omega, by go_num, G2, hl2, hs7⟩
          case measure => simp [intOf]; omega
    · have hki : ¬ (k : Int) < n0 := by omega
      go_wp2_with fail
      go_ret2
      exact ⟨_, S, rfl, G, by omega, hs⟩
end Go.Proofs.Ytfngooaobjafjaa
